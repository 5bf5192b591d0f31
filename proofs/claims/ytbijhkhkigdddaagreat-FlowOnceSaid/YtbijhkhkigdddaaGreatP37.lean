/- FlL19 FlL20. -/
import Derived.Test.YtbijhkhkigdddaaGreatP32
import Derived.Test.YtbijhkhkigdddaaGreatP36
set_option linter.all false
set_option maxRecDepth 100000
set_option maxHeartbeats 32000000
namespace Go.Proofs.YtbijhkhkigdddaaGreat
open Go.RowKit
theorem flhset_any (n₀ : Nat) (l : List Nat) (S H : Nat) (s : Fs) (f : Fv) (c : Cf) (e : Int) (A : Option Addr) (n k : Nat) (t : Tv) (G : Option Addr) (m d : Nat) (told : List Prt) (bs mk : Int) (w : World) (h : Hg n₀ l w S H s f c e A n k t G m d told bs mk) (hok : FvOk f c) (ht : t60 t.now = true) : Calls Tryz.prog 65 #[.pointer (some ⟨S, 0, none⟩)] w fun e' w' => e' = .returned (.tuple #[]) ∧ Hg n₀ l w' S H s (setF f c t.now) c e A n k t G m d told bs mk ∧ Fr n₀ l w w' := by
 obtain ⟨x, hx⟩ : ∃ x, setR f.r f.l f.pb t.now c.longest = x := ⟨_, rfl⟩
 have HX := Zh hx
 have hF : setF f c t.now = { f with tm := x.1 } := by unfold setF; rw [hx]
 have hw := w_valid (setF_ok hok ht)
 rw [hF] at hw ⊢
 have HW := Zh hw
 clear hx hok ht hF hw
 go_enter Tryz.func65, Tryz.ntmps65
 refine kB [32] 33 (fun (W : World) => Hg n₀ l W S H s f c e A n k t G m d told bs mk ∧ Fr n₀ l w W) ⟨h.drew, Fr.call (Zb).drew h.st.size h.old⟩ (fun HS => ?_)
 generalize w.drew = wd1 at HS  ⊢
 refine kU 0 HS ?_
 refine kU 1 HS ?_
 refine kU 2 HS ?_
 refine kU 3 HS ?_
 refine kU 4 HS ?_
 refine kS 5 rfl (sub_y (cs := (scs s f c t.now e)) (vs := [f.r.has, f.r.srtt, f.r.vr, f.r.rto, f.r.shift]) is_rtt (by rfl) (.tmp 7) rfl rfl (fun w hSw => hSw.1.st.bx) rfl rfl) HS ?_
 refine kU 6 HS ?_
 refine kU 7 HS ?_
 refine kU 8 HS ?_
 refine kU 9 HS ?_
 refine kC 10 (v := .slice s.a1 s.n1 s.c1) (fun w hSw => hSw.1.st.bx.cell 1 rfl) HS ?_
 refine kU 11 HS ?_
 refine kU 12 HS ?_
 refine kU 13 HS ?_
 refine kU 14 HS ?_
 refine kC 15 (v := .bool f.pb) (fun w hSw => hSw.1.st.bx.cell 32 rfl) HS ?_
 refine kU 16 HS ?_
 refine kU 17 HS ?_
 refine kU 18 HS ?_
 refine kC 19 (v := .int .i64 t.now) (fun w hSw => hSw.1.st.bx.cell 42 rfl) HS ?_
 refine kU 20 HS ?_
 refine kU 21 HS ?_
 refine kU 22 HS ?_
 refine kU 23 HS ?_
 refine kC 24 (v := .int .i64 c.longest) (fun w hSw => hSw.1.st.bx.cell 36 rfl) HS ?_
 refine wpAnyV_one (k := 25) rfl (by kernel_rfl) (fun K hK => ?_)
 go_simp
 refine (tiset_any f.r _ _ _ f.l _ _ _ _ HS.1.st.fm.l).mono ?_
 rintro e2 w2 ⟨he, hb⟩
 rw [HX.out] at he
 subst he
 refine kK hK ⟨HS.1.call hb, HS.2.trans (HS.1.frm hb)⟩ (fun HS => ?_)
 clear hK K
 refine kU 26 HS ?_
 refine kU 27 HS ?_
 refine kUv 28 (.int .i64 x.2) HS ?_
 refine kU 29 HS ?_
 refine kU 30 HS ?_
 refine kU 31 HS ?_
 refine wpAnyV_end (k := 32) rfl (by kernel_rfl) (fun K hK => ?_)
 refine sub_end is_timer (by rfl) (.tmp 33) (.tmp 29) rfl rfl [x.1.kd, x.1.at_] rfl HS.1.st.bx (by show (29 : Nat) ≤ 44; decide) rfl rfl ?_
 have HA := Zh (show Hg n₀ l (w2.setCells S 27 [x.1.kd, x.1.at_]) S H s { f with tm := x.1 } c e A n k t G m d told bs mk ∧ Fr n₀ l w (w2.setCells S 27 [x.1.kd, x.1.at_]) from ⟨HS.1.cells 27 _ rfl (HS.1.st.fm.same rfl rfl rfl rfl HW.out), HS.2.trans (HS.1.frc 27 [x.1.kd, x.1.at_])⟩)
 clear HS hb
 refine hK _ _ ?_
 clear hK K
 generalize w2.setCells S 27 [x.1.kd, x.1.at_] = wa at HA ⊢
 try simp only [Act.put, List.setIfInBounds_toArray, List.set_cons_zero, List.set_cons_succ]
 refine ⟨by kernel_rfl, ?_⟩
 go_wp2_with fail
 go_end0
 exact ⟨rfl, HA.out.1, HA.out.2⟩
theorem ent_hreceive : ∀ args w, (callFunc 73 args).run Tryz.prog w = .ok (.enter 73 args) w := enters_of Tryz.func73 (by kernel_rfl) rfl
theorem ent_hmeasure : ∀ args w, (callFunc 74 args).run Tryz.prog w = .ok (.enter 74 args) w := enters_of Tryz.func74 (by kernel_rfl) rfl
theorem ent_hfollow : ∀ args w, (callFunc 75 args).run Tryz.prog w = .ok (.enter 75 args) w := enters_of Tryz.func75 (by kernel_rfl) rfl
theorem ent_hcount : ∀ args w, (callFunc 76 args).run Tryz.prog w = .ok (.enter 76 args) w := enters_of Tryz.func76 (by kernel_rfl) rfl
theorem ent_hobey : ∀ args w, (callFunc 77 args).run Tryz.prog w = .ok (.enter 77 args) w := enters_of Tryz.func77 (by kernel_rfl) rfl
theorem ent_hlose : ∀ args w, (callFunc 78 args).run Tryz.prog w = .ok (.enter 78 args) w := enters_of Tryz.func78 (by kernel_rfl) rfl
theorem ent_hturn : ∀ args w, (callFunc 79 args).run Tryz.prog w = .ok (.enter 79 args) w := enters_of Tryz.func79 (by kernel_rfl) rfl
theorem ent_hsettle : ∀ args w, (callFunc 80 args).run Tryz.prog w = .ok (.enter 80 args) w := enters_of Tryz.func80 (by kernel_rfl) rfl
theorem heard_zero {l : List Prt} {got : Int} {sk : List Sp} (h : (heardR l got sk).2.2 = 0) : heardR l got sk = (leftL got sk l, toldL got sk l, 0) := by
 by_cases h1 : smayB l = true ∧ mayB sk = true
 ·by_cases h2 : l.length = 0 ∨ got < (spanR l).1 ∨ (spanR l).2 < got ∨ outB (spanR l) sk = true
  ·rw [heard_none h1 h2] at h; cases h
  ·exact heard_ok h1 h2
 ·rw [heard_no h1] at h; cases h
theorem hd_ok {f : Fv} {c : Cf} {t : Tv} (hh : HrOk f c t) (hu : f.up = true) (h0 : (heardR f.l t.got t.sk).2.2 = 0) (hx : (markH (step2 f c t) t (toldL t.got t.sk f.l)).2.2 = 0) (hy : (rateH (step2 f c t) t (toldL t.got t.sk f.l)).2 = 0) : heardF f c t = (step7 (step2 f c t) c t (toldL t.got t.sk f.l), (toldL t.got t.sk f.l), 0) := by unfold heardF; rw [if_pos hh, if_pos hu, if_pos h0, if_pos hx, if_pos hy]
theorem hd_e0 {f : Fv} {c : Cf} {t : Tv} (hh : HrOk f c t) (hu : f.up = true) (h0 : (heardR f.l t.got t.sk).2.2 ≠ 0) : heardF f c t = (zfv, [], (heardR f.l t.got t.sk).2.2) := by unfold heardF; rw [if_pos hh, if_pos hu, if_neg h0]
theorem hd_e1 {f : Fv} {c : Cf} {t : Tv} (hh : HrOk f c t) (hu : f.up = true) (h0 : (heardR f.l t.got t.sk).2.2 = 0) (hx : (markH (step2 f c t) t (toldL t.got t.sk f.l)).2.2 ≠ 0) : heardF f c t = (zfv, [], (markH (step2 f c t) t (toldL t.got t.sk f.l)).2.2) := by unfold heardF; rw [if_pos hh, if_pos hu, if_pos h0, if_neg hx]
theorem hd_e2 {f : Fv} {c : Cf} {t : Tv} (hh : HrOk f c t) (hu : f.up = true) (h0 : (heardR f.l t.got t.sk).2.2 = 0) (hx : (markH (step2 f c t) t (toldL t.got t.sk f.l)).2.2 = 0) (hy : (rateH (step2 f c t) t (toldL t.got t.sk f.l)).2 ≠ 0) : heardF f c t = (zfv, [], (rateH (step2 f c t) t (toldL t.got t.sk f.l)).2) := by unfold heardF; rw [if_pos hh, if_pos hu, if_pos h0, if_pos hx, if_neg hy]
theorem mark_pos (f : Fv) (t : Tv) (told : List Prt) : 0 ≤ (markH f t told).2.1 := by
 unfold markH
 by_cases k : mmay f.m = true ∧ HeardOk t.ace t.ce (told.length : Int) (lenSum told)
 ·by_cases k2 : Fits f.m t.ace t.ce (told.length : Int) (lenSum told)
  ·rw [mheard_ok k k2]
   show 0 ≤ nR f.m t.ace t.ce (told.length : Int)
   have := n0_bd f.m t.ace
   unfold nR; split <;> omega
  ·rw [mheard_over k k2]; exact Int.le_refl _
 ·rw [mheard_no k]; exact Int.le_refl _
theorem countG_ok {f : Fv} {c : Cf} (h : FvOk f c) (t : Tv) (told : List Prt) : FvOk (countG f t told) c := by
 refine ⟨h.fine, h.l, h.r, h.b, markH_may f t told, ?_, h.k, h.w, h.t, h.g, h.next, h.rd, h.link⟩
 show ramay (smpD _ _) = true
 unfold smpD
 split
 ·split
  ·exact sampR_may _ _ _
  ·exact rateH_may f t told
 ·exact rateH_may f t told
theorem loseG_ok {f : Fv} {c : Cf} {told : List Prt} {now : Int} (h : FvOk f c) (hn : t60 now = true) : FvOk (loseG f c told now) c := by
 unfold loseG; split
 ·exact lostF_ok h hn
 ·exact h
theorem turnG_ok {f : Fv} {c : Cf} {t : Tv} (h : FvOk f c) (g0 : 0 ≤ t.growth) (g1 : t.growth ≤ 1048576) : FvOk (turnG f c t) c := by
 unfold turnG; split
 ·exact roundF_ok h g0 g1
 ·exact h
theorem settleG_ok {f : Fv} {c : Cf} {told : List Prt} (h : FvOk f c) : FvOk (settleG f told) c := by
 unfold settleG; split
 ·exact ⟨h.fine, h.l, h.r, h.b, h.m, h.d, h.k, h.w, h.t, h.g, h.next, h.rd, h.link⟩
 ·exact h
def hF (f : Fv) (c : Cf) (t : Tv) : Nat → Fv
 | 0 => f
 | 1 => { f with l := leftL t.got t.sk f.l }
 | 2 => tookF { f with l := leftL t.got t.sk f.l } c (toldL t.got t.sk f.l) t.now
 | 3 => step2 f c t
 | 4 => countG (step2 f c t) t (toldL t.got t.sk f.l)
 | 5 => markF (countG (step2 f c t) t (toldL t.got t.sk f.l)) c (markH (step2 f c t) t (toldL t.got t.sk f.l)).2.1 (lenSum (toldL t.got t.sk f.l))
 | 6 => loseG (markF (countG (step2 f c t) t (toldL t.got t.sk f.l)) c (markH (step2 f c t) t (toldL t.got t.sk f.l)).2.1 (lenSum (toldL t.got t.sk f.l))) c (toldL t.got t.sk f.l) t.now
 | 7 => turnG (loseG (markF (countG (step2 f c t) t (toldL t.got t.sk f.l)) c (markH (step2 f c t) t (toldL t.got t.sk f.l)).2.1 (lenSum (toldL t.got t.sk f.l))) c (toldL t.got t.sk f.l) t.now) c t
 | 8 => settleG (turnG (loseG (markF (countG (step2 f c t) t (toldL t.got t.sk f.l)) c (markH (step2 f c t) t (toldL t.got t.sk f.l)).2.1 (lenSum (toldL t.got t.sk f.l))) c (toldL t.got t.sk f.l) t.now) c t) (toldL t.got t.sk f.l)
 | _ => setF (settleG (turnG (loseG (markF (countG (step2 f c t) t (toldL t.got t.sk f.l)) c (markH (step2 f c t) t (toldL t.got t.sk f.l)).2.1 (lenSum (toldL t.got t.sk f.l))) c (toldL t.got t.sk f.l) t.now) c t) (toldL t.got t.sk f.l)) c t.now
def HJ (n₀ : Nat) (l : List Nat) (w : World) (S H : Nat) (f : Fv) (c : Cf) (A : Option Addr) (n k : Nat) (t : Tv) (g : Fv) (mk : Int) (W : World) : Prop :=
 (heardR f.l t.got t.sk).2.2 = 0 ∧ (∃ s G m d, Hg n₀ l W S H s g c 0 A n k t G m d (toldL t.got t.sk f.l) (lenSum (toldL t.got t.sk f.l)) mk) ∧ Fr n₀ l w W
def HJ2 (n₀ : Nat) (l : List Nat) (w : World) (S H : Nat) (f : Fv) (c : Cf) (A : Option Addr) (n k : Nat) (t : Tv) (g : Fv) (W : World) : Prop :=
 (markH (step2 f c t) t (toldL t.got t.sk f.l)).2.2 = 0 ∧ (rateH (step2 f c t) t (toldL t.got t.sk f.l)).2 = 0 ∧ HJ n₀ l w S H f c A n k t g (markH (step2 f c t) t (toldL t.got t.sk f.l)).2.1 W
def HPost (n₀ : Nat) (l : List Nat) (w : World) (S H : Nat) (f : Fv) (c : Cf) (A : Option Addr) (n k : Nat) (t : Tv) (W : World) : Prop :=
 (∃ g told mk s G m d, heardF f c t = (g, told, 0) ∧ Hg n₀ l W S H s g c 0 A n k t G m d told (lenSum told) mk ∧ Fr n₀ l w W) ∨ (∃ z, z ≠ 0 ∧ heardF f c t = (zfv, [], z) ∧ Bad n₀ l w W S H z)
theorem flhrun_any (n₀ : Nat) (l : List Nat) (S H R : Nat) (s : Fs) (f : Fv) (c : Cf) (A : Option Addr) (n k : Nat) (t : Tv) (w : World) (h : Hg n₀ l w S H s f c 0 A n k t none 0 0 [] 0 0) (hR : R ∈ l)
  (bR : Bx w R 1 [.func (.func 73) #[.pointer (some ⟨H, 0, none⟩)] #[], .func (.func 74) #[.pointer (some ⟨H, 0, none⟩)] #[], .func (.func 75) #[.pointer (some ⟨H, 0, none⟩)] #[], .func (.func 76) #[.pointer (some ⟨H, 0, none⟩)] #[], .func (.func 77) #[.pointer (some ⟨H, 0, none⟩)] #[], .func (.func 78) #[.pointer (some ⟨H, 0, none⟩)] #[], .func (.func 79) #[.pointer (some ⟨H, 0, none⟩)] #[], .func (.func 80) #[.pointer (some ⟨H, 0, none⟩)] #[], .func (.func 65) #[.pointer (some ⟨S, 0, none⟩)] #[]]) (hsk : Ss w A n k t.sk) (hn : n ≤ 1000) (hok : FvOk f c) (hh : HrOk f c t) (hu : f.up = true) (hc0 : 0 ≤ t.ce) (hc1 : t.ce < 4294967296) :
  Calls Tryz.prog 64 #[.pointer (some ⟨S, 0, none⟩), .slice (some ⟨R, 0, none⟩) 9 9] w fun e w' => e = .returned (.tuple #[]) ∧ HPost n₀ l w S H f c A n k t w' := by
 obtain ⟨hm, ht, g0, g1, a0, a1, ce⟩ := hh
 have hh : HrOk f c t := ⟨hm, ht, g0, g1, a0, a1, ce⟩
 obtain ⟨b0, b1, b2⟩ := told_sum (got := t.got) (sk := t.sk) hok.l
 have o1 : FvOk (hF f c t 1) c := leftF_ok _ _ hok
 have o2 : FvOk (hF f c t 2) c := tookF_ok o1
 have o3 : FvOk (hF f c t 3) c := step2_ok t hok
 have o4 : FvOk (hF f c t 4) c := countG_ok o3 t _
 have o5 : FvOk (hF f c t 5) c := markF_ok o4 b0 (by omega)
 have o6 : FvOk (hF f c t 6) c := loseG_ok o5 ht
 have o7 : FvOk (hF f c t 7) c := turnG_ok o6 g0 g1
 have o8 : FvOk (hF f c t 8) c := settleG_ok o7
 refine flrun_any R S 9 (fun i => match i with | 0 => (73, #[.pointer (some ⟨H, 0, none⟩)], #[]) | 1 => (74, #[.pointer (some ⟨H, 0, none⟩)], #[]) | 2 => (75, #[.pointer (some ⟨H, 0, none⟩)], #[]) | 3 => (76, #[.pointer (some ⟨H, 0, none⟩)], #[]) | 4 => (77, #[.pointer (some ⟨H, 0, none⟩)], #[]) | 5 => (78, #[.pointer (some ⟨H, 0, none⟩)], #[]) | 6 => (79, #[.pointer (some ⟨H, 0, none⟩)], #[]) | 7 => (80, #[.pointer (some ⟨H, 0, none⟩)], #[]) | _ => (65, #[.pointer (some ⟨S, 0, none⟩)], #[]))
  (fun i W => match i with | 0 => W = w | 1 => HJ n₀ l w S H f c A n k t (hF f c t 1) 0 W | 2 => HJ n₀ l w S H f c A n k t (hF f c t 2) 0 W | 3 => HJ n₀ l w S H f c A n k t (hF f c t 3) 0 W | 4 => HJ2 n₀ l w S H f c A n k t (hF f c t 4) W | 5 => HJ2 n₀ l w S H f c A n k t (hF f c t 5) W | 6 => HJ2 n₀ l w S H f c A n k t (hF f c t 6) W | 7 => HJ2 n₀ l w S H f c A n k t (hF f c t 7) W | 8 => HJ2 n₀ l w S H f c A n k t (hF f c t 8) W | _ => HJ2 n₀ l w S H f c A n k t (hF f c t 9) W)
  (HPost n₀ l w S H f c A n k t) w (by omega) ?_ ?_ ?_ ?_ rfl
 ·intro i args w
  match i with
  | 0 => exact ent_hreceive args w
  | 1 => exact ent_hmeasure args w
  | 2 => exact ent_hfollow args w
  | 3 => exact ent_hcount args w
  | 4 => exact ent_hobey args w
  | 5 => exact ent_hlose args w
  | 6 => exact ent_hturn args w
  | 7 => exact ent_hsettle args w
  | _ + 8 => exact ent_set args w
 ·refine Zh (fun i hi W hJ => ?_)
  rcases (show i = 0 ∨ i = 1 ∨ i = 2 ∨ i = 3 ∨ i = 4 ∨ i = 5 ∨ i = 6 ∨ i = 7 ∨ i = 8 by omega) with rfl | rfl | rfl | rfl | rfl | rfl | rfl | rfl | rfl
  ·rw [show W = w from hJ]; exact bR.cell 0 rfl
  ·have hJ2 : HJ n₀ l w S H f c A n k t (hF f c t 1) 0 W := hJ
   exact (hJ2.2.2.bx bR hR).cell 1 rfl
  ·have hJ2 : HJ n₀ l w S H f c A n k t (hF f c t 2) 0 W := hJ
   exact (hJ2.2.2.bx bR hR).cell 2 rfl
  ·have hJ2 : HJ n₀ l w S H f c A n k t (hF f c t 3) 0 W := hJ
   exact (hJ2.2.2.bx bR hR).cell 3 rfl
  ·have hJ2 : HJ2 n₀ l w S H f c A n k t (hF f c t 4) W := hJ
   exact (hJ2.2.2.2.2.bx bR hR).cell 4 rfl
  ·have hJ2 : HJ2 n₀ l w S H f c A n k t (hF f c t 5) W := hJ
   exact (hJ2.2.2.2.2.bx bR hR).cell 5 rfl
  ·have hJ2 : HJ2 n₀ l w S H f c A n k t (hF f c t 6) W := hJ
   exact (hJ2.2.2.2.2.bx bR hR).cell 6 rfl
  ·have hJ2 : HJ2 n₀ l w S H f c A n k t (hF f c t 7) W := hJ
   exact (hJ2.2.2.2.2.bx bR hR).cell 7 rfl
  ·have hJ2 : HJ2 n₀ l w S H f c A n k t (hF f c t 8) W := hJ
   exact (hJ2.2.2.2.2.bx bR hR).cell 8 rfl
 ·refine Zh (fun i hi W hJ => ?_)
  rcases (show i = 0 ∨ i = 1 ∨ i = 2 ∨ i = 3 ∨ i = 4 ∨ i = 5 ∨ i = 6 ∨ i = 7 ∨ i = 8 by omega) with rfl | rfl | rfl | rfl | rfl | rfl | rfl | rfl | rfl
  ·rw [show W = w from hJ]
   refine (flreceive_any n₀ l S H s f c 0 A n k t none 0 0 [] 0 0 w h hok rfl hsk hn).mono ?_
   rintro e W' ⟨rfl, ⟨s2, G, m, d, hs⟩, hf⟩
   refine ⟨rfl, ?_⟩
   by_cases h0 : (heardR f.l t.got t.sk).2.2 = 0
   ·have hz := heard_zero h0
    rw [hz] at hs
    exact .inl ⟨show HJ n₀ l w S H f c A n k t (hF f c t 1) 0 W' from ⟨h0, ⟨s2, G, m, d, hs⟩, hf⟩, hs.st.bx.cell 43 rfl⟩
   ·exact .inr ⟨.inr ⟨_, h0, hd_e0 hh hu h0, hs.bad hf⟩, _, h0, hs.st.bx.cell 43 rfl⟩
  ·obtain ⟨h0, ⟨s2, G, m, d, hs⟩, hf⟩ := (show HJ n₀ l w S H f c A n k t (hF f c t 1) 0 W from hJ)
   refine (flmeasure_any n₀ l S H s2 _ c 0 A n k t G m d _ _ _ W hs o1 (fun x hx => (told_ok hok.l hx).1) (by have := hs.fr.rd.len; omega) ht).mono ?_
   rintro e W' ⟨rfl, ⟨s3, hs3⟩, hf3⟩
   exact ⟨rfl, .inl ⟨show HJ n₀ l w S H f c A n k t (hF f c t 2) 0 W' from ⟨h0, ⟨s3, G, m, d, hs3⟩, hf.trans hf3⟩, hs3.st.bx.cell 43 rfl⟩⟩
  ·obtain ⟨h0, ⟨s2, G, m, d, hs⟩, hf⟩ := (show HJ n₀ l w S H f c A n k t (hF f c t 2) 0 W from hJ)
   refine (flfollow_any n₀ l S H s2 _ c 0 A n k t G m d _ _ _ W hs o2).mono ?_
   rintro e W' ⟨rfl, hs3, hf3⟩
   exact ⟨rfl, .inl ⟨show HJ n₀ l w S H f c A n k t (hF f c t 3) 0 W' from ⟨h0, ⟨s2, G, m, d, hs3⟩, hf.trans hf3⟩, hs3.st.bx.cell 43 rfl⟩⟩
  ·obtain ⟨h0, ⟨s2, G, m, d, hs⟩, hf⟩ := (show HJ n₀ l w S H f c A n k t (hF f c t 3) 0 W from hJ)
   refine (flcount_any n₀ l S H s2 _ c 0 A n k t G m d _ _ _ W hs o3 rfl hc0 hc1 (by have := hs.fr.rd.len; omega)).mono ?_
   rintro e W' ⟨rfl, hc⟩
   refine ⟨rfl, ?_⟩
   rcases hc with ⟨hx, hb⟩ | ⟨hx, hy, hb⟩ | ⟨hx, hy, ⟨s3, hs3⟩, hf3⟩
   ·have hcell : W'.cell? ⟨S, 43, none⟩ = some (.int .i64 (markH (hF f c t 3) t (toldL t.got t.sk f.l)).2.2) := by obtain ⟨⟨_, _, _, _, _, _, _, _, _, _, _, _, _, hg⟩, _⟩ := hb; exact hg.st.bx.cell 43 rfl
    exact .inr ⟨.inr ⟨_, hx, hd_e1 hh hu h0 hx, ⟨hb.1, hf.trans hb.2⟩⟩, _, hx, hcell⟩
   ·have hcell : W'.cell? ⟨S, 43, none⟩ = some (.int .i64 (rateH (hF f c t 3) t (toldL t.got t.sk f.l)).2) := by obtain ⟨⟨_, _, _, _, _, _, _, _, _, _, _, _, _, hg⟩, _⟩ := hb; exact hg.st.bx.cell 43 rfl
    exact .inr ⟨.inr ⟨_, hy, hd_e2 hh hu h0 hx hy, ⟨hb.1, hf.trans hb.2⟩⟩, _, hy, hcell⟩
   ·exact .inl ⟨show HJ2 n₀ l w S H f c A n k t (hF f c t 4) W' from ⟨hx, hy, h0, ⟨s3, G, m, d, hs3⟩, hf.trans hf3⟩, hs3.st.bx.cell 43 rfl⟩
  ·obtain ⟨hx, hy, h0, ⟨s2, G, m, d, hs⟩, hf⟩ := (show HJ2 n₀ l w S H f c A n k t (hF f c t 4) W from hJ)
   refine (flobey_any n₀ l S H s2 _ c 0 A n k t G m d _ _ _ W hs o4 (mark_pos _ _ _) b0 (by omega)).mono ?_
   rintro e W' ⟨rfl, hs3, hf3⟩
   exact ⟨rfl, .inl ⟨show HJ2 n₀ l w S H f c A n k t (hF f c t 5) W' from ⟨hx, hy, h0, ⟨s2, G, m, d, hs3⟩, hf.trans hf3⟩, hs3.st.bx.cell 43 rfl⟩⟩
  ·obtain ⟨hx, hy, h0, ⟨s2, G, m, d, hs⟩, hf⟩ := (show HJ2 n₀ l w S H f c A n k t (hF f c t 5) W from hJ)
   refine (fllose_any n₀ l S H s2 _ c 0 A n k t G m d _ _ _ W hs o5 ht).mono ?_
   rintro e W' ⟨rfl, ⟨s3, hs3⟩, hf3⟩
   exact ⟨rfl, .inl ⟨show HJ2 n₀ l w S H f c A n k t (hF f c t 6) W' from ⟨hx, hy, h0, ⟨s3, G, m, d, hs3⟩, hf.trans hf3⟩, hs3.st.bx.cell 43 rfl⟩⟩
  ·obtain ⟨hx, hy, h0, ⟨s2, G, m, d, hs⟩, hf⟩ := (show HJ2 n₀ l w S H f c A n k t (hF f c t 6) W from hJ)
   refine (flturn_any n₀ l S H s2 _ c 0 A n k t G m d _ _ _ W hs o6 g0 g1).mono ?_
   rintro e W' ⟨rfl, hs3, hf3⟩
   exact ⟨rfl, .inl ⟨show HJ2 n₀ l w S H f c A n k t (hF f c t 7) W' from ⟨hx, hy, h0, ⟨s2, G, m, d, hs3⟩, hf.trans hf3⟩, hs3.st.bx.cell 43 rfl⟩⟩
  ·obtain ⟨hx, hy, h0, ⟨s2, G, m, d, hs⟩, hf⟩ := (show HJ2 n₀ l w S H f c A n k t (hF f c t 7) W from hJ)
   refine (flsettle_any n₀ l S H s2 _ c 0 A n k t G m d _ _ _ W hs o7).mono ?_
   rintro e W' ⟨rfl, hs3, hf3⟩
   exact ⟨rfl, .inl ⟨show HJ2 n₀ l w S H f c A n k t (hF f c t 8) W' from ⟨hx, hy, h0, ⟨s2, G, m, d, hs3⟩, hf.trans hf3⟩, hs3.st.bx.cell 43 rfl⟩⟩
  ·obtain ⟨hx, hy, h0, ⟨s2, G, m, d, hs⟩, hf⟩ := (show HJ2 n₀ l w S H f c A n k t (hF f c t 8) W from hJ)
   refine (flhset_any n₀ l S H s2 _ c 0 A n k t G m d _ _ _ W hs o8 ht).mono ?_
   rintro e W' ⟨rfl, hs3, hf3⟩
   exact ⟨rfl, .inl ⟨show HJ2 n₀ l w S H f c A n k t (hF f c t 9) W' from ⟨hx, hy, h0, ⟨s2, G, m, d, hs3⟩, hf.trans hf3⟩, hs3.st.bx.cell 43 rfl⟩⟩
 ·refine Zh (fun W hJ => ?_)
  obtain ⟨hx, hy, h0, ⟨s2, G, m, d, hs⟩, hf⟩ := (show HJ2 n₀ l w S H f c A n k t (hF f c t 9) W from hJ)
  refine .inl ⟨_, _, (markH (step2 f c t) t (toldL t.got t.sk f.l)).2.1, s2, G, m, d, hd_ok hh hu h0 hx hy, ?_, hf⟩
  rw [step7_eq]
  exact hs
theorem Hg.far {n₀ S H X : Nat} {l : List Nat} {W W' : World} {s : Fs} {f : Fv} {c : Cf} {e : Int} {A : Option Addr} {n k : Nat} {t : Tv} {G : Option Addr} {m d : Nat} {told : List Prt} {bs mk : Int} (h : Hg n₀ l W S H s f c e A n k t G m d told bs mk) (hg : W.grownBy W' (some X)) (hX : X < n₀) : Hg n₀ l W' S H s f c e A n k t G m d told bs mk :=
 ⟨h.st.far hg hX, h.bx.grown hg (fun e => by have := Zo e; have := h.h0; omega), h.h0, h.off, se_grown h.fr h.fo hg (fun b hb e => by have := Zo e; have := hb.1; omega), h.fo⟩
theorem hd_no1 {f : Fv} {c : Cf} {t : Tv} (h : ¬ HrOk f c t) : heardF f c t = (zfv, [], 1) := if_neg h
theorem hd_no3 {f : Fv} {c : Cf} {t : Tv} (h : HrOk f c t) (hu : f.up = false) : heardF f c t = (zfv, [], 3) := by unfold heardF; rw [if_pos h, if_neg (by rw [hu]; simp)]
theorem flheard_any (p : Nat → Prop) (s : Fs) (f : Fv) (c : Cf) (A : Option Addr) (n k : Nat) (t : Tv) (w : World) (hp : NewP w p) (h : FlM w p s f) (hc : CfW c) (ht : TvW t) (hs : Ss w A n k t.sk) (hn : n ≤ 1000) : Calls Tryz.prog 24 #[.agg (fcs s f).toArray, .agg (ccs c).toArray, .agg (tcs A n k t).toArray] w fun e w' => TellFL p w w' e (heardF f c t) := by
 unfold TellFL
 show Calls Tryz.prog 24 #[.agg (fcs s f).toArray, .agg (ccs c).toArray, .agg #[t.got, .slice A n k, t.ace, .int .u32 t.ce, t.now, t.growth]] w _
 obtain ⟨B, hB⟩ : ∃ B, w.heap.size = B := ⟨_, rfl⟩
 have y0 := (((Bx.new w 40 (fcs s f)).alloc (.cells (ccs c).toArray 42)).alloc (.cells #[t.got, .slice A n k, t.ace, .int .u32 t.ce, t.now, t.growth] 46)).alloc (.cells (fcs zfs zfv).toArray 40)
 have k0 := ((Bx.new (w.alloc (.cells (fcs s f).toArray 40)) 42 (ccs c)).alloc (.cells #[t.got, .slice A n k, t.ace, .int .u32 t.ce, t.now, t.growth] 46)).alloc (.cells (fcs zfs zfv).toArray 40)
 have t0 := (Bx.new ((w.alloc (.cells (fcs s f).toArray 40)).alloc (.cells (ccs c).toArray 42)) 46 [t.got, .slice A n k, t.ace, .int .u32 t.ce, t.now, t.growth]).alloc (.cells (fcs zfs zfv).toArray 40)
 have r0 := Bx.new (((w.alloc (.cells (fcs s f).toArray 40)).alloc (.cells (ccs c).toArray 42)).alloc (.cells #[t.got, .slice A n k, t.ace, .int .u32 t.ce, t.now, t.growth] 46)) 40 (fcs zfs zfv)
 have b0 : Below w.heap.size w ((((w.alloc (.cells (fcs s f).toArray 40)).alloc (.cells (ccs c).toArray 42)).alloc (.cells #[t.got, .slice A n k, t.ace, .int .u32 t.ce, t.now, t.growth] 46)).alloc (.cells (fcs zfs zfv).toArray 40)) := ((((Zb).alloc Zr _).alloc (by simp) _).alloc (by simp; omega) _).alloc (by simp; omega) _
 simp only [World.size_alloc] at y0 k0 t0 r0
 have f0 := (((h.alloc (.cells (fcs s f).toArray 40)).alloc (.cells (ccs c).toArray 42)).alloc (.cells #[t.got, .slice A n k, t.ace, .int .u32 t.ce, t.now, t.growth] 46)).alloc (.cells (fcs zfs zfv).toArray 40)
 have s0 := hs.keep b0
 rw [hB] at y0 k0 t0 r0 b0 ⊢
 have HC := Zh hc; have HP := Zh hp; have HBB := Zh hB; have HTV := Zh ht; have HN := Zh hn
 obtain ⟨X, hX⟩ : ∃ X, heardF f c t = X := ⟨_, rfl⟩
 rw [hX]
 have HX := Zh hX
 clear h hc hp hs ht hn hX
 go_enter Tryz.func24, Tryz.ntmps24
 go_upto_region 1 with fail
 change Code.wp _ _ _ _ ((((w.alloc (.cells (fcs s f).toArray 40)).alloc (.cells (ccs c).toArray 42)).alloc (.cells #[t.got, .slice A n k, t.ace, .int .u32 t.ce, t.now, t.growth] 46)).alloc (.cells (fcs zfs zfv).toArray 40))
 generalize ((((w.alloc (.cells (fcs s f).toArray 40)).alloc (.cells (ccs c).toArray 42)).alloc (.cells #[t.got, .slice A n k, t.ace, .int .u32 t.ce, t.now, t.growth] 46)).alloc (.cells (fcs zfs zfv).toArray 40)) = w1 at y0 k0 t0 r0 b0 f0 s0 ⊢
 clear hB
 have z1 : B ≤ w1.heap.size := Zl y0.lt
 have c4 := t0.cell 4 rfl
 have S0 := Zh s0
 clear s0
 go_wp2_with (first | (refine fl_load rfl (.tmp 3) rfl rfl y0 rfl ?_) | (refine cf_load rfl (.tmp 4) rfl rfl k0 rfl ?_))
 refine (flbegin_any p s f c t.now w1 f0 HC.out).mono ?_
 rintro e w2 ⟨hb, hcase⟩
 clear c4
 have t2 := t0.kept hb; have r2 := r0.kept hb; have b2 := b0.trans (hb.mono z1); have z2 : B ≤ w2.heap.size := Zn z1 hb.size
 have S2 := Zh (S0.out.keep hb)
 have hn0 : B + 4 ≤ w1.heap.size := r0.lt
 clear y0 k0 t0 r0 b0 f0 hb S0
 obtain ⟨m0, hm0⟩ : ∃ m, w1.heap.size = m := ⟨_, rfl⟩
 rw [hm0] at hcase hn0
 clear hm0
 have c2 := t2.cell 2 rfl; have c3 := t2.cell 3 rfl; have c5 := t2.cell 5 rfl
 rcases hcase with ⟨hm, S, s', rfl, hst, _⟩ | ⟨hm, rfl⟩
 case inr =>
  have hF : X = (zfv, [], 1) := by rw [← HX.out]; refine hd_no1 (fun h => ?_); rw [h.1, h.2.1] at hm; cases hm
  clear hm hn0
  subst hF
  clear HX
  go_wp2_with (first | (refine fl_store rfl (.tmp 6) (.tmp 39) rfl rfl (fcs zfs zfv) rfl r2 rfl rfl rfl ?_))
  refine fl_end3 (by rfl) (by rfl) (by rfl) (by rfl) (fl_put r2 (fcs zfs zfv)) rfl rfl ?_
  exact ⟨zfs, none, 0, 0, rfl, FlM.zero _ _, Se.none _, In1.zero _ _, b2.grown (fl_grown _ (B + 1 + 1 + 1) _) z2 (fun k hk => by cases hk; omega)⟩
 case inl =>
 have hok := (fmay_iff f c).1 (by simp only [Bool.and_eq_true] at hm; exact hm.1)
 have ht : t60 t.now = true := by simp only [Bool.and_eq_true] at hm; exact hm.2
 have hms := (fmay_iff f c).2 hok
 have T2 := Zh hst
 have cu : w2.cell? ⟨S, 0, none⟩ = some (.bool f.up) := hst.bx.cell 0 rfl
 have HOK := Zh hok
 clear hm hst hok
 cases g1 : fwinB t.growth 0 1048576 with
 | false =>
  have hF : X = (zfv, [], 1) := by rw [← HX.out]; refine hd_no1 (fun h => ?_); rw [(fwin_iff _ _ _).2 ⟨h.2.2.1, h.2.2.2.1⟩] at g1; cases g1
  clear hms ht hn0 cu
  go_upto_region 3 with (go_at_call 38; refine (fwin_any _ _ _ _).mono ?_; rintro e wx ⟨rfl, rfl⟩)
  subst hF
  clear HX
  go_wp2_with (first | (refine fl_store rfl (.tmp 6) (.tmp 39) rfl rfl (fcs zfs zfv) rfl r2 rfl rfl rfl ?_) | (go_at_call 38; refine (fwin_any _ _ _ _).mono ?_; rintro e wx ⟨rfl, rfl⟩))
  refine fl_end3 (by rfl) (by rfl) (by rfl) (by rfl) (fl_put r2 (fcs zfs zfv)) rfl rfl ?_
  exact ⟨zfs, none, 0, 0, rfl, FlM.zero _ _, Se.none _, In1.zero _ _, b2.grown (fl_grown _ (B + 1 + 1 + 1) _) z2 (fun k hk => by cases hk; omega)⟩
 | true =>
 cases g2 : fwinB t.ace 0 7 with
 | false =>
  have hF : X = (zfv, [], 1) := by rw [← HX.out]; refine hd_no1 (fun h => ?_); rw [(fwin_iff _ _ _).2 ⟨h.2.2.2.2.1, h.2.2.2.2.2.1⟩] at g2; cases g2
  clear hms ht hn0 cu
  go_upto_region 3 with (go_at_call 38; refine (fwin_any _ _ _ _).mono ?_; rintro e wx ⟨rfl, rfl⟩)
  subst hF
  clear HX
  go_wp2_with (first | (refine fl_store rfl (.tmp 6) (.tmp 39) rfl rfl (fcs zfs zfv) rfl r2 rfl rfl rfl ?_) | (go_at_call 38; refine (fwin_any _ _ _ _).mono ?_; rintro e wx ⟨rfl, rfl⟩))
  refine fl_end3 (by rfl) (by rfl) (by rfl) (by rfl) (fl_put r2 (fcs zfs zfv)) rfl rfl ?_
  exact ⟨zfs, none, 0, 0, rfl, FlM.zero _ _, Se.none _, In1.zero _ _, b2.grown (fl_grown _ (B + 1 + 1 + 1) _) z2 (fun k hk => by cases hk; omega)⟩
 | true =>
 by_cases g3 : t.ce < 16777216
 case neg =>
  have hF : X = (zfv, [], 1) := by rw [← HX.out]; exact hd_no1 (fun h => g3 h.2.2.2.2.2.2)
  have d3 : decide (16777216 ≤ t.ce) = true := Zt (by omega)
  have d4 : decide (t.ce < 16777216) = false := Zf g3
  clear hms ht hn0 cu g3
  go_upto_region 3 with (go_at_call 38; refine (fwin_any _ _ _ _).mono ?_; rintro e wx ⟨rfl, rfl⟩)
  subst hF
  clear HX
  go_wp2_with (first | (refine fl_store rfl (.tmp 6) (.tmp 39) rfl rfl (fcs zfs zfv) rfl r2 rfl rfl rfl ?_) | (go_at_call 38; refine (fwin_any _ _ _ _).mono ?_; rintro e wx ⟨rfl, rfl⟩))
  refine fl_end3 (by rfl) (by rfl) (by rfl) (by rfl) (fl_put r2 (fcs zfs zfv)) rfl rfl ?_
  exact ⟨zfs, none, 0, 0, rfl, FlM.zero _ _, Se.none _, In1.zero _ _, b2.grown (fl_grown _ (B + 1 + 1 + 1) _) z2 (fun k hk => by cases hk; omega)⟩
 case pos =>
 have d3 : decide (16777216 ≤ t.ce) = false := Zf (by omega)
 have d4 : decide (t.ce < 16777216) = true := Zt g3
 have hHR : HrOk f c t := ⟨hms, ht, ((fwin_iff _ _ _).1 g1).1, ((fwin_iff _ _ _).1 g1).2, ((fwin_iff _ _ _).1 g2).1, ((fwin_iff _ _ _).1 g2).2, g3⟩
 have HR := Zh hHR
 clear hms ht hHR g3
 go_upto_region 4 with (go_at_call 38; refine (fwin_any _ _ _ _).mono ?_; rintro e wx ⟨rfl, rfl⟩)
 clear c2 c3 c5 d3 d4
 cases hu : f.up with
 | false =>
  have hF : X = (zfv, [], 3) := by rw [← HX.out]; exact hd_no3 HR.out hu
  rw [hu] at cu
  clear hu hn0
  subst hF
  clear HX
  go_wp2_with (first | (refine fl_store rfl (.tmp 6) (.tmp 46) rfl rfl (fcs zfs zfv) rfl r2 rfl rfl rfl ?_))
  refine fl_end3 (by rfl) (by rfl) (by rfl) (by rfl) (fl_put r2 (fcs zfs zfv)) rfl rfl ?_
  exact ⟨zfs, none, 0, 0, rfl, FlM.zero _ _, Se.none _, In1.zero _ _, b2.grown (fl_grown _ (B + 1 + 1 + 1) _) z2 (fun k hk => by cases hk; omega)⟩
 | true =>
 rw [hu] at cu
 have HU := Zh hu
 clear hu
 have hg3 := Hg.mk0 T2.out A n k
 obtain ⟨H, hH⟩ : ∃ H, w2.heap.size = H := ⟨_, rfl⟩
 have al : Below w2.heap.size w2 (w2.alloc (.cells (hcs S A n k t none 0 0 0 0).toArray 110)) := (Zb).alloc Zr _
 have t3 := t2.kept al; have r3 := r2.kept al; have b3 := b2.trans (al.mono z2); have z3 : B ≤ (w2.alloc (.cells (hcs S A n k t none 0 0 0 0).toArray 110)).heap.size := Zn z2 al.size
 have S3 := Zh (S2.out.keep al)
 have H3 := Zh hg3
 rw [hH] at H3
 have hSB : B + 4 ≤ S := Zn hn0 T2.out.s0
 clear hg3 al
 go_upto_region 7 with (refine tv_load rfl (.tmp 5) rfl rfl t2 rfl ?_)
 clear t2 r2 b2 z2 S2 cu
 try rw [hH]
 change Code.wp _ _ _ _ (w2.alloc (.cells (hcs S A n k t none 0 0 0 0).toArray 110))
 generalize w2.alloc (.cells (hcs S A n k t none 0 0 0 0).toArray 110) = w3 at H3 t3 r3 b3 z3 S3 ⊢
 clear hH T2
 have ch := H3.out.bx.cell 0 rfl
 go_wp2_with fail
 obtain ⟨R, hR⟩ : ∃ R, w3.heap.size = R := ⟨_, rfl⟩
 have alR : Below w3.heap.size w3 (w3.alloc (.cells #[.func (.func 73) #[.pointer (some ⟨H, 0, none⟩)] #[], .func (.func 74) #[.pointer (some ⟨H, 0, none⟩)] #[], .func (.func 75) #[.pointer (some ⟨H, 0, none⟩)] #[], .func (.func 76) #[.pointer (some ⟨H, 0, none⟩)] #[], .func (.func 77) #[.pointer (some ⟨H, 0, none⟩)] #[], .func (.func 78) #[.pointer (some ⟨H, 0, none⟩)] #[], .func (.func 79) #[.pointer (some ⟨H, 0, none⟩)] #[], .func (.func 80) #[.pointer (some ⟨H, 0, none⟩)] #[], .func (.func 65) #[.pointer (some ⟨S, 0, none⟩)] #[]] 1)) := (Zb).alloc Zr _
 have bR := Bx.new w3 1 [.func (.func 73) #[.pointer (some ⟨H, 0, none⟩)] #[], .func (.func 74) #[.pointer (some ⟨H, 0, none⟩)] #[], .func (.func 75) #[.pointer (some ⟨H, 0, none⟩)] #[], .func (.func 76) #[.pointer (some ⟨H, 0, none⟩)] #[], .func (.func 77) #[.pointer (some ⟨H, 0, none⟩)] #[], .func (.func 78) #[.pointer (some ⟨H, 0, none⟩)] #[], .func (.func 79) #[.pointer (some ⟨H, 0, none⟩)] #[], .func (.func 80) #[.pointer (some ⟨H, 0, none⟩)] #[], .func (.func 65) #[.pointer (some ⟨S, 0, none⟩)] #[]]
 have H7 := H3.out.more Zr alR (by simp)
 have S7 := S3.out.keep alR
 have r7 := r3.kept alR; have b7 := b3.trans (alR.mono z3)
 rw [hR] at bR H7 ⊢
 clear H3 t3 r3 b3 z3 S3 alR hR ch
 generalize w3.alloc (.cells #[.func (.func 73) #[.pointer (some ⟨H, 0, none⟩)] #[], .func (.func 74) #[.pointer (some ⟨H, 0, none⟩)] #[], .func (.func 75) #[.pointer (some ⟨H, 0, none⟩)] #[], .func (.func 76) #[.pointer (some ⟨H, 0, none⟩)] #[], .func (.func 77) #[.pointer (some ⟨H, 0, none⟩)] #[], .func (.func 78) #[.pointer (some ⟨H, 0, none⟩)] #[], .func (.func 79) #[.pointer (some ⟨H, 0, none⟩)] #[], .func (.func 80) #[.pointer (some ⟨H, 0, none⟩)] #[], .func (.func 65) #[.pointer (some ⟨S, 0, none⟩)] #[]] 1) = w7 at bR H7 S7 r7 b7 ⊢
 have hrun := flhrun_any m0 [R] S H R s' f c A n k t w7 H7 (List.mem_cons_self ..) bR S7 HN.out HOK.out HR.out HU.out HTV.out.c0 HTV.out.c1
 refine hrun.mono ?_
 rintro e w8 ⟨rfl, hpost⟩
 clear hrun
 have hfr : Fr m0 [R] w7 w8 := by
  rcases hpost with ⟨g, told, mk, s8, G, m, d, _, _, hf⟩ | ⟨z, _, _, hb⟩
  ·exact hf
  ·exact hb.2
 have r8 := r7.below hfr.below (by omega); have b8 := b7.trans (hfr.below.mono (by omega))
 have z8 : B ≤ w8.heap.size := Zl (Nat.lt_of_le_of_lt (by omega) r8.lt)
 clear bR H7 S7 r7 b7 hfr
 rcases hpost with ⟨g, told, mk, s8, G, m, d, hF, h8, _⟩ | ⟨z, hz, hF, ⟨⟨s8, g8, c8, A8, n8, k8, t8, G, m, d, told, bs, mk, h8⟩, _⟩⟩
 ·have ch := h8.bx.cell 0 rfl
  have s43 : w8.cell? ⟨S, 43, none⟩ = some (.int .i64 0) := h8.st.bx.cell 43 rfl
  rw [HX.out] at hF
  have HF := Zh hF
  clear hF
  go_upto_region 10 with fail
  clear ch s43
  have rr := r8.drew; have bb := b8.drew; have zz : B ≤ w8.drew.heap.size := z8
  refine kB [] 10 (fun (W : World) => Hg m0 [R] W S H s8 g c 0 A n k t G m d told (lenSum told) mk) h8.drew (fun HS => ?_)
  generalize w8.drew = wd at HS rr bb zz ⊢
  refine kU 0 HS ?_
  refine kC 1 (v := .pointer (some ⟨S, 0, none⟩)) (fun w hSw => hSw.bx.cell 0 rfl) HS ?_
  refine kU 2 HS ?_
  refine kU 3 HS ?_
  refine kS 4 rfl (sub_y (cs := (scs s8 g c t.now 0)) (vs := fcs s8 g) is_flow (by rfl) (.tmp 80) rfl rfl (fun w hSw => hSw.st.bx) rfl rfl) HS ?_
  refine kU 5 HS ?_
  refine kC 6 (v := .slice G m d) (fun w hSw => hSw.bx.cell 7 rfl) HS ?_
  refine wpAnyV_one (k := 7) rfl (by kernel_rfl) (fun K hK => ?_)
  refine sub_end is_flow (by rfl) (.tmp 6) (.tmp 81) rfl rfl (fcs s8 g) rfl rr (by decide) rfl (fcs_one _ _) ?_
  have g5 : wd.grownBy (wd.setCells (B + 1 + 1 + 1) 0 (fcs s8 g)) (some (B + 1 + 1 + 1)) := grown_cells (fcs s8 g) 0 wd
  have r9 : Bx (wd.setCells (B + 1 + 1 + 1) 0 (fcs s8 g)) (B + 1 + 1 + 1) 40 (fcs s8 g) := rr.flow s8 g
  have b9 := bb.grown g5 zz (fun k hk => by cases hk; omega)
  have T9 : FlM (wd.setCells (B + 1 + 1 + 1) 0 (fcs s8 g)) (fun b => m0 ≤ b) s8 g := (HS.st.fm.imp (fun b hb => hb.1)).grown g5 (fun b hb e => by have := Zo e; omega)
  have L9 : Se (wd.setCells (B + 1 + 1 + 1) 0 (fcs s8 g)) G m d told ∧ In1 (fun b => m0 ≤ b) G m := ⟨se_grown HS.fr HS.fo g5 (fun b hb e => by have := Zo e; have := hb.1; omega), HS.fo.imp (fun b hb => hb.1)⟩
  have HL := Zh L9
  have HT9 := Zh T9
  clear L9 T9
  refine kK hK (HS.far g5 (by omega)) (fun HS => ?_)
  clear hK K
  clear rr bb zz g5
  generalize wd.setCells (B + 1 + 1 + 1) 0 (fcs s8 g) = wf at HS r9 b9 HL HT9 ⊢
  try simp only [Act.put, List.setIfInBounds_toArray, List.set_cons_zero, List.set_cons_succ]
  refine kU 8 HS ?_
  refine kUv 9 (.int .i64 0) HS ?_
  refine ⟨by kernel_rfl, ?_⟩
  go_wp2_with fail
  refine fl_end3 (by rfl) (by rfl) (by rfl) (by rfl) r9 rfl rfl ?_
  have hX := HF.out
  subst hX
  exact ⟨s8, G, m, d, rfl, HT9.out.imp (fun b hb => HP.out b (by rw [HBB.out]; omega)), HL.out.1, HL.out.2.imp (fun b hb => HP.out b (by rw [HBB.out]; omega)), b9⟩
 ·have ch := h8.bx.cell 0 rfl
  have s43 : w8.cell? ⟨S, 43, none⟩ = some (.int .i64 z) := h8.st.bx.cell 43 rfl
  have dz : (z != 0) = true := by simpa using hz
  rw [HX.out] at hF
  have HF := Zh hF
  clear hF hz
  go_upto_region 9 with fail
  clear ch s43 dz
  have rr := r8.drew; have bb := b8.drew; have zz : B ≤ w8.drew.heap.size := z8
  refine kB [] 9 (fun (W : World) => Hg m0 [R] W S H s8 g8 c8 z A8 n8 k8 t8 G m d told bs mk) h8.drew (fun HS => ?_)
  generalize w8.drew = wd at HS rr bb zz ⊢
  refine wpAnyV_takeU (i := 0) (v := .agg (fcs zfs zfv).toArray) rfl (by kernel_rfl) (fun _ _ _ h => h) (Or.inl ⟨by rfl, fun w _ => ?_⟩) HS ?_
  ·clear HS; go_simp
   kernel_rfl
  try simp only [Act.put, List.setIfInBounds_toArray, List.set_cons_zero, List.set_cons_succ]
  refine kU 1 HS ?_
  refine kC 2 (v := .pointer (some ⟨S, 0, none⟩)) (fun w hSw => hSw.bx.cell 0 rfl) HS ?_
  refine kU 3 HS ?_
  refine kU 4 HS ?_
  refine kC 5 (v := .int .i64 z) (fun w hSw => hSw.st.bx.cell 43 rfl) HS ?_
  refine wpAnyV_one (k := 6) rfl (by kernel_rfl) (fun K hK => ?_)
  refine sub_end is_flow (by rfl) (.tmp 6) (.tmp 71) rfl rfl (fcs zfs zfv) rfl rr (by decide) rfl rfl ?_
  have g5 : wd.grownBy (wd.setCells (B + 1 + 1 + 1) 0 (fcs zfs zfv)) (some (B + 1 + 1 + 1)) := grown_cells (fcs zfs zfv) 0 wd
  have r9 : Bx (wd.setCells (B + 1 + 1 + 1) 0 (fcs zfs zfv)) (B + 1 + 1 + 1) 40 (fcs zfs zfv) := rr.flow zfs zfv
  have b9 := bb.grown g5 zz (fun k hk => by cases hk; omega)
  refine kK hK (HS.far g5 (by omega)) (fun HS => ?_)
  clear hK K
  clear rr bb zz g5
  generalize wd.setCells (B + 1 + 1 + 1) 0 (fcs zfs zfv) = wf at HS r9 b9 ⊢
  try simp only [Act.put, List.setIfInBounds_toArray, List.set_cons_zero, List.set_cons_succ]
  refine kU 7 HS ?_
  refine kUv 8 (.int .i64 z) HS ?_
  refine ⟨by kernel_rfl, ?_⟩
  go_wp2_with fail
  refine fl_end3 (by rfl) (by rfl) (by rfl) (by rfl) r9 rfl rfl ?_
  have hX := HF.out
  subst hX
  exact ⟨zfs, none, 0, 0, rfl, FlM.zero _ _, Se.none _, In1.zero _ _, b9⟩
end Go.Proofs.YtbijhkhkigdddaaGreat
