/- The texts RcL, RcTwo, RcFew, RcEx, RcAwLib. -/
import Derived.Below
import Derived.BigQuiet
import Derived.Deep.AppendLies
import Derived.Deep.DeepCutAuto
import Derived.Deep.QuietTactic
import Derived.IntWalk
import Derived.Laws.AppendOwnNone
import Derived.Laws.Rows
import Derived.Laws.Tables
import Derived.Lib.AppendZeros
import Derived.Lib.Hide
import Derived.Maps.AppendAt
import Derived.OrdersHeld
import Derived.Outline
import Derived.OwnWalkIn
import Derived.Test.YtggnhccpncgfiaaProg
import Derived.WalkKit
import Derived.WalkSmall
import Derived.WalkSpells
import Derived.Test.YtggnhccpncgfiaaM02
import Derived.Test.YtggnhccpncgfiaaM03
import Derived.Test.YtggnhccpncgfiaaM11
import Derived.Test.YtggnhccpncgfiaaM12
import Derived.Test.YtggnhccpncgfiaaM14
import Derived.Test.YtggnhccpncgfiaaM15
import Derived.Test.YtggnhccpncgfiaaM19
import Derived.Test.YtggnhccpncgfiaaM20
set_option linter.all false
namespace Go.Proofs.Ytggnhccpncgfiaa
theorem RcM.bnd {w : World} {p : Nat → Prop} {s : Rcs} {r : Rc} (h : RcM w p s r) (hv : RcOk r) : s.wn ≤ 140737488355328 := va_n (base := r.w.base) (cap := r.w.cap) (en := r.w.en) (gl := r.w.got) (bl := r.w.b) hv.w h.b.rd.len
theorem RcM.bnd2 {w : World} {p : Nat → Prop} {s : Rcs} {r : Rc} (h : RcM w p s r) (hv : r.w.b.length ≤ 140737488355328) : s.wn ≤ 140737488355328 := by rw [← h.b.rd.len]; exact hv
end Go.Proofs.Ytggnhccpncgfiaa
namespace Go.Proofs.Ytggnhccpncgfiaa
open Go.RowKit
def zsg : List Value := sgs none 0 0 none 0 0 zs
def rw1 (w : World) (vs : List Value) : World := (w.alloc (.cells (rcs zrcs zrc).toArray 32)).setRow w.heap.size vs.toArray
def gw1 (w : World) (vs : List Value) : World := (w.alloc (.cells zsg.toArray 36)).setRow w.heap.size vs.toArray
def rg2 (w : World) (vs ps : List Value) : World := (((w.alloc (.cells (rcs zrcs zrc).toArray 32)).alloc (.cells zsg.toArray 36)).setRow w.heap.size vs.toArray).setRow (w.heap.size + 1) ps.toArray
section
variable {w : World}
theorem rz1 (w : World) : Bx (w.alloc (.cells (rcs zrcs zrc).toArray 32)) w.heap.size 32 (rcs zrcs zrc) := Bx.new _ _ _
theorem gz1 (w : World) : Bx (w.alloc (.cells zsg.toArray 36)) w.heap.size 36 zsg := Bx.new _ _ _
theorem rz2 (w : World) : Bx ((w.alloc (.cells (rcs zrcs zrc).toArray 32)).alloc (.cells zsg.toArray 36)) w.heap.size 32 (rcs zrcs zrc) := (Bx.new _ _ _).alloc _
theorem gz2 (w : World) (vs : List Value) : Bx (((w.alloc (.cells (rcs zrcs zrc).toArray 32)).alloc (.cells zsg.toArray 36)).setRow w.heap.size vs.toArray) (w.heap.size + 1) 36 zsg := by
  have h := Bx.new (w.alloc (.cells (rcs zrcs zrc).toArray 32)) 36 zsg
  rw [World.size_alloc] at h
  exact h.grown (rv_grown _ _ _) (fun e => by have := Option.some.inj e; omega)
theorem rw1_box (w : World) (vs : List Value) : Bx (rw1 w vs) w.heap.size 32 vs := rv_put (rz1 w) vs
theorem rw1_below (w : World) (vs : List Value) : Below w.heap.size w (rw1 w vs) := ((Below.refl _ _).alloc (Nat.le_refl _) _).grown (rv_grown _ _ _) (by simp) (fun k hk => by cases hk; exact Nat.le_refl _)
theorem gw1_box (w : World) (vs : List Value) : Bx (gw1 w vs) w.heap.size 36 vs := sg_put (gz1 w) vs
theorem gw1_below (w : World) (vs : List Value) : Below w.heap.size w (gw1 w vs) := ((Below.refl _ _).alloc (Nat.le_refl _) _).grown (sg_grown _ _ _) (by simp) (fun k hk => by cases hk; exact Nat.le_refl _)
theorem rg2_rv (w : World) (vs ps : List Value) : Bx (rg2 w vs ps) w.heap.size 32 vs := (rv_put (rz2 w) vs).grown (sg_grown _ _ _) (fun e => by have := Option.some.inj e; omega)
theorem rg2_sg (w : World) (vs ps : List Value) : Bx (rg2 w vs ps) (w.heap.size + 1) 36 ps := sg_put (gz2 w vs) ps
theorem rg2_below (w : World) (vs ps : List Value) : Below w.heap.size w (rg2 w vs ps) := ((((Below.refl _ _).alloc (Nat.le_refl _) _).alloc (by simp) _).grown (rv_grown _ _ _) (by simp; omega) (fun k hk => by cases hk; exact Nat.le_refl _)).grown (sg_grown _ _ _) (by simp [World.setRow]; omega) (fun k hk => by cases hk; omega)
end
end Go.Proofs.Ytggnhccpncgfiaa
namespace Go.Proofs.Ytggnhccpncgfiaa
open Go.RowKit
def lnK (s : Rcs) : Nat → Nat
  | 0 => s.n0
  | 1 => s.n1
  | 2 => s.n2
  | _ => s.n3
def fewUp (s : Rcs) (k : Nat) : Bool := (decide (s.wn ≤ 300) && decide (s.gn ≤ 100)) && (List.range k).all fun i => decide (lnK s i ≤ 100)
def fewRc (s : Rcs) : Bool := fewUp s 4
theorem fewUp_zero (s : Rcs) : fewUp s 0 = (decide (s.wn ≤ 300) && decide (s.gn ≤ 100)) := by unfold fewUp; simp
theorem fewUp_succ (s : Rcs) (k : Nat) : fewUp s (k + 1) = (fewUp s k && decide (lnK s k ≤ 100)) := by
  unfold fewUp; rw [List.range_succ, List.all_append, ← Bool.and_assoc]; simp
theorem few_parts {s : Rcs} (h : fewRc s = true) : s.wn ≤ 300 ∧ s.gn ≤ 100 ∧ s.n0 ≤ 100 ∧ s.n1 ≤ 100 ∧ s.n2 ≤ 100 ∧ s.n3 ≤ 100 := by
  unfold fewRc at h
  rw [fewUp_succ, fewUp_succ, fewUp_succ, fewUp_succ, fewUp_zero] at h
  simpa [lnK, and_assoc] using h
set_option maxRecDepth 100000 in
set_option maxHeartbeats 16000000 in
theorem rcfew_any (s : Rcs) (r : Rc) (w : World) :
    Calls Try.prog 9 #[.agg (rcs s r).toArray] w fun e w' => e = .returned (.bool (fewRc s)) ∧ Below w.heap.size w w' := by
  have e0 := Bx.new w 32 (rcs s r)
  have b0 : Below w.heap.size w (w.alloc (.cells (rcs s r).toArray 32)) := (Below.refl _ _).alloc (Nat.le_refl _) _
  have hz := fewUp_zero s
  obtain ⟨B, hB⟩ : ∃ B, w.heap.size = B := ⟨_, rfl⟩
  have HB := Lib.hid hB
  rw [hB] at e0 b0 ⊢
  clear hB
  go_enter Try.func9, Try.ntmps9
  go_upto_region 1 with fail
  rw [HB.out]
  generalize w.alloc (.cells (rcs s r).toArray 32) = w1 at e0 b0 ⊢
  have x1 : w1.cell? ⟨B, 1, none⟩ = some (.slice s.wa s.wn s.wc) := e0.cell 1 rfl
  have x2 : w1.cell? ⟨B, 2, none⟩ = some (.slice s.ga s.gn s.gc) := e0.cell 2 rfl
  go_cut [3] (fun a wx => Hid (a = .bool (fewUp s 0) ∧ Bx wx B 32 (rcs s r) ∧ Below B w wx))
  case first =>
    by_cases h1 : s.wn ≤ 300
    · have d1 : decide ((s.wn : Int) ≤ 300) = true := decide_eq_true (by omega)
      have hf : fewUp s 0 = decide ((s.gn : Int) ≤ 100) := by rw [hz, decide_eq_true h1, Bool.true_and, decide_eq_decide]; omega
      have HF := Lib.hid hf
      clear hf hz h1
      go_wp2_with fail
      go_meet
      case rel => exact Lib.hid ⟨by rw [HF.out], e0, b0⟩
    · have d1 : decide ((s.wn : Int) ≤ 300) = false := decide_eq_false (by omega)
      have hf : fewUp s 0 = false := by rw [hz, decide_eq_false h1]; rfl
      have HF := Lib.hid hf
      clear hf hz h1
      go_wp2_with fail
      go_meet
      case rel => exact Lib.hid ⟨by rw [HF.out], e0, b0⟩
  case rest =>
  obtain ⟨rfl, e1, b1⟩ := hcut.out
  clear hcut hz e0 b0 x1 x2
  go_wp2_with fail
  go_loopw [3, 4] (fun a i wr => ∃ k : Nat, k ≤ 4 ∧ i = .int .i64 (k : Int) ∧ a = .bool (fewUp s k) ∧ Bx wr B 32 (rcs s r) ∧ Below B w wr) (fun _ i _ => 4 - (intOf i).toNat)
  case atStart => exact ⟨0, Nat.zero_le _, rfl, rfl, e1, b1⟩
  case round =>
    obtain ⟨k, hk, rfl, rfl, e2, b2⟩ := hrel
    have x3 := e2.cell 5 rfl; have x4 := e2.cell 11 rfl; have x5 := e2.cell 17 rfl; have x6 := e2.cell 23 rfl
    have hc : k = 0 ∨ k = 1 ∨ k = 2 ∨ k = 3 ∨ k = 4 := by omega
    rcases hc with rfl | rfl | rfl | rfl | rfl
    · have hs := fewUp_succ s 0
      cases hf : fewUp s 0 with
      | false =>
        rw [hf, Bool.false_and] at hs
        have HS := Lib.hid hs
        clear hs hf
        go_wp2_with fail
        go_roundw
        case rel => exact ⟨1, by omega, rfl, by rw [HS.out], e2, b2⟩
        case measure => simp [intOf]
      | true =>
        rw [hf, Bool.true_and] at hs
        have hd : decide ((s.n0 : Int) ≤ 100) = fewUp s 1 := by rw [hs, decide_eq_decide]; show _ ↔ s.n0 ≤ 100; omega
        have HS := Lib.hid hd
        clear hs hf hd
        go_wp2_with fail
        go_roundw
        case rel => exact ⟨1, by omega, rfl, by rw [← HS.out], e2, b2⟩
        case measure => simp [intOf]
    · have hs := fewUp_succ s 1
      cases hf : fewUp s 1 with
      | false =>
        rw [hf, Bool.false_and] at hs
        have HS := Lib.hid hs
        clear hs hf
        go_wp2_with fail
        go_roundw
        case rel => exact ⟨2, by omega, rfl, by rw [HS.out], e2, b2⟩
        case measure => simp [intOf]
      | true =>
        rw [hf, Bool.true_and] at hs
        have hd : decide ((s.n1 : Int) ≤ 100) = fewUp s 2 := by rw [hs, decide_eq_decide]; show _ ↔ s.n1 ≤ 100; omega
        have HS := Lib.hid hd
        clear hs hf hd
        go_wp2_with fail
        go_roundw
        case rel => exact ⟨2, by omega, rfl, by rw [← HS.out], e2, b2⟩
        case measure => simp [intOf]
    · have hs := fewUp_succ s 2
      cases hf : fewUp s 2 with
      | false =>
        rw [hf, Bool.false_and] at hs
        have HS := Lib.hid hs
        clear hs hf
        go_wp2_with fail
        go_roundw
        case rel => exact ⟨3, by omega, rfl, by rw [HS.out], e2, b2⟩
        case measure => simp [intOf]
      | true =>
        rw [hf, Bool.true_and] at hs
        have hd : decide ((s.n2 : Int) ≤ 100) = fewUp s 3 := by rw [hs, decide_eq_decide]; show _ ↔ s.n2 ≤ 100; omega
        have HS := Lib.hid hd
        clear hs hf hd
        go_wp2_with fail
        go_roundw
        case rel => exact ⟨3, by omega, rfl, by rw [← HS.out], e2, b2⟩
        case measure => simp [intOf]
    · have hs := fewUp_succ s 3
      cases hf : fewUp s 3 with
      | false =>
        rw [hf, Bool.false_and] at hs
        have HS := Lib.hid hs
        clear hs hf
        go_wp2_with fail
        go_roundw
        case rel => exact ⟨4, by omega, rfl, by rw [HS.out], e2, b2⟩
        case measure => simp [intOf]
      | true =>
        rw [hf, Bool.true_and] at hs
        have hd : decide ((s.n3 : Int) ≤ 100) = fewUp s 4 := by rw [hs, decide_eq_decide]; show _ ↔ s.n3 ≤ 100; omega
        have HS := Lib.hid hd
        clear hs hf hd
        go_wp2_with fail
        go_roundw
        case rel => exact ⟨4, by omega, rfl, by rw [← HS.out], e2, b2⟩
        case measure => simp [intOf]
    · go_wp2_with fail
      go_ret
      exact ⟨rfl, b2⟩
end Go.Proofs.Ytggnhccpncgfiaa
namespace Go.Proofs.Ytggnhccpncgfiaa
def exR0 : Rc := ⟨⟨0, [], [], 100, -1⟩, zinl, zinl, zinl, zinl⟩
def exX1 : Sg := ⟨2, 0, false, false, 10, 10, 0, 0, 0, 0, 0, 0, 0, [], [0, 0, 0, 0, 0]⟩
def exR1 : Rc := ⟨⟨0, List.replicate 15 0, [(10, 15)], 100, -1⟩, ⟨[(10, 15)], zmk⟩, zinl, zinl, zinl⟩
def exY1 : Sg := ⟨3, 0, false, true, 0, 0, 0, 0, 100, 0, 0, 0, 0, [(10, 15)], []⟩
def exX2 : Sg := ⟨2, 0, false, false, 0, 0, 0, 0, 0, 0, 0, 0, 0, [], [0, 0, 0, 0, 0, 0, 0, 0, 0, 0]⟩
def exR2 : Rc := ⟨⟨0, List.replicate 15 0, [(0, 15)], 100, -1⟩, ⟨[(0, 15)], ⟨1, 10, 0, 0, 0⟩⟩, zinl, zinl, zinl⟩
def exY2 : Sg := ⟨3, 0, false, true, 0, 0, 15, 15, 85, 1, 10, 0, 0, [], []⟩
theorem ex_new : rnewR 100 = (exR0, 0) := by rfl
set_option maxRecDepth 100000 in
theorem ex_take1 : takeR exR0 exX1 false = (exR1, exY1, 0) := by rfl
set_option maxRecDepth 100000 in
theorem ex_take2 : takeR exR1 exX2 true = (exR2, exY2, 0) := by rfl
set_option maxRecDepth 100000 in
theorem ex_may : rcmay exR2 = true := by rfl
theorem ex_w1 : SgW exX1 := by
  have h : ∀ n : Int, n = 0 ∨ n = 10 → U32 n := fun n hn => by unfold U32; omega
  exact ⟨h _ (.inr rfl), h _ (.inr rfl), h _ (.inl rfl), h _ (.inl rfl), h _ (.inl rfl), h _ (.inl rfl), h _ (.inl rfl), fun p hp => absurd hp (List.not_mem_nil), fun x hx => by simp [exX1] at hx; omega⟩
theorem ex_w2 : SgW exX2 := by
  have h : ∀ n : Int, n = 0 → U32 n := fun n hn => by unfold U32; omega
  exact ⟨h _ rfl, h _ rfl, h _ rfl, h _ rfl, h _ rfl, h _ rfl, h _ rfl, fun p hp => absurd hp (List.not_mem_nil), fun x hx => by simp [exX2] at hx; omega⟩
end Go.Proofs.Ytggnhccpncgfiaa
namespace Go.Proofs.Ytggnhccpncgfiaa
open Go.RowKit
def OffR (l : List Nat) (b : Nat) : Prop := b ∉ l
theorem OffR.imp {l l' : List Nat} (h : ∀ x ∈ l', x ∈ l) : ∀ b, OffR l b → OffR l' b := fun b hb hx => hb (h b hx)
theorem offr_new {w : World} {l : List Nat} (h : ∀ x ∈ l, x < w.heap.size) : ∀ b, w.heap.size ≤ b → OffR l b := fun b hb hx => by have := h b hx; omega
theorem offr_row {l : List Nat} {P : Nat} (h : P ∈ l) : ∀ b, OffR l b → (some P : Option Nat) ≠ some b := fun b hb e => by cases e; exact hb h
/-- a box that is made later is none of its blocks -/
theorem RcM.later {w : World} {l : List Nat} {s : Rcs} {r : Rc} (h : RcM w (OffR l) s r) {P : Nat} (hP : w.heap.size ≤ P) : RcM w (OffR (P :: l)) s r := by
  have k : ∀ {A : Option Addr} {n : Nat}, InP (OffR l) A n → InP (fun b => b < w.heap.size) A n → InP (OffR (P :: l)) A n := fun {A n} hi hl h0 b o q e => by
    have h1 := hi h0 b o q e
    have h2 : b < w.heap.size := hl h0 b o q e
    intro hx
    rcases List.mem_cons.1 hx with hh | hh
    · omega
    · exact h1 hh
  have t := h.lt
  exact ⟨h.b, h.g, h.g0, h.g1, h.g2, h.g3, h.wide, k h.pb t.pb, k h.pg t.pg, k h.p0 t.p0, k h.p1 t.p1, k h.p2 t.p2, k h.p3 t.p3⟩
def lvR (l : List Int) : List Value := l.map (Value.int .u8)
theorem run_makeR (N : Nat) (hN : N ≤ 1000000) (w : World) : (Instr.makeSlice 22 (.int .i64 (N : Int)) (.int .i64 (N : Int))).run Try.prog w = .ok (.slice (some ⟨w.heap.size, 0, none⟩) N N) (w.alloc (.cells (lvR (List.replicate N 0)).toArray 5)) := by
  obtain ⟨i0, hi, hz0, hz1, hz2⟩ := info_parts info_u8
  have h := run_make (P := Try.prog) w 22 5 i0 (.int .u8 0) Try.underlying22 hi hz0 .i64 .i64 (N : Int) (N : Int) (by omega) (Int.le_refl _) (by rw [hz2]; omega) (by omega)
  rw [h, hz1, Int.toNat_natCast, Nat.mul_one]
  have e : madeCells (Value.int .u8 0).cells N = (lvR (List.replicate N 0)).toArray := by
    apply Array.toList_inj.1
    show (madeCells #[Value.int .u8 0] N).toList = _
    rw [toList_madeCells_one]
    unfold lvR; simp
  rw [e]
theorem sl_made (N : Nat) (hN : N ≤ 1000000) (w : World) : Sl (w.alloc (.cells (lvR (List.replicate N 0)).toArray 5)) (some ⟨w.heap.size, 0, none⟩) N N (List.replicate N 0) := by
  have hs : Small (List.replicate N (0 : Int)) := fun x hx => by rw [(List.mem_replicate.1 hx).2]; omega
  have h := Rd.block w hs 5
  rw [List.length_replicate] at h
  exact ⟨Nat.le_refl _, by unfold maxLen; omega, (fun e => by cases e), h⟩
end Go.Proofs.Ytggnhccpncgfiaa
