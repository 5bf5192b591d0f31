/- Package check: reduced, after, Sum as contracts of the calls. -/
import Derived.Test.YtfglagkpknpgdaaProg
import Derived.Test.YtfglagkpknpgdaaCk
import Derived.WalkKit
import Derived.WalkSpells
import Derived.Lib.Hide
import Derived.WalkSmall
import Derived.Below
import Derived.Outline
namespace Go.Proofs.Ytfglagkpknpgdaa
open Go.RowKit

set_option maxHeartbeats 400000 in
theorem reduced_any (n : Int) (h0 : 0 ≤ n) (h1 : n < 131042) (w : World) :
    Calls Try.prog 38 #[.int .u32 n] w fun e w' => e = .returned (.int .u32 (n % 65521)) ∧ w = w' := by
  by_cases h : n < 65521
  · have h' : ¬ (65521 ≤ n) := by omega
    have e : n % 65521 = n := by omega
    rw [e]; clear e
    go_enter Try.func38, Try.ntmps38
    go_wp2
    go_ret
    exact ⟨rfl, rfl⟩
  · have h' : 65521 ≤ n := by omega
    have e : n % 65521 = n - 65521 := by omega
    rw [e]; clear e
    go_enter Try.func38, Try.ntmps38
    go_wp2
    go_ret
    exact ⟨rfl, rfl⟩

/-- a block of two numbers -/
def Two (w : World) (g : Nat) (a b : Int) : Prop := w.heap[g]? = some (.cells #[.int .u32 a, .int .u32 b] 66 (0, 0))
section
variable {w w' : World} {g : Nat} {a b : Int}
theorem Two.lt (h : Two w g a b) : g < w.heap.size := by
  rcases Nat.lt_or_ge g w.heap.size with hlt | hge
  · exact hlt
  · unfold Two at h; rw [Array.getElem?_eq_none hge] at h; cases h
theorem Two.c0 (h : Two w g a b) : w.cell? ⟨g, 0, none⟩ = some (.int .u32 a) := by rw [cell_of_row w g 0 _ _ _ h]; rfl
theorem Two.c1 (h : Two w g a b) : w.cell? ⟨g, 1, none⟩ = some (.int .u32 b) := by rw [cell_of_row w g 1 _ _ _ h]; rfl
theorem Two.free (h : Two w g a b) (i : Nat) : w.frozen? ⟨g, i, none⟩ = false := frozen_of_row w g i _ _ h
theorem Two.set0 (h : Two w g a b) (x : Int) : Two (w.setCell ⟨g, 0, none⟩ (.int .u32 x)) g x b := by
  unfold Two; rw [heap_setCell_same w g 0 _ _ _ h]; simp
theorem Two.set1 (h : Two w g a b) (x : Int) : Two (w.setCell ⟨g, 1, none⟩ (.int .u32 x)) g a x := by
  unfold Two; rw [heap_setCell_same w g 1 _ _ _ h]; simp
theorem Two.far (h : Two w g a b) {p : Addr} (hp : g ≠ p.block) (u : Value) : Two (w.setCell p u) g a b := (Below.heap_setCell w p u g hp).trans h
theorem Two.below {B : Nat} (h : Two w g a b) (hb : Below B w w') (hg : g < B) : Two w' g a b := (hb.block g hg).trans h
theorem Two.alloc (h : Two w g a b) (o : Obj) : Two (w.alloc o) g a b := (Below.heap_alloc w o g h.lt).trans h
theorem Two.new (w : World) (a b : Int) : Two (w.alloc (.cells #[.int .u32 a, .int .u32 b] 66)) w.heap.size a b := heap_alloc_new w _
end

set_option maxHeartbeats 1000000 in
theorem after_any (x y : Int) (A : Option Addr) (n c : Nat) (l : List Int) (w : World) (hs : Res (x, y)) (hr : Rd w A n l) (hn : n ≤ 9223372036854775807) :
    Calls Try.prog 34 #[.agg #[.int .u32 x, .int .u32 y], .slice A n c] w fun e w' => e = .returned (.agg #[.int .u32 (run (x, y) l).1, .int .u32 (run (x, y) l).2]) ∧ Below w.heap.size w w' := by
  go_enter Try.func34, Try.ntmps34
  go_wp2
  obtain ⟨B, hB⟩ : ∃ B, w.heap.size = B := ⟨_, rfl⟩
  have t0 : Two ((w.alloc (Obj.cells #[Value.int IntKind.u32 x, Value.int IntKind.u32 y] 66)).alloc (Obj.cells #[Value.int IntKind.u32 0, Value.int IntKind.u32 0] 66)) B x y := by
    rw [← hB]; exact (Two.new w x y).alloc _
  have t1 : Two ((w.alloc (Obj.cells #[Value.int IntKind.u32 x, Value.int IntKind.u32 y] 66)).alloc (Obj.cells #[Value.int IntKind.u32 0, Value.int IntKind.u32 0] 66)) (B + 1) 0 0 := by
    rw [← hB]
    have := Two.new (w.alloc (Obj.cells #[Value.int IntKind.u32 x, Value.int IntKind.u32 y] 66)) 0 0
    simpa using this
  have hb0 : Below B w ((w.alloc (Obj.cells #[Value.int IntKind.u32 x, Value.int IntKind.u32 y] 66)).alloc (Obj.cells #[Value.int IntKind.u32 0, Value.int IntKind.u32 0] 66)) :=
    ((Below.refl _ _).alloc (by omega) _).alloc (by simp; omega) _
  rw [hB]
  have HB := Lib.hid hB; clear hB
  have HR := Lib.hid hr; clear hr
  have T0 := Lib.hid t0; clear t0
  have T1 := Lib.hid t1; clear t1
  go_loopw [9] (fun i wr => ∃ k : Nat, k ≤ n ∧ i = .int .i64 k ∧ Two wr B (run (x, y) (l.take k)).1 (run (x, y) (l.take k)).2 ∧ Two wr (B + 1) 0 0 ∧ Below B w wr) (fun i _ => n - (intOf i).toNat)
  case atStart => exact ⟨0, Nat.zero_le _, rfl, T0.out, T1.out, hb0⟩
  case round =>
    clear T0 T1 hb0
    obtain ⟨k, hk, rfl, u0, u1, hb⟩ := hrel
    have hres := run_res hs (l.take k)
    have hw : wr.heap.size = wr.heap.size := rfl
    by_cases hlt : k < n
    · obtain ⟨b, o, rfl, hbl, hc⟩ := HR.out.spot (by omega)
      have hbB : b < B := by rw [← HB.out]; exact hbl
      have hcell := (hb.cell (p := ⟨b, o + k, none⟩) hbB).trans (hc.out k hlt)
      have hbd := byt_in HR.out.small (i := k) (by rw [HR.out.len]; exact hlt)
      have hsn := run_snoc (x, y) (l := l) (k := k) (by rw [HR.out.len]; exact hlt)
      have HS := Lib.hid hsn; clear hsn
      obtain ⟨p, hp⟩ : ∃ p, run (x, y) (l.take k) = p := ⟨_, rfl⟩
      rw [hp] at u0 hres HS
      obtain ⟨a1, b1⟩ := p
      unfold Res at hres
      obtain ⟨r0, r1, r2, r3⟩ := hres
      simp only at u0 r0 r1 r2 r3
      clear hp hs
      have c0 := u0.c0
      have c1 := u0.c1
      have f0 := u0.free 0
      have f1 := u0.free 1
      have hsz := u0.lt
      go_wp2_with (go_at_call 38; refine (reduced_any _ (by omega) (by omega) _).mono ?_; rintro e w' ⟨rfl, rfl⟩)
      go_roundw
      case rel =>
        refine ⟨k + 1, by omega, by go_num, ?_, ?_, ?_⟩
        · rw [HS.out, show (b1 + (a1 + byt l k)) % 65521 = (stp (a1, b1) (byt l k)).2 from by unfold stp; simp only; omega]; exact (u0.set0 _).set1 _
        · exact (u1.far (by simp) _).far (by simp) _
        · exact (hb.setCell (by simp) _).setCell (by simp) _
      case measure => simp [intOf]; omega
    · have hkn : k = n := by omega
      subst hkn
      have ht : l.take k = l := by rw [← HR.out.len]; exact List.take_length
      rw [ht] at u0
      have c0 := u0.c0
      have c1 := u0.c1
      have d0 := u1.c0
      have d1 := u1.c1
      have f0 := u1.free 0
      have f1 := u1.free 1
      have hsz := u1.lt
      go_wp2_with fail
      have hbe : Below w.heap.size w ((wr.setCell ⟨B + 1, 0, none⟩ (.int .u32 (run (x, y) l).1)).setCell ⟨B + 1, 1, none⟩ (.int .u32 (run (x, y) l).2)) := by
        rw [HB.out]; exact (hb.setCell (by simp) _).setCell (by simp) _
      exact bodyPost_ret (v := .agg #[.int .u32 (run (x, y) l).1, .int .u32 (run (x, y) l).2]) (by simp [results, Try.results34, go_sem, *]) rfl ⟨rfl, hbe⟩
end Go.Proofs.Ytfglagkpknpgdaa
