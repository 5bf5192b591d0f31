/- The laws of package keep: what every law begins with ('awake'). -/
import Derived.Test.YtmnedaholdacnaaProg
import Derived.Test.YtmnedaholdacnaaKeWrite
import Derived.WalkKit
import Derived.WalkSpells
import Derived.WalkSmall
import Derived.Lib.Hide
import Derived.Below
import Derived.Outline
import Derived.Laws.IdiomStrings
import Derived.Lib.SlBytesConst
namespace Go.Proofs.Ytmnedaholdacnaa
open Go.RowKit

def abcd6 : List Int := [97, 98, 99, 100, 101, 102]
theorem abcd6_small : Small abcd6 := by intro x hx; unfold abcd6 at hx; simp at hx; omega
theorem sl_abcd6 (w : World) : Sl (w.alloc (.cells #[.int .u8 97, .int .u8 98, .int .u8 99, .int .u8 100, .int .u8 101, .int .u8 102] 5 (6, 7))) (some ⟨w.heap.size, 0, none⟩) 6 6 abcd6 :=
  ⟨Nat.le_refl _, by unfold maxLen; omega, (fun e => by cases e), rfl, abcd6_small, fun _ => ⟨w.heap.size, 0, rfl, by simp, fun i hi => by
    rw [Nat.zero_add, World.cell?_alloc_mark]
    match i, hi with
    | 0, _ => rfl
    | 1, _ => rfl
    | 2, _ => rfl
    | 3, _ => rfl
    | 4, _ => rfl
    | 5, _ => rfl⟩⟩
theorem lay_abcd6 (w : World) : (convert 22 22 (.slice (some ⟨w.heap.size, 0, none⟩) 6 6)).run Try.prog (w.alloc (.cells #[.int .u8 97, .int .u8 98, .int .u8 99, .int .u8 100, .int .u8 101, .int .u8 102] 5)) = .ok (.slice (some ⟨w.heap.size, 0, none⟩) 6 6) (w.alloc (.cells #[.int .u8 97, .int .u8 98, .int .u8 99, .int .u8 100, .int .u8 101, .int .u8 102] 5 (6, 7))) :=
  Lib.run_convert_bytes_const w 22 5 #[.int .u8 97, .int .u8 98, .int .u8 99, .int .u8 100, .int .u8 101, .int .u8 102] 6 6 Try.underlying22 Try.underlying5
theorem conv_cd {w : World} {A : Option Addr} {c : Nat} (h : Rd w A 2 [99, 100]) : (convert 22 9 (.slice A 2 c)).run Try.prog w = .ok (.string ⟨#[99, 100]⟩) w := by
  obtain ⟨b, o, rfl, _, hc⟩ := h.at_ (by omega)
  have hk := run_convert_bytes_back (P := Try.prog) w 22 9 5 ⟨b, o, none⟩ c [99, 100] Try.underlying22 Try.underlying5 Try.underlying9 (fun j hj => by
    have hcj := hc j (by simpa using hj)
    have ha : (⟨b, o, none⟩ : Addr).add j = ⟨b, o + j, none⟩ := by
      unfold Addr.add
      split
      · next h => subst h; rfl
      · rfl
    rw [ha, hcj]
    match j, hj with
    | 0, _ => rfl
    | 1, _ => rfl)
  exact hk
theorem w_awake : writeR ⟨0, [], 4, false⟩ abcd6 = (⟨0, [97, 98, 99, 100], 4, false⟩, 4, 0) := rfl
theorem a_awake : ackR ⟨0, [97, 98, 99, 100], 4, false⟩ 2 = (⟨2, [99, 100], 4, false⟩, 0) := rfl

set_option maxHeartbeats 2000000 in
theorem awake_any (w : World) : Calls Try.prog 7 #[] w fun e w' => e = .returned (.bool true) ∧ Below w.heap.size w w' := by
  have kc := lay_abcd6
  go_enter Try.func7, Try.ntmps7
  go_wp2_with fail
  refine (write_any 0 none 0 0 4 false [] _ 6 6 abcd6 _ (Sl.none _) (by omega) (sl_abcd6 w) (by omega)).mono ?_
  rintro e w1 h1
  rw [w_awake] at h1
  obtain ⟨R1, m1, d1, rfl, s1, hb1⟩ := h1
  have b1 : Below w.heap.size w w1 := ((Below.refl _ _).alloc (Nat.le_refl _) _).trans (hb1.mono (by simp))
  have hl1 := s1.sl.rd.len
  obtain rfl : m1 = 4 := hl1.symm
  clear hl1
  have x1 := Boxed4.new w1 24 (.int .i64 0) (.slice R1 4 d1) (.int .i64 4) (.bool false)
  have z1 := b1.alloc b1.size (.cells #[.int .i64 0, .slice R1 4 d1, .int .i64 4, .bool false] 24)
  have s2 := s1.sl.alloc (.cells #[.int .i64 0, .slice R1 4 d1, .int .i64 4, .bool false] 24)
  go_wp2_with fail
  refine (ack_any 0 R1 4 d1 4 false [97, 98, 99, 100] 2 _ s2 (by omega) (by omega) (by omega)).mono ?_
  rintro e w2 h2
  rw [a_awake] at h2
  obtain ⟨R2, m2, d2, rfl, s3, hb2⟩ := h2
  have hl2 := s3.sl.rd.len
  obtain rfl : m2 = 2 := hl2.symm
  clear hl2
  have b2 := z1.trans (hb2.mono z1.size)
  have x2 := x1.kept hb2
  have f0 := x2.free 0
  have f1 := x2.free 1
  have f2 := x2.free 2
  have f3 := x2.free 3
  have c0 := x2.c0
  have c1 := x2.c1
  have c2 := x2.c2
  have c3 := x2.c3
  have x3 := x2.set (.int .i64 2) (.slice R2 2 d2) (.int .i64 4) (.bool false)
  have g0 := x3.c0
  have g1 := x3.c1
  have g2 := x3.c2
  have g3 := x3.c3
  have hlt : w1.heap.size < (w1.alloc (.cells #[.int .i64 0, .slice R1 4 d1, .int .i64 4, .bool false] 24)).heap.size := by simp
  have s4 := (((s3.set (p := ⟨w1.heap.size, 0, none⟩) hlt (.int .i64 2)).set (p := ⟨w1.heap.size, 1, none⟩) hlt (.slice R2 2 d2)).set (p := ⟨w1.heap.size, 2, none⟩) hlt (.int .i64 4)).set (p := ⟨w1.heap.size, 3, none⟩) hlt (.bool false)
  have z3 := (((b2.setCell (p := ⟨w1.heap.size, 0, none⟩) b1.size (.int .i64 2)).setCell (p := ⟨w1.heap.size, 1, none⟩) b1.size (.slice R2 2 d2)).setCell (p := ⟨w1.heap.size, 2, none⟩) b1.size (.int .i64 4)).setCell (p := ⟨w1.heap.size, 3, none⟩) b1.size (.bool false)
  have hcv := conv_cd (c := d2) s4.sl.rd
  go_wp2_with fail
  refine (end_any 2 R2 2 d2 4 false [99, 100] _ rfl (by omega)).mono ?_
  rintro e w5 ⟨he, hb5⟩
  rw [show kend ⟨2, [99, 100], 4, false⟩ = 4 from rfl] at he
  subst he
  have x5 := x3.kept hb5
  have k0 := x5.c0
  have k1 := x5.c1
  have k2 := x5.c2
  have k3 := x5.c3
  have z5 := z3.trans (hb5.mono z3.size)
  go_wp2_with fail
  have hmay := may_any 2 R2 2 d2 4 false [99, 100] w5 rfl (by omega)
  rw [show kmay ⟨2, [99, 100], 4, false⟩ = true from rfl] at hmay
  refine hmay.mono ?_
  rintro e w6 ⟨rfl, hb6⟩
  go_wp2_with fail
  go_ret
  exact ⟨rfl, z5.trans (hb6.mono z5.size)⟩
end Go.Proofs.Ytmnedaholdacnaa
