/- The laws of package check: what every law begins with ('awake'). -/
import Derived.Test.YtignfpndhnaidaaProg
import Derived.Test.YtignfpndhnaidaaCkOpen
import Derived.WalkKit
import Derived.WalkSpells
import Derived.Lib.Hide
import Derived.WalkSmall
import Derived.Below
import Derived.Outline
import Derived.Laws.IdiomStrings
import Derived.Lib.SlBytesConst
namespace Go.Proofs.Ytignfpndhnaidaa
open Go.RowKit

theorem num4_seal (l : List Int) : num4 (seal4 l) = adler l := by
  obtain ⟨h0, h1⟩ := adler_bd l
  unfold num4 seal4
  have e0 : byt (four (adler l) ++ l) 0 = adler l / 16777216 % 256 := rfl
  have e1 : byt (four (adler l) ++ l) 1 = adler l / 65536 % 256 := rfl
  have e2 : byt (four (adler l) ++ l) 2 = adler l / 256 % 256 := rfl
  have e3 : byt (four (adler l) ++ l) 3 = adler l % 256 := rfl
  rw [e0, e1, e2, e3]; omega
theorem drop4_seal (l : List Int) : (seal4 l).drop 4 = l := rfl

/-- what was sealed is opened -/
theorem open_sealed (R : Option Addr) (m d : Nat) (l : List Int) (w : World) (hr : Sl w R (m + 4) (d + 4) (seal4 l)) (hm : m ≤ 1000000) :
    Calls Try.prog 11 #[.slice R (m + 4) (d + 4)] w fun e w' => ∃ R' d', e = .returned (.tuple #[.slice R' m d', .int .i64 0]) ∧ Sl w' R' m d' l ∧ Below w.heap.size w w' := by
  have h := open_ok R m d (seal4 l) w hr hm (by rw [drop4_seal]; exact num4_seal l)
  rw [drop4_seal] at h
  exact h

def abc : List Int := [97, 98, 99]
theorem abc_small : Small abc := by intro x hx; unfold abc at hx; simp at hx; omega
theorem rd_abc (w : World) : Rd (w.alloc (.cells #[.int .u8 97, .int .u8 98, .int .u8 99] 5 (3, 4))) (some ⟨w.heap.size, 0, none⟩) 3 abc :=
  ⟨rfl, abc_small, fun _ => ⟨w.heap.size, 0, rfl, by simp, fun i hi => by
    rw [Nat.zero_add, World.cell?_alloc_mark]
    match i, hi with
    | 0, _ => rfl
    | 1, _ => rfl
    | 2, _ => rfl⟩⟩
theorem sl_abc (w : World) : Sl (w.alloc (.cells #[.int .u8 97, .int .u8 98, .int .u8 99] 5 (3, 4))) (some ⟨w.heap.size, 0, none⟩) 3 3 abc := ⟨Nat.le_refl _, by unfold maxLen; omega, (fun e => by cases e), rd_abc w⟩
theorem lay_abc (w : World) : (convert 23 23 (.slice (some ⟨w.heap.size, 0, none⟩) 3 3)).run Try.prog (w.alloc (.cells #[.int .u8 97, .int .u8 98, .int .u8 99] 5)) = .ok (.slice (some ⟨w.heap.size, 0, none⟩) 3 3) (w.alloc (.cells #[.int .u8 97, .int .u8 98, .int .u8 99] 5 (3, 4))) :=
  Lib.run_convert_bytes_const w 23 5 #[.int .u8 97, .int .u8 98, .int .u8 99] 3 3 Try.underlying23 Try.underlying5
theorem adler_abc : adler abc = 38600999 := by decide
theorem adler_nil : adler [] = 1 := by decide
theorem conv_abc {w : World} {A : Option Addr} {c : Nat} (h : Rd w A 3 abc) : (convert 23 9 (.slice A 3 c)).run Try.prog w = .ok (.string ⟨#[97, 98, 99]⟩) w := by
  obtain ⟨b, o, rfl, _, hc⟩ := h.at_ (by omega)
  have hk := run_convert_bytes_back (P := Try.prog) w 23 9 5 ⟨b, o, none⟩ c [97, 98, 99] Try.underlying23 Try.underlying5 Try.underlying9 (fun j hj => by
    have hcj := hc j (by simpa using hj)
    have ha : (⟨b, o, none⟩ : Addr).add j = ⟨b, o + j, none⟩ := by
      unfold Addr.add
      split
      · next h => subst h; rfl
      · rfl
    rw [ha, hcj]
    match j, hj with
    | 0, _ => rfl
    | 1, _ => rfl
    | 2, _ => rfl)
  exact hk

set_option maxHeartbeats 2000000 in
theorem awake_any (w : World) : Calls Try.prog 9 #[] w fun e w' => e = .returned (.bool true) ∧ Below w.heap.size w w' := by
  have kc := lay_abc
  go_enter Try.func9, Try.ntmps9
  go_wp2_with fail
  refine (seal_any _ _ _ abc _ (sl_abc w) (by omega)).mono ?_
  rintro e w1 ⟨R, d, rfl, s1, hb1⟩
  have b1 : Below w.heap.size w w1 := ((Below.refl _ _).alloc (Nat.le_refl _) _).trans (hb1.mono (by simp))
  obtain ⟨d1, rfl⟩ : ∃ d1, d = d1 + 4 := ⟨d - 4, by have := s1.le; omega⟩
  go_wp2_with fail
  have ho : Calls Try.prog 11 #[.slice R 7 (d1 + 4)] w1 fun e w' => ∃ R' d', e = .returned (.tuple #[.slice R' 3 d', .int .i64 0]) ∧ Sl w' R' 3 d' abc ∧ Below w1.heap.size w1 w' := open_sealed R 3 d1 abc w1 s1 (by omega)
  refine ho.mono ?_
  clear ho
  rintro e w2 ⟨R2, d2, rfl, s2, hb2⟩
  have b2 := b1.trans (hb2.mono b1.size)
  go_wp2_with fail
  refine (sum_any none 0 0 [] _ (Rds.empty _ _) (by omega)).mono ?_
  rintro e w3 ⟨he, hb3⟩
  rw [List.flatten_nil, adler_nil] at he
  subst he
  have b3 := b2.trans (hb3.mono b2.size)
  go_wp2_with fail
  refine (sum1_any _ _ abc _ ((sl_abc w3).one_at 23 (g := w3.heap.size + 1) (by simp))).mono ?_
  rintro e w4 ⟨he, hb4⟩
  rw [adler_abc] at he
  subst he
  have b4 : Below w.heap.size w w4 := ((b3.alloc b3.size _).alloc (by have := b3.size; simp; omega) _).trans (hb4.mono (by have := b3.size; simp; omega))
  have hcv := conv_abc (c := d2) ((s2.rd.keep (hb3.mono (Nat.le_refl _))).keep ((((Below.refl _ _).alloc (Nat.le_refl _) _).alloc (by simp) _).trans (hb4.mono (by simp; omega))))
  go_wp2_with fail
  go_ret
  exact ⟨rfl, b4⟩
end Go.Proofs.Ytignfpndhnaidaa
