/- slices.Grow of nil and slices.Concat, at lists of spans. -/
import Derived.Test.YtgiknfmagmfniaaProg
import Derived.Test.YtgiknfmagmfniaaSp
import Derived.Test.YtgiknfmagmfniaaSpAddP
import Derived.Lib.AppendZeros
import Derived.WalkKit
import Derived.WalkSpells
import Derived.WalkSmall
import Derived.Lib.Hide
import Derived.Below
import Derived.Outline
namespace Go.Proofs.Ytgiknfmagmfniaa
open Go.RowKit


theorem size_zc (z : Array Value) (n : Nat) : (Builtin.zeroCells z n).size = n * z.size := by simp [Builtin.zeroCells]

set_option maxHeartbeats 1000000 in
theorem grow_any (n : Nat) (w : World) (h0 : 0 < n) (hn : n ≤ 100000000) :
    Calls Try.prog 57 #[.slice none 0 0, .int .i64 (n : Int)] w fun e w' => ∃ v, e = .returned v ∧ Gots w' w.heap.size 52 v 0 [] ∧ Below w.heap.size w w' := by
  obtain ⟨i0, hi, hz0, hz1, hz2⟩ := info_parts info_sp
  have hap := fun (w : World) (ty : TypeId) => Lib.run_append_nil_zeros (P := Try.prog) w 23 3 ty 52 i0 _ .i64 .i64 Try.underlying23 Try.underlying3 hi hz0 n h0 (by rw [hz1]; omega) (by omega) (by rw [hz2]; omega)
  have hcg := grownCap_ge w n 0 52
  have hcm := grownCap_le_maxLen w n 0 52 (by unfold maxLen; omega)
  have hrow := World.ownsRow_made (base := w.heap.size) (e := 52) (size := 2) w (Builtin.zeroCells (Value.cells (.agg #[.int .i64 0, .int .i64 0])) n ++ Builtin.zeroCells (Value.cells (.agg #[.int .i64 0, .int .i64 0])) (grownCap w n 0 52 - n)) (grownCap w n 0 52) (Nat.le_refl _) hcm (by
    rw [Array.size_append, size_zc, size_zc]
    show n * 2 + (grownCap w n 0 52 - n) * 2 = _
    omega)
  obtain ⟨cap, hcap⟩ : ∃ cap, grownCap w n 0 52 = cap := ⟨_, rfl⟩
  rw [hcap] at hrow hcg hcm
  go_enter Try.func57, Try.ntmps57
  go_wp2_with (at_builtin; refine Lib.wpList_append_run _ rfl _ _ _ _ rfl _ _ rfl rfl _ _ (hap _ _) ?_)
  go_ret
  refine ⟨_, rfl, ⟨?_, fun p hp => by simp at hp⟩, ((Below.refl _ _).alloc (Nat.le_refl _) _).drew⟩
  exact hrow

def prt (ls : List (List Sp)) (k : Nat) : List Sp := ls.getD k []

/-- The first n places from A are slices of spans that read as the lists ls. -/
structure Rgs (w : World) (A : Option Addr) (n : Nat) (ls : List (List Sp)) : Prop where
  len : ls.length = n
  at_ : 0 < n → ∃ b o, A = some ⟨b, o, none⟩ ∧ b < w.heap.size ∧ ∀ k, k < n → ∃ R m c, w.cell? ⟨b, o + k, none⟩ = some (.slice R m c) ∧ Ss w R m c (prt ls k)

section
variable {w w' : World} {A : Option Addr} {n : Nat} {ls : List (List Sp)}
theorem Rgs.keep (h : Rgs w A n ls) (hb : Below w.heap.size w w') : Rgs w' A n ls :=
  ⟨h.len, fun hn => by
    obtain ⟨b, o, e, hlt, hc⟩ := h.at_ hn
    refine ⟨b, o, e, Nat.lt_of_lt_of_le hlt hb.size, fun k hk => ?_⟩
    obtain ⟨R, m, c, h1, h2⟩ := hc k hk
    exact ⟨R, m, c, (hb.cell (p := ⟨b, o + k, none⟩) hlt).trans h1, h2.keep hb⟩⟩
theorem Rgs.spot (h : Rgs w A n ls) (hn : 0 < n) : ∃ b o, A = some ⟨b, o, none⟩ ∧ b < w.heap.size ∧ Hid (∀ k, k < n → ∃ R m c, w.cell? ⟨b, o + k, none⟩ = some (.slice R m c) ∧ Ss w R m c (prt ls k)) := h.at_ hn
end
theorem take_prt {ls : List (List Sp)} {k : Nat} (h : k < ls.length) : (ls.take (k + 1)).flatten = (ls.take k).flatten ++ prt ls k := by
  rw [List.take_succ_eq_append_getElem h, List.flatten_append]; unfold prt; rw [List.getD_eq_getElem?_getD, List.getElem?_eq_getElem h]; simp
theorem flat_take_le (ls : List (List Sp)) (k : Nat) : (ls.take k).flatten.length ≤ ls.flatten.length := by
  have e : ls.flatten = (ls.take k).flatten ++ (ls.drop k).flatten := by rw [← List.flatten_append, List.take_append_drop]
  rw [e, List.length_append]; omega

set_option maxHeartbeats 2000000 in
theorem concat_own (A : Option Addr) (n c : Nat) (ls : List (List Sp)) (w : World) (hr : Rgs w A n ls) (hn : n ≤ 1000) (h0 : 0 < ls.flatten.length) (ht : ls.flatten.length ≤ 1000000) :
    Calls Try.prog 53 #[.slice A n c] w fun e w' => ∃ R d, e = .returned (.slice R ls.flatten.length d) ∧ Sq w' w.heap.size R ls.flatten.length d ls.flatten ∧ Below w.heap.size w w' := by
  obtain ⟨T, hT⟩ : ∃ T, ls.flatten.length = T := ⟨_, rfl⟩
  rw [hT] at h0 ht
  have HR := Lib.hid hr; clear hr
  have HT := Lib.hid hT; clear hT
  go_enter Try.func53, Try.ntmps53
  go_wp2
  go_loopw [3, 11] (fun s i wr => ∃ k : Nat, k ≤ n ∧ i = .int .i64 k ∧ s = .int .i64 (((ls.take k).flatten.length : Nat) : Int) ∧ w = wr) (fun _ i _ => n - (intOf i).toNat)
  case atStart => exact ⟨0, Nat.zero_le _, rfl, rfl, rfl⟩
  case round =>
    obtain ⟨k, hk, rfl, rfl, rfl⟩ := hrel
    have hle := flat_take_le ls k
    rw [HT.out] at hle
    by_cases hlt : k < n
    · obtain ⟨b, o, rfl, hbl, hc⟩ := HR.out.spot (by omega)
      obtain ⟨R, m, d, h1, h2⟩ := hc.out k hlt
      have hsn : (ls.take (k + 1)).flatten.length = (ls.take k).flatten.length + m := by rw [take_prt (by rw [HR.out.len]; exact hlt), List.length_append, h2.rd.len]
      have hle2 := flat_take_le ls (k + 1)
      rw [HT.out] at hle2
      obtain ⟨q, hq⟩ : ∃ q, (ls.take k).flatten.length = q := ⟨_, rfl⟩
      rw [hq] at hsn hle ⊢
      rw [hsn] at hle2
      have HS := Lib.hid hsn; clear hsn
      go_wp2
      go_roundw
      case rel => exact ⟨k + 1, by omega, by go_num, by rw [HS.out]; go_num, by simp⟩
      case measure => simp [intOf]; omega
    · have hkn : k = n := by omega
      subst hkn
      have hfull : (ls.take k).flatten.length = T := by rw [← HT.out, ← HR.out.len, List.take_length]
      rw [hfull] at hle ⊢
      go_wp2_with (go_at_call 57; refine (grow_any T _ h0 (by omega)).mono ?_; rintro e w1 ⟨v, rfl, hg0, hb0⟩; have b0 := hb0; clear hb0)
      have HG := Lib.hid hg0; clear hg0
      have hfl2 := hfull
      clear hfull hle
      go_loopw [6, 27] (fun s i wz => ∃ j : Nat, j ≤ k ∧ i = .int .i64 j ∧ Gots wz w.heap.size 52 s (ls.take j).flatten.length (ls.take j).flatten ∧ Below w.heap.size w wz) (fun _ i _ => k - (intOf i).toNat)
      case atStart => exact ⟨0, Nat.zero_le _, rfl, HG.out, b0⟩
      case round =>
        clear HG b0
        obtain ⟨j, hj, rfl, hg1, hb1⟩ := hrel
        have hle := flat_take_le ls j
        rw [HT.out] at hle
        by_cases hlt2 : j < k
        · obtain ⟨b, o, rfl, hbl, hc⟩ := HR.out.spot (by omega)
          obtain ⟨R, m, d, h1, h2⟩ := hc.out j hlt2
          have hcell := (hb1.cell (p := ⟨b, o + j, none⟩) hbl).trans h1
          have h3 : Ss _ R m d (prt ls j) := h2.keep hb1
          have hsn : (ls.take (j + 1)).flatten = (ls.take j).flatten ++ prt ls j := take_prt (by rw [HR.out.len]; exact hlt2)
          have hml : (prt ls j).length = m := h3.rd.len
          have hle2 := flat_take_le ls (j + 1)
          rw [HT.out, hsn, List.length_append, hml] at hle2
          obtain ⟨q, hq⟩ : ∃ q, (ls.take j).flatten = q := ⟨_, rfl⟩
          rw [hq] at hsn hle hg1 hle2
          have HS := Lib.hid hsn; clear hsn h1 h2
          go_wp2_with (at_builtin; go_loud (refine wpList_apps _ rfl (.tmp 31) (.tmp 32) 23 rfl w.heap.size 52 Try.underlying23 info_sp _ _ _ rfl hg1 rfl h3.nil h3.rd (by omega) hb1.size ?_; intro v' w' hg' hgrow' _; have hb2 : Below w.heap.size w w' := hb1.grown hgrow' hb1.size (fun k hk => (hg1.row.lt k hk).1)))
          go_roundw
          case rel => exact ⟨j + 1, by omega, by go_num, by rw [HS.out, List.length_append, hml]; exact hg', hb2⟩
          case measure => simp [intOf]; omega
        · have hjk : j = k := by omega
          subst hjk
          have hfl : (ls.take j).flatten = ls.flatten := by rw [← HR.out.len, List.take_length]
          rw [hfl] at hg1
          obtain ⟨R, d, rfl, hsl⟩ := hg1.sq
          go_wp2
          go_ret
          exact ⟨R, d, by rw [HT.out]; rfl, hsl, hb1⟩
theorem concat_any (A : Option Addr) (n c : Nat) (ls : List (List Sp)) (w : World) (hr : Rgs w A n ls) (hn : n ≤ 1000) (h0 : 0 < ls.flatten.length) (ht : ls.flatten.length ≤ 1000000) :
    Calls Try.prog 53 #[.slice A n c] w fun e w' => ∃ R d, e = .returned (.slice R ls.flatten.length d) ∧ Ss w' R ls.flatten.length d ls.flatten ∧ Below w.heap.size w w' := by
  refine (concat_own A n c ls w hr hn h0 ht).mono ?_
  rintro e w1 ⟨R, d, rfl, h1, h2⟩
  exact ⟨R, d, rfl, h1.ss, h2⟩
end Go.Proofs.Ytgiknfmagmfniaa
