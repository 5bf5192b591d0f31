/- The texts SpAdd. -/
import Derived.BigQuiet
import Derived.Deep.RegionWith
import Derived.Test.YtggnhccpncgfiaaProg
import Derived.Test.YtggnhccpncgfiaaM01
import Derived.Test.YtggnhccpncgfiaaM03
import Derived.Test.YtggnhccpncgfiaaM04
set_option linter.all false
set_option maxRecDepth 100000
namespace Go.Proofs.Ytggnhccpncgfiaa
open Go.RowKit
section
variable {w w' : World} {A : Option Addr} {n : Nat} {l : List Sp}
theorem rgs_three {A1 A2 A3 : Option Addr} {n1 n2 n3 c1 c2 c3 : Nat} {l1 l2 l3 : List Sp} (h1 : Ss w A1 n1 c1 l1) (h2 : Ss w A2 n2 c2 l2) (h3 : Ss w A3 n3 c3 l3) (t : TypeId) :
    Rgs (w.alloc (.cells #[.slice A1 n1 c1, .slice A2 n2 c2, .slice A3 n3 c3] t)) (some ⟨w.heap.size, 0, none⟩) 3 [l1, l2, l3] :=
  ⟨rfl, fun _ => ⟨w.heap.size, 0, rfl, by simp, fun k hk => by
    match k, hk with
    | 0, _ => exact ⟨A1, n1, c1, by rw [Nat.add_zero, World.cell?_alloc_new]; rfl, h1.alloc _⟩
    | 1, _ => exact ⟨A2, n2, c2, by rw [World.cell?_alloc_new]; rfl, h2.alloc _⟩
    | 2, _ => exact ⟨A3, n3, c3, by rw [World.cell?_alloc_new]; rfl, h3.alloc _⟩⟩⟩
end
theorem limited_ok (A : Option Addr) (n c : Nat) (w : World) (h : n ≤ 1000) :
    Calls Try.prog 92 #[.slice A n c] w fun e w' => e = .returned (.tuple #[.slice A n c, .int .i64 0]) ∧ w = w' := by
  have := limited_any A n c w; rw [if_pos h] at this; exact this
theorem limited_full (A : Option Addr) (n c : Nat) (w : World) (h : ¬ n ≤ 1000) :
    Calls Try.prog 92 #[.slice A n c] w fun e w' => e = .returned (.tuple #[.slice none 0 0, .int .i64 4]) ∧ w = w' := by
  have := limited_any A n c w; rw [if_neg h] at this; exact this
set_option maxRecDepth 100000 in
set_option maxHeartbeats 4000000 in
theorem add_own (A : Option Addr) (len cap : Nat) (l : List Sp) (a b : Int) (w : World) (hs : Ss w A len cap l) (ha : W64 a) (hb : W64 b) :
    Calls Try.prog 62 #[.slice A len cap, .agg #[.int .i64 a, .int .i64 b]] w fun e w' => ∃ R n d, e = .returned (.tuple #[.slice R n d, .int .i64 (addR l (a, b)).2]) ∧ Sq w' w.heap.size R n d (addR l (a, b)).1 ∧ Below w.heap.size w w' := by
  have s0 := Boxed2.new w 60 (.int .i64 a) (.int .i64 b)
  have hb0 : Below w.heap.size w (w.alloc (.cells #[.int .i64 a, .int .i64 b] 60)) := (Below.refl _ w).alloc (Nat.le_refl _) _
  have hs0 := hs.alloc (.cells #[.int .i64 a, .int .i64 b] 60)
  have hmay := may_any A len cap l _ hs0
  obtain ⟨w0, hw0⟩ : ∃ w0, w.alloc (.cells #[.int .i64 a, .int .i64 b] 60) = w0 := ⟨_, rfl⟩
  rw [hw0] at hmay s0 hb0 hs0
  have hlen := hs.rd.len
  by_cases hm : mayB l = true
  case neg =>
    have hm' : mayB l = false := by simpa using hm
    have e0 : addR l (a, b) = ([], 1) := by unfold addR told; rw [hm']; rfl
    rw [hm'] at hmay
    rw [e0]
    go_enter Try.func62, Try.ntmps62
    go_wp2_with (go_at_call 52; refine hmay.mono ?_; rintro e w1 ⟨rfl, hb1⟩)
    go_ret2
    exact ⟨none, 0, 0, rfl, Sq.none _ _, hb0.trans (hb1.mono hb0.size)⟩
  case pos =>
  have hle := (mayB_parts hm).1
  rw [hm] at hmay
  by_cases hv : vld a b = true
  case neg =>
    have hv' : vld a b = false := by simpa using hv
    clear hv
    have e0 : addR l (a, b) = ([], 1) := by unfold addR told; rw [hm, hv']; rfl
    rw [e0]
    go_enter Try.func62, Try.ntmps62
    go_wp2_with (first
      | (go_at_call 52; refine hmay.mono ?_; rintro e w1 ⟨rfl, hb1⟩; have a4 := s0.below hb1 s0.lt; have hc4 := a4.fst; have hc5 := a4.snd)
      | (go_at_call 81; refine (valid_any _ _ _).mono ?_; rintro e w' ⟨rfl, rfl⟩))
    go_ret2
    exact ⟨none, 0, 0, rfl, Sq.none _ _, hb0.trans (hb1.mono hb0.size)⟩
  case pos =>
  have e0 : addR l (a, b) = told true (addL l (a, b)) := by unfold addR; rw [hm, hv]; rfl
  have hgl := grn_le l (a, b) 0 0 (Nat.le_refl _)
  have hgw := grn_wide hs.rd.wide (a, b) 0 0 ⟨ha, hb⟩
  have hadd : addL l (a, b) = l.take (grn (a, b) 0 0 l).2.1 ++ ((grn (a, b) 0 0 l).1 :: l.drop (grn (a, b) 0 0 l).2.2) := rfl
  have hgrown := fun w hs => grown_any A len cap l a b w hs (by omega)
  obtain ⟨g, hg⟩ : ∃ g, grn (a, b) 0 0 l = g := ⟨_, rfl⟩
  obtain ⟨⟨p, q⟩, f, h⟩ := g
  rw [hg] at hgl hgw hadd hgrown
  simp only at hgl hgw hadd hgrown
  obtain ⟨m, hmm⟩ : ∃ m, len = m + h := ⟨len - h, by omega⟩
  have hsle := hs.le
  have hsmx := hs.max
  obtain ⟨d, hdd⟩ : ∃ d, cap = d + h := ⟨cap - h, by omega⟩
  subst hmm hdd
  have hcut := fun w => run_cutS Try.prog 23 60 Try.underlying23 info_sp A h m d w (by omega) (by omega)
  have hhead := fun w => run_headS Try.prog 23 60 Try.underlying23 info_sp A f (m + h) (d + h) w (by omega)
  rw [e0]
  clear e0
  go_enter Try.func62, Try.ntmps62
  go_wp2_with (first
    | (go_at_call 52; refine hmay.mono ?_; rintro e w1 ⟨rfl, hb1⟩; have a4 := s0.below hb1 s0.lt; have hc4 := a4.fst; have hc5 := a4.snd; have b1 := hb0.trans (hb1.mono hb0.size))
    | (go_at_call 81; refine (valid_any _ _ _).mono ?_; rintro e w' ⟨rfl, rfl⟩)
    | (go_at_call 91; refine (hgrown _ (hs.keep b1)).mono ?_; rintro e w2 ⟨rfl, hb2⟩; have b2 := b1.trans (hb2.mono b1.size)))
  have hcw := Boxed2.new w2 60 (.int .i64 p) (.int .i64 q)
  have hx1 := hcw.fst
  have hx2 := hcw.snd
  have b3 : Below w.heap.size w ((w2.alloc (.cells #[.int .i64 p, .int .i64 q] 60)).alloc (.cells #[.int .i64 p, .int .i64 q] 60)) := (b2.alloc b2.size _).alloc (by have := b2.size; simp; omega) _
  have one := ss_one (w2.alloc (.cells #[.int .i64 p, .int .i64 q] 60)) hgw.1 hgw.2 60
  rw [World.size_alloc] at one
  have h3 := hs.keep b3
  have hthree := (rgs_three (h3.head (k := f) (by omega)) one (h3.cut (k := h) (m := m) (d := d) rfl rfl) 23).keep ((Below.refl _ _).drew)
  have b4 := (b3.alloc b3.size (.cells #[.slice A f (d + h), .slice (some ⟨w2.heap.size + 1, 0, none⟩) 1 1, .slice (cutS A h (d + h)) m d] 23)).drew
  rw [World.size_alloc, World.size_alloc] at hthree
  have hfl : [l.take f, [(p, q)], l.drop h].flatten = addL l (a, b) := by rw [hadd]; simp
  have hll : (addL l (a, b)).length = f + 1 + m := by rw [hadd, List.length_append, List.length_cons, List.length_take, List.length_drop]; omega
  have hcc := concat_own _ 3 3 _ _ hthree (by omega) (by rw [hfl, hll]; omega) (by rw [hfl, hll]; omega)
  rw [hfl] at hcc
  clear hthree h3 one hcw hmay hgrown hs0 s0 hfl hll
  obtain ⟨N, hN⟩ : ∃ N, (addL l (a, b)).length = N := ⟨_, rfl⟩
  rw [hN] at hcc
  by_cases hle2 : N ≤ 1000
  · have et : told true (addL l (a, b)) = (addL l (a, b), 0) := by unfold told; rw [if_pos rfl, hN, if_pos hle2]
    go_region_with (first
      | (go_at_call 93; refine hcc.mono ?_; rintro e w5 ⟨R, e5, rfl, s5', hb5⟩; have s5 := s5'.mono b4.size; have b5 := b4.trans (hb5.mono b4.size))
      | (go_at_call 92; refine (limited_ok _ _ _ _ hle2).mono ?_; rintro e w' ⟨rfl, rfl⟩))
    all_goals go_wp2_with fail
    all_goals go_ret2
    all_goals (rw [et]; exact ⟨R, N, e5, rfl, s5, b5⟩)
  · have et : told true (addL l (a, b)) = ([], 4) := by unfold told; rw [if_pos rfl, hN, if_neg hle2]
    go_region_with (first
      | (go_at_call 93; refine hcc.mono ?_; rintro e w5 ⟨R, e5, rfl, s5', hb5⟩; have s5 := s5'.mono b4.size; have b5 := b4.trans (hb5.mono b4.size))
      | (go_at_call 92; refine (limited_full _ _ _ _ hle2).mono ?_; rintro e w' ⟨rfl, rfl⟩))
    all_goals go_wp2_with fail
    all_goals go_ret2
    all_goals (rw [et]; exact ⟨none, 0, 0, rfl, Sq.none _ _, b5⟩)
end Go.Proofs.Ytggnhccpncgfiaa
