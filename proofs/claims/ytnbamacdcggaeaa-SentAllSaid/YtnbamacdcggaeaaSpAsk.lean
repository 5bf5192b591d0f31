/- Package spans: Size, Has, Gap: every list. -/
import Derived.Test.YtnbamacdcggaeaaSpMay
import Derived.Test.YtnbamacdcggaeaaSpAns
namespace Go.Proofs.Ytnbamacdcggaeaa
open Go.RowKit Go.Shelf

attribute [local go_sem] Oper.semAt_some

theorem bx_below {W W' : World} {k n : Nat} {t : TypeId} {v : Value} (h : Boxed W k t v) (hb : Below n W W') (hk : k < n) : Boxed W' k t v := (hb.block k hk).trans h

/-- a block of two cells -/
def Boxed2 (W : World) (B : Nat) (t : TypeId) (u v : Value) : Prop := W.heap[B]? = some (.cells #[u, v] t (0, 0))
section
variable {W W' : World} {B n : Nat} {t : TypeId} {u v : Value}
theorem Boxed2.lt (h : Boxed2 W B t u v) : B < W.heap.size := (Array.getElem?_eq_some_iff.1 h).1
theorem Boxed2.fst (h : Boxed2 W B t u v) : W.cell? ⟨B, 0, none⟩ = some u := by simp [World.cell?, show W.heap[B]? = _ from h]
theorem Boxed2.snd (h : Boxed2 W B t u v) : W.cell? ⟨B, 1, none⟩ = some v := by simp [World.cell?, show W.heap[B]? = _ from h]
theorem Boxed2.new (W : World) (t : TypeId) (u v : Value) : Boxed2 (W.alloc (.cells #[u, v] t)) W.heap.size t u v := World.alloc_heap_new W _
theorem Boxed2.frz (h : Boxed2 W B t u v) : W.frozen? ⟨B, 0, none⟩ = false := by simp [World.frozen?, show W.heap[B]? = _ from h]
theorem Boxed2.frz1 (h : Boxed2 W B t u v) : W.frozen? ⟨B, 1, none⟩ = false := by simp [World.frozen?, show W.heap[B]? = _ from h]
theorem Boxed2.kept {row : Option Nat} (h : Boxed2 W B t u v) (hg : W.grownBy W' row) (hne : some B ≠ row) : Boxed2 W' B t u v := (hg.block B h.lt hne).trans h
theorem Boxed2.alloc (h : Boxed2 W B t u v) (o : Obj) : Boxed2 (W.alloc o) B t u v := h.kept (World.grownBy_alloc W o none) (by simp)
theorem Boxed2.below (h : Boxed2 W B t u v) (hb : Below n W W') (hk : B < n) : Boxed2 W' B t u v := (hb.block B hk).trans h
theorem Boxed2.other {B' : Nat} (h : Boxed2 W B t u v) (hne : B ≠ B') (x : Value) : Boxed2 (W.setCell ⟨B', 0, none⟩ x) B t u v := h.kept (grownBy_setCell' W B' x) (fun e => hne (by cases e; rfl))
theorem Boxed2.set {x y : Value} (h : Boxed2 W B t u v) : Boxed2 ((W.setCell ⟨B, 0, none⟩ x).setCell ⟨B, 1, none⟩ y) B t x y := by
  obtain ⟨hlt, hk⟩ := Array.getElem?_eq_some_iff.1 h
  have h1 : (W.setCell ⟨B, 0, none⟩ x).heap[B]? = some (.cells #[x, v] t (0, 0)) := by
    show (W.heap.modify B _)[B]? = _
    rw [Array.getElem?_eq_getElem (by rw [Array.size_modify]; exact hlt), Array.getElem_modify_self, hk]
    rfl
  obtain ⟨hlt1, hk1⟩ := Array.getElem?_eq_some_iff.1 h1
  show ((W.setCell ⟨B, 0, none⟩ x).heap.modify B _)[B]? = _
  rw [Array.getElem?_eq_getElem (by rw [Array.size_modify]; exact hlt1), Array.getElem_modify_self, hk1]
  rfl
end
theorem boxed2_own {β : Type} (B : Nat) (t : TypeId) (f g : β → Value) : Own (fun s W => Boxed2 W B t (f s) (g s)) := fun s X Y row hs hg hrow =>
  hs.kept hg (fun e => by obtain ⟨o, ho, hc⟩ := hrow B e.symm; rw [show X.heap[B]? = _ from hs] at ho; cases ho; cases hc)

/-- the sum as the loop reckons it -/
def sizeW (l : List Sp) : Int := l.foldl (fun n p => wrap64 (n + wrap64 (p.2 - p.1))) 0
theorem sizeW_snoc (l : List Sp) (p : Sp) : sizeW (l ++ [p]) = wrap64 (sizeW l + wrap64 (p.2 - p.1)) := by unfold sizeW; simp
theorem sizeW_eq {l : List Sp} (h : chain (-1) l = true) : sizeW l = size l := by
  have : ∀ (l : List Sp) (d n : Int), chain d l = true → -1 ≤ d → d ≤ 4611686018427387904 → 0 ≤ n → n ≤ d + 1 → l.foldl (fun n p => wrap64 (n + wrap64 (p.2 - p.1))) n = n + size l := by
    intro l
    induction l with
    | nil => intro d n _ _ _ _ _; simp [size_nil]
    | cons p t ih =>
      intro d n h hd hd2 h0 hn
      simp only [chain, Bool.and_eq_true, decide_eq_true_eq] at h
      obtain ⟨h1, h2, h3⟩ := h
      have hv := vld_iff.1 h2
      rw [List.foldl_cons, size_cons]
      have e : wrap64 (n + wrap64 (p.2 - p.1)) = n + (p.2 - p.1) := by
        unfold wrap64; omega
      rw [e, ih p.2 _ h3 (by omega) (by omega) (by omega) (by omega)]
      omega
  have := this l (-1) 0 h (by omega) (by omega) (by omega) (by omega)
  unfold sizeW; omega
def sizeF (l : List Sp) : Int := if mayB l = true then size l else 0
def Out (l : List Sp) (m : Int) : Prop := ∀ p ∈ l, ¬ (p.1 ≤ m ∧ m < p.2)
theorem out_nil (m : Int) : Out [] m := fun p hp => by simp at hp
theorem out_snoc {l : List Sp} {m : Int} {x : Sp} (h : Out l m) (k : ¬ (x.1 ≤ m ∧ m < x.2)) : Out (l ++ [x]) m := fun p hp => (List.mem_append.1 hp).elim (h p) (fun e => by rw [List.mem_singleton] at e; subst e; exact k)
theorem fresh_of {w : World} {A : Option Addr} {len cap : Nat} {l : List Sp} (hs : Ss w A len cap l) : ∀ b o, A = some ⟨b, o, none⟩ → 0 < len → b < w.heap.size :=
  fun b o e h0 => by obtain ⟨b', o', e', hl, _⟩ := hs.rd.at_ h0; rw [e] at e'; cases e'; exact hl

set_option maxRecDepth 100000 in
set_option maxHeartbeats 2000000 in
theorem has_any (A : Option Addr) (len cap : Nat) (l : List Sp) (a b : Int) (w : World) (hs : Ss w A len cap l) :
    Calls Try.prog 35 #[.slice A len cap, .agg #[.int .i64 a, .int .i64 b]] w fun e W' => e = .returned (.bool (hasB l a b)) ∧ Below w.heap.size w W' := by
  refine (callsIn_wide (n := 4)).1 ?_
  have h1 : 1 ≤ 4 := by omega
  have hlen := hs.rd.len
  refine callsIn_of_wp_marks Try.func35 rfl trivial ?_ rfl
  simp only [Try.ntmps35, List.size_toArray, List.length_cons, List.length_nil, Nat.reduceAdd, Nat.reduceSub, Array.replicate_succ, Array.replicate_zero, List.push_toArray, List.append_toArray, List.nil_append, List.cons_append]
  have a1 := Boxed2.new w 37 (.int .i64 a) (.int .i64 b)
  have a2 := Boxed.new (w.alloc (.cells #[.int .i64 a, .int .i64 b] 37)) 4 (.bool false)
  rw [World.size_alloc] at a2
  have hb0 : Below w.heap.size w ((w.alloc (.cells #[.int .i64 a, .int .i64 b] 37)).alloc (.cells #[.bool false] 4)) := ((Below.refl _ w).alloc (Nat.le_refl _) _).alloc (by simp) _
  have hs0 := (hs.alloc (.cells #[.int .i64 a, .int .i64 b] 37)).alloc (.cells #[.bool false] 4)
  have a1' := a1.alloc (.cells #[.bool false] 4)
  have hmay := may_any A len cap l _ hs0
  obtain ⟨w0, hw0⟩ : ∃ w0, (w.alloc (.cells #[.int .i64 a, .int .i64 b] 37)).alloc (.cells #[.bool false] 4) = w0 := ⟨_, rfl⟩
  rw [hw0] at hmay a1' a2 hb0 hs0
  by_cases hm : mayB l = true
  case neg =>
    have hm' : mayB l = false := by simpa using hm
    have e0 : hasB l a b = false := by unfold hasB; rw [hm']; rfl
    rw [hm'] at hmay
    rw [e0]
    gi_wp2_with (first | (refine ⟨trivial, ?_⟩; gi_at_call 30; refine (callsIn_wide.2 hmay).mono ?_; rintro e w1 ⟨rfl, hb1⟩; have a3 := bx_below a2 hb1 a2.lt; have hc3 := a3.cell; have hf3 := a3.frozen) | (refine (And.intro trivial ?_ : Fence.wide.fn 43 ∧ _)))
    refine ⟨.bool false, ?_, rfl, ?_⟩
    · have hc4 := World.cell?_setCell_same' w1 ⟨w.heap.size + 1, 0, none⟩ (.bool false) (by rw [hc3]; rfl)
      simp [results, Try.f35, go_sem, hc4]
    · exact (hb0.trans (hb1.mono hb0.size)).setCell (p := ⟨w.heap.size + 1, 0, none⟩) (by simp) _
  case pos =>
  have hle := (mayB_parts hm).1
  rw [hm] at hmay
  by_cases hv : vld a b = true
  case neg =>
    have hv' : vld a b = false := by simpa using hv
    clear hv
    have e0 : hasB l a b = false := by unfold hasB; rw [hm, hv']; rfl
    rw [e0]
    gi_wp2_with (first | (refine ⟨trivial, ?_⟩; gi_at_call 30; refine (callsIn_wide.2 hmay).mono ?_; rintro e w1 ⟨rfl, hb1⟩; have a3 := bx_below a2 hb1 a2.lt; have a4 := Boxed2.below a1' hb1 a1'.lt; have hc3 := a3.cell; have hf3 := a3.frozen; have hc4 := a4.fst; have hc5 := a4.snd) | (refine ⟨trivial, ?_⟩; gi_at_call 43; refine (callsIn_wide.2 (valid_any _ _ _)).mono ?_; rintro e w' ⟨rfl, rfl⟩))
    refine ⟨.bool false, ?_, rfl, ?_⟩
    · have hc4 := World.cell?_setCell_same' w1 ⟨w.heap.size + 1, 0, none⟩ (.bool false) (by rw [hc3]; rfl)
      simp [results, Try.f35, go_sem, hc4]
    · exact (hb0.trans (hb1.mono hb0.size)).setCell (p := ⟨w.heap.size + 1, 0, none⟩) (by simp) _
  case pos =>
  have e0 : hasB l a b = hasIn l a b := by unfold hasB; rw [hm, hv]; rfl
  rw [e0]
  have hval := valid_any a b
  gi_wp2_with (first | (refine ⟨trivial, ?_⟩; gi_at_call 30; refine (callsIn_wide.2 hmay).mono ?_; rintro e w1 ⟨rfl, hb1⟩; have a3 := bx_below a2 hb1 a2.lt; have a4 := Boxed2.below a1' hb1 a1'.lt; have hc3 := a3.cell; have hf3 := a3.frozen; have hc4 := a4.fst; have hc5 := a4.snd) | (refine ⟨trivial, ?_⟩; gi_at_call 43; refine (callsIn_wide.2 (valid_any _ _ _)).mono ?_; rintro e w' ⟨rfl, rfl⟩) | (refine ⟨trivial, ?_⟩; gi_at_call 42; refine (ends_in Fence.wide _ trivial rfl _ _ _ _).mono ?_; rintro e w' ⟨rfl, rfl⟩))
  have k1 : Below w.heap.size w w1 := hb0.trans (hb1.mono hb0.size)
  have k2 : Below w.heap.size w (w1.alloc (.cells #[.slice A len cap] 25)) := k1.alloc k1.size _
  have bN := Boxed.new w1 25 (.slice A len cap)
  have hsz1 : w.heap.size + 1 < w1.heap.size := a3.lt
  refine wpIn_rangeFunc_ownG rfl h1 (gf := 48) (lb := #[.pointer (some ⟨w1.heap.size, 0, none⟩)]) rfl trivial (enters_of Try.func48 (by kernel_rfl) rfl)
    (ends_stops Fence.wide (4 - 1) trivial rfl (by omega) w1.heap.size w.heap.size A len cap l (by omega) _ (by simp) k2.size bN.cell (hs.rd.keep k2) (fresh_of hs)) belowK_t (belowK_b k2.size) (Below.refl _ _) (fun _ => rfl)
    (fun pre W => (hasIn pre a b = false ∧ Boxed2 W w.heap.size 37 (.int .i64 a) (.int .i64 b) ∧ Boxed W (w.heap.size + 1) 4 (.bool false)) ∧ Below w.heap.size w W)
    (fun c pre W => (c = .ret ∧ hasIn pre a b = true ∧ Boxed W (w.heap.size + 1) 4 (.bool true)) ∧ Below w.heap.size w W)
    (OwnFrom.and (Own.from (fun s A B row hs hg hr => ⟨hs.1, boxed2_own _ _ (fun _ => .int .i64 a) (fun _ => .int .i64 b) s A B row hs.2.1 hg hr, boxed_own _ _ (fun _ => .bool false) s A B row hs.2.2 hg hr⟩) _) (ownFrom_below (Nat.le_refl _) k2.size))
    (fun c => OwnFrom.and (Own.from (fun s A B row hs hg hr => ⟨hs.1, hs.2.1, boxed_own _ _ (fun _ => .bool true) s A B row hs.2.2 hg hr⟩) _) (ownFrom_below (Nat.le_refl _) k2.size))
    ⟨⟨rfl, a4.alloc _, a3.alloc _⟩, k2⟩
    (fun x => { tmps := #[.slice A len cap, .agg #[.int .i64 a, .int .i64 b], undef, .pointer (some ⟨w.heap.size, 0, none⟩), .pointer (some ⟨w.heap.size + 1, 0, none⟩), .int .i64 x.1, .int .i64 x.2, .slice A len cap, .bool true, .bool false, .bool false, .pointer (some ⟨w.heap.size, 0, none⟩), .int .i64 a, .pointer (some ⟨w.heap.size, 1, none⟩), .int .i64 b, .bool true, .bool false, .bool false, .slice A len cap, .func (.func 48) #[] #[.pointer (some ⟨w1.heap.size, 0, none⟩)], .int .i64 x.1, .int .i64 x.2, undef, undef, undef, undef, undef, undef, undef, undef, undef, undef], defers := [] }) ?assign ?body ?done ?stop
  case assign =>
    intro l x W K hK
    gi_wp2
    exact hK
  case body =>
    rintro r pre x W ⟨⟨hp, hM, hR⟩, hB⟩ _
    have hcm := hM.fst
    have hcn := hM.snd
    have hcr := hR.cell
    have hfr := hR.frozen
    by_cases h3 : x.1 ≤ a
    · have hd3 : decide (x.1 ≤ a) = true := decide_eq_true h3
      by_cases h4 : b ≤ x.2
      · have hd4 : decide (b ≤ x.2) = true := decide_eq_true h4
        have hx : hasIn (pre ++ [x]) a b = true := by rw [hasIn_snoc, hd3, hd4]; simp
        gi_wp2
        exact ⟨(KeepsOthers.setCell _ _ _).from _, ⟨rfl, hx, hR.set _⟩, hB.setCell (p := ⟨w.heap.size + 1, 0, none⟩) (by simp) _⟩
      · have hd4 : decide (b ≤ x.2) = false := decide_eq_false h4
        have hx : hasIn (pre ++ [x]) a b = false := by rw [hasIn_snoc, hp, hd4]; simp
        gi_wp2
        exact ⟨KeepsFrom.refl _ _, Below.refl _ _, ⟨hx, hM, hR⟩, hB⟩
    · have hd3 : decide (x.1 ≤ a) = false := decide_eq_false h3
      have hx : hasIn (pre ++ [x]) a b = false := by rw [hasIn_snoc, hp, hd3]; simp
      gi_wp2
      exact ⟨KeepsFrom.refl _ _, Below.refl _ _, ⟨hx, hM, hR⟩, hB⟩
  case done =>
    rintro D ys W hD rfl ⟨⟨hp, hM, hR⟩, hB⟩ hK
    have hcr := hR.cell
    have hfr := hR.frozen
    gi_wp2
    have hK' := (KeepsOthers.setCell W ⟨w.heap.size + 1, 0, none⟩ (.bool false)).same D _ hK rfl
    refine ⟨by simp, .inl ⟨_, _, rfl, run_takeDeferred hK', ?_⟩⟩
    have hc5 := cell_kept (World.cell?_setCell_same' W ⟨w.heap.size + 1, 0, none⟩ (.bool false) (by rw [hcr]; rfl)) (grownBy_putObj' _ D (.deferred none)) (fun r e => by cases e; exact ⟨_, hK', rfl⟩)
    refine ⟨.bool false, by simp [results, Try.f35, go_sem, hc5], by rw [hp], (hB.setCell (p := ⟨w.heap.size + 1, 0, none⟩) (by simp) _).trans (belowK_b (w := w) (Nat.le_refl _) _ D _ _ (by have := k2.size; omega) hK' rfl rfl)⟩
  case stop =>
    rintro D c pre W hD ⟨k, hk, rfl⟩ ⟨⟨rfl, hp, hR⟩, hB⟩ hK
    gi_wp2
    refine ⟨by simp, .inl ⟨_, _, rfl, run_takeDeferred hK, ?_⟩⟩
    have hc5 := cell_kept hR.cell (grownBy_putObj' _ D (.deferred none)) (fun r e => by cases e; exact ⟨_, hK, rfl⟩)
    refine ⟨.bool true, by simp [results, Try.f35, go_sem, hc5], by rw [hasIn_cut hp], hB.trans (belowK_b (w := w) (Nat.le_refl _) W D _ _ (by have := k2.size; omega) hK rfl rfl)⟩
end Go.Proofs.Ytnbamacdcggaeaa
