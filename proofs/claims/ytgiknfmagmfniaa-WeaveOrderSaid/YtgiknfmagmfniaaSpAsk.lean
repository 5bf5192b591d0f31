/- Package spans: Size, Has, Gap: every list. -/
import Derived.Test.YtgiknfmagmfniaaSpMay
import Derived.Test.YtgiknfmagmfniaaSpAns
namespace Go.Proofs.Ytgiknfmagmfniaa
open Go.RowKit Go.Shelf

attribute [local go_sem] Oper.semAt_some

theorem bx_below {W W' : World} {k n : Nat} {t : TypeId} {v : Value} (h : Boxed W k t v) (hb : Below n W W') (hk : k < n) : Boxed W' k t v := (hb.block k hk).trans h

/-- a block of two cells -/
def Boxed2 (W : World) (B : Nat) (t : TypeId) (u v : Value) : Prop := W.heap[B]? = some (.cells #[u, v] t (0, 0))
section
variable {W W' : World} {B n : Nat} {t : TypeId} {u v : Value}
theorem Boxed2.lt (h : Boxed2 W B t u v) : B < W.heap.size := (Array.getElem?_eq_some_iff.1 h).1
theorem Boxed2.fst (h : Boxed2 W B t u v) : W.cell? ⟨B, 0, none⟩ = some u := by simp [World.cell?, show W.heap[B]? = _ from h]
theorem Boxed2.snd (h : Boxed2 W B t u v) : W.cell? ⟨B, 1, none⟩ = some v := by simp [World.cell?, show W.heap[B]? = _ from h]
theorem Boxed2.new (W : World) (t : TypeId) (u v : Value) : Boxed2 (W.alloc (.cells #[u, v] t)) W.heap.size t u v := World.alloc_heap_new W _
theorem Boxed2.frz (h : Boxed2 W B t u v) : W.frozen? ⟨B, 0, none⟩ = false := by simp [World.frozen?, show W.heap[B]? = _ from h]
theorem Boxed2.frz1 (h : Boxed2 W B t u v) : W.frozen? ⟨B, 1, none⟩ = false := by simp [World.frozen?, show W.heap[B]? = _ from h]
theorem Boxed2.kept {row : Option Nat} (h : Boxed2 W B t u v) (hg : W.grownBy W' row) (hne : some B ≠ row) : Boxed2 W' B t u v := (hg.block B h.lt hne).trans h
theorem Boxed2.alloc (h : Boxed2 W B t u v) (o : Obj) : Boxed2 (W.alloc o) B t u v := h.kept (World.grownBy_alloc W o none) (by simp)
theorem Boxed2.below (h : Boxed2 W B t u v) (hb : Below n W W') (hk : B < n) : Boxed2 W' B t u v := (hb.block B hk).trans h
theorem Boxed2.other {B' : Nat} (h : Boxed2 W B t u v) (hne : B ≠ B') (x : Value) : Boxed2 (W.setCell ⟨B', 0, none⟩ x) B t u v := h.kept (grownBy_setCell' W B' x) (fun e => hne (by cases e; rfl))
theorem Boxed2.set {x y : Value} (h : Boxed2 W B t u v) : Boxed2 ((W.setCell ⟨B, 0, none⟩ x).setCell ⟨B, 1, none⟩ y) B t x y := by
  obtain ⟨hlt, hk⟩ := Array.getElem?_eq_some_iff.1 h
  have h1 : (W.setCell ⟨B, 0, none⟩ x).heap[B]? = some (.cells #[x, v] t (0, 0)) := by
    show (W.heap.modify B _)[B]? = _
    rw [Array.getElem?_eq_getElem (by rw [Array.size_modify]; exact hlt), Array.getElem_modify_self, hk]
    rfl
  obtain ⟨hlt1, hk1⟩ := Array.getElem?_eq_some_iff.1 h1
  show ((W.setCell ⟨B, 0, none⟩ x).heap.modify B _)[B]? = _
  rw [Array.getElem?_eq_getElem (by rw [Array.size_modify]; exact hlt1), Array.getElem_modify_self, hk1]
  rfl
end
theorem boxed2_own {β : Type} (B : Nat) (t : TypeId) (f g : β → Value) : Own (fun s W => Boxed2 W B t (f s) (g s)) := fun s X Y row hs hg hrow =>
  hs.kept hg (fun e => by obtain ⟨o, ho, hc⟩ := hrow B e.symm; rw [show X.heap[B]? = _ from hs] at ho; cases ho; cases hc)

/-- the sum as the loop reckons it -/
def sizeW (l : List Sp) : Int := l.foldl (fun n p => wrap64 (n + wrap64 (p.2 - p.1))) 0
theorem sizeW_snoc (l : List Sp) (p : Sp) : sizeW (l ++ [p]) = wrap64 (sizeW l + wrap64 (p.2 - p.1)) := by unfold sizeW; simp
theorem sizeW_eq {l : List Sp} (h : chain (-1) l = true) : sizeW l = size l := by
  have : ∀ (l : List Sp) (d n : Int), chain d l = true → -1 ≤ d → d ≤ 4611686018427387904 → 0 ≤ n → n ≤ d + 1 → l.foldl (fun n p => wrap64 (n + wrap64 (p.2 - p.1))) n = n + size l := by
    intro l
    induction l with
    | nil => intro d n _ _ _ _ _; simp [size_nil]
    | cons p t ih =>
      intro d n h hd hd2 h0 hn
      simp only [chain, Bool.and_eq_true, decide_eq_true_eq] at h
      obtain ⟨h1, h2, h3⟩ := h
      have hv := vld_iff.1 h2
      rw [List.foldl_cons, size_cons]
      have e : wrap64 (n + wrap64 (p.2 - p.1)) = n + (p.2 - p.1) := by
        unfold wrap64; omega
      rw [e, ih p.2 _ h3 (by omega) (by omega) (by omega) (by omega)]
      omega
  have := this l (-1) 0 h (by omega) (by omega) (by omega) (by omega)
  unfold sizeW; omega
def sizeF (l : List Sp) : Int := if mayB l = true then size l else 0
def Out (l : List Sp) (m : Int) : Prop := ∀ p ∈ l, ¬ (p.1 ≤ m ∧ m < p.2)
theorem out_nil (m : Int) : Out [] m := fun p hp => by simp at hp
theorem out_snoc {l : List Sp} {m : Int} {x : Sp} (h : Out l m) (k : ¬ (x.1 ≤ m ∧ m < x.2)) : Out (l ++ [x]) m := fun p hp => (List.mem_append.1 hp).elim (h p) (fun e => by rw [List.mem_singleton] at e; subst e; exact k)
theorem fresh_of {w : World} {A : Option Addr} {len cap : Nat} {l : List Sp} (hs : Ss w A len cap l) : ∀ b o, A = some ⟨b, o, none⟩ → 0 < len → b < w.heap.size :=
  fun b o e h0 => by obtain ⟨b', o', e', hl, _⟩ := hs.rd.at_ h0; rw [e] at e'; cases e'; exact hl

set_option maxRecDepth 100000 in
set_option maxHeartbeats 2000000 in
theorem size_any (A : Option Addr) (len cap : Nat) (l : List Sp) (w : World) (hs : Ss w A len cap l) :
    Calls Try.prog 33 #[.slice A len cap] w fun e W' => e = .returned (.int .i64 (sizeF l)) ∧ Below w.heap.size w W' := by
  refine (callsIn_wide (n := 4)).1 ?_
  have h1 : 1 ≤ 4 := by omega
  have hlen := hs.rd.len
  refine callsIn_of_wp_marks Try.func33 rfl trivial ?_ rfl
  simp only [Try.ntmps33, List.size_toArray, List.length_cons, List.length_nil, Nat.reduceAdd, Nat.reduceSub, Array.replicate_succ, Array.replicate_zero, List.push_toArray, List.append_toArray, List.nil_append, List.cons_append]
  have hmay := may_any A len cap l w hs
  by_cases hm : mayB l = true
  case neg =>
    have hm' : mayB l = false := by simpa using hm
    have e0 : sizeF l = 0 := by unfold sizeF; rw [if_neg hm]
    rw [hm'] at hmay
    rw [e0]
    gi_wp2_with (refine ⟨trivial, ?_⟩; gi_at_call 45; refine (callsIn_wide.2 hmay).mono ?_; rintro e w1 ⟨rfl, hb1⟩)
    exact ⟨_, results_tmp rfl _ _ _, rfl, hb1⟩
  case pos =>
  have e0 : sizeF l = sizeW l := by unfold sizeF; rw [if_pos hm, sizeW_eq (mayB_parts hm).2]
  have hle := (mayB_parts hm).1
  rw [hm] at hmay
  rw [e0]
  gi_wp2_with (first | (refine ⟨trivial, ?_⟩; gi_at_call 45; refine (callsIn_wide.2 hmay).mono ?_; rintro e w1 ⟨rfl, hb1⟩; have hs1 := hs.keep hb1) | (refine ⟨trivial, ?_⟩; gi_at_call 54; refine (ends_in Fence.wide _ trivial rfl _ _ _ _).mono ?_; rintro e w' ⟨rfl, rfl⟩))
  have bL := Boxed.new w1 3 (.int .i64 0)
  have bN := Boxed.new (w1.alloc (.cells #[.int .i64 0] 3)) 23 (.slice A len cap)
  rw [World.size_alloc] at bN
  have hB0 : Below w1.heap.size w1 ((w1.alloc (.cells #[.int .i64 0] 3)).alloc (.cells #[.slice A len cap] 23)) := ((Below.refl _ w1).alloc (Nat.le_refl _) _).alloc (by simp) _
  refine wpIn_rangeFunc_ownG rfl h1 (gf := 58) (lb := #[.pointer (some ⟨w1.heap.size + 1, 0, none⟩)]) rfl trivial (enters_of Try.func58 (by kernel_rfl) rfl)
    (ends_stops Fence.wide (4 - 1) trivial rfl (by omega) (w1.heap.size + 1) w1.heap.size A len cap l (by omega) _ (by simp) (by simp; omega) bN.cell (hs1.rd.keep hB0) (fresh_of hs1)) belowK_t (belowK_b (by simp; omega)) (Below.refl _ _) (fun _ => rfl)
    (fun pre W => Boxed W w1.heap.size 3 (.int .i64 (sizeW pre)) ∧ Below w1.heap.size w1 W)
    (fun _ _ _ => False)
    (OwnFrom.and (Own.from (fun s A B row hs hg hr => boxed_own _ _ (fun s => .int .i64 (sizeW s)) s A B row hs hg hr) _) (ownFrom_below (Nat.le_refl _) (by simp; omega)))
    (fun _ _ _ _ _ hs _ _ => hs)
    ⟨bL.alloc _, hB0⟩
    (fun x => { tmps := #[.slice A len cap, undef, .int .i64 0, .pointer (some ⟨w1.heap.size, 0, none⟩), .int .i64 x.1, .int .i64 x.2, .slice A len cap, .bool true, .bool false, .slice A len cap, .func (.func 58) #[] #[.pointer (some ⟨w1.heap.size + 1, 0, none⟩)], .int .i64 x.1, .int .i64 x.2, undef, undef, undef, undef, undef, undef], defers := [] }) ?assign ?body ?done ?stop
  case assign =>
    intro l x W K hK
    gi_wp2
    exact hK
  case body =>
    rintro r pre x W ⟨hL, hB⟩ _
    have hcl := hL.cell
    have hfl := hL.frozen
    gi_wp2
    exact ⟨(KeepsOthers.setCell _ _ _).from _, (Below.refl _ _).setCell (p := ⟨w1.heap.size, 0, none⟩) (Nat.le_refl _) _, by rw [sizeW_snoc]; exact hL.set _, hB.setCell (p := ⟨w1.heap.size, 0, none⟩) (Nat.le_refl _) _⟩
  case done =>
    rintro D ys W hD rfl ⟨hL, hB⟩ hK
    have hcl := hL.cell
    gi_wp2
    refine ⟨by simp, .inl ⟨_, _, rfl, run_takeDeferred hK, ?_⟩⟩
    exact ⟨_, results_tmp rfl _ _ _, rfl, hb1.trans ((hB.trans (belowK_b (w := w1) (Nat.le_refl _) _ D _ _ (by simp at hD; omega) hK rfl rfl)).mono hb1.size)⟩
  case stop =>
    rintro D c pre W _ _ h _
    exact h.elim

set_option maxRecDepth 100000 in
set_option maxHeartbeats 2000000 in
theorem gap_any (A : Option Addr) (len cap : Nat) (l : List Sp) (n : Int) (w : World) (hs : Ss w A len cap l) :
    Calls Try.prog 44 #[.slice A len cap, .int .i64 n] w fun e W' => e = .returned (.int .i64 (gapF l n)) ∧ Below w.heap.size w W' := by
  refine (callsIn_wide (n := 4)).1 ?_
  have h1 : 1 ≤ 4 := by omega
  have hlen := hs.rd.len
  refine callsIn_of_wp_marks Try.func44 rfl trivial ?_ rfl
  simp only [Try.ntmps44, List.size_toArray, List.length_cons, List.length_nil, Nat.reduceAdd, Nat.reduceSub, Array.replicate_succ, Array.replicate_zero, List.push_toArray, List.append_toArray, List.nil_append, List.cons_append]
  have a1 := Boxed.new w 3 (.int .i64 n)
  have a2 := Boxed.new (w.alloc (.cells #[.int .i64 n] 3)) 3 (.int .i64 0)
  rw [World.size_alloc] at a2
  have hb0 : Below w.heap.size w ((w.alloc (.cells #[.int .i64 n] 3)).alloc (.cells #[.int .i64 0] 3)) := ((Below.refl _ w).alloc (Nat.le_refl _) _).alloc (by simp) _
  have hs0 := (hs.alloc (.cells #[.int .i64 n] 3)).alloc (.cells #[.int .i64 0] 3)
  have a1' := a1.alloc (.cells #[.int .i64 0] 3)
  have hmay := may_any A len cap l _ hs0
  obtain ⟨w0, hw0⟩ : ∃ w0, (w.alloc (.cells #[.int .i64 n] 3)).alloc (.cells #[.int .i64 0] 3) = w0 := ⟨_, rfl⟩
  rw [hw0] at hmay a1' a2 hb0 hs0
  by_cases hm : mayB l = true
  case neg =>
    have hm' : mayB l = false := by simpa using hm
    have e0 : gapF l n = 0 := by unfold gapF; rw [if_neg hm]
    rw [hm'] at hmay
    rw [e0]
    gi_wp2_with (refine ⟨trivial, ?_⟩; gi_at_call 45; refine (callsIn_wide.2 hmay).mono ?_; rintro e w1 ⟨rfl, hb1⟩; have a3 := bx_below a2 hb1 a2.lt; have hc3 := a3.cell; have hf3 := a3.frozen)
    refine ⟨.int .i64 0, ?_, rfl, ?_⟩
    · have hc4 := World.cell?_setCell_same' w1 ⟨w.heap.size + 1, 0, none⟩ (.int .i64 0) (by rw [hc3]; rfl)
      simp [results, Try.f44, go_sem, hc4]
    · exact (hb0.trans (hb1.mono hb0.size)).setCell (p := ⟨w.heap.size + 1, 0, none⟩) (by simp) _
  case pos =>
  have e0 : gapF l n = gapIn l (max n 0) := by unfold gapF; rw [if_pos hm]
  have hle := (mayB_parts hm).1
  rw [hm] at hmay
  rw [e0]
  by_cases hn0 : n < 0
  case pos =>
   have hmx : max n 0 = 0 := by omega
   gi_wp2_with (first | (refine ⟨trivial, ?_⟩; gi_at_call 45; refine (callsIn_wide.2 hmay).mono ?_; rintro e w1 ⟨rfl, hb1⟩; have a3 := bx_below a2 hb1 a2.lt; have a4 := bx_below a1' hb1 a1'.lt; have hc3 := a3.cell; have hf3 := a3.frozen; have hc4 := a4.cell; have hf4 := a4.frozen; have hs1 := hs0.keep hb1) | (refine ⟨trivial, ?_⟩; gi_at_call 54; refine (ends_in Fence.wide _ trivial rfl _ _ _ _).mono ?_; rintro e w' ⟨rfl, rfl⟩))
   have k1 : Below w.heap.size w (w1.setCell ⟨w.heap.size, 0, none⟩ (.int .i64 0)) := (hb0.trans (hb1.mono hb0.size)).setCell (p := ⟨w.heap.size, 0, none⟩) (Nat.le_refl _) _
   have k2 : Below w.heap.size w ((w1.setCell ⟨w.heap.size, 0, none⟩ (.int .i64 0)).alloc (.cells #[.slice A len cap] 23)) := k1.alloc k1.size _
   have bM : Boxed (w1.setCell ⟨w.heap.size, 0, none⟩ (.int .i64 0)) w.heap.size 3 (.int .i64 0) := a4.set _
   have bR : Boxed (w1.setCell ⟨w.heap.size, 0, none⟩ (.int .i64 0)) (w.heap.size + 1) 3 (.int .i64 0) := a3.other (by omega) _
   have bN := Boxed.new (w1.setCell ⟨w.heap.size, 0, none⟩ (.int .i64 0)) 23 (.slice A len cap)
   have hsz : (w1.setCell ⟨w.heap.size, 0, none⟩ (.int .i64 0)).heap.size = w1.heap.size := by simp
   have hsz1 : w.heap.size + 1 < w1.heap.size := a3.lt
   rw [hsz] at bN
   obtain ⟨w2, hw2⟩ : ∃ w2, w1.setCell ⟨w.heap.size, 0, none⟩ (.int .i64 0) = w2 := ⟨_, rfl⟩
   rw [hw2] at k1 k2 bM bR bN hsz ⊢
   have hsz3 : (w2.alloc (.cells #[.slice A len cap] 23)).heap.size = w1.heap.size + 1 := by rw [World.size_alloc, hsz]
   refine wpIn_rangeFunc_ownG rfl h1 (gf := 58) (lb := #[.pointer (some ⟨w1.heap.size, 0, none⟩)]) rfl trivial (enters_of Try.func58 (by kernel_rfl) rfl)
     (ends_stops Fence.wide (4 - 1) trivial rfl (by omega) w1.heap.size w.heap.size A len cap l (by omega) _ (by omega) k2.size bN.cell (hs.rd.keep k2) (fresh_of hs)) belowK_t (belowK_b k2.size) (Below.refl _ _) (fun _ => rfl)
     (fun pre W => (Out pre 0 ∧ Boxed W w.heap.size 3 (.int .i64 0) ∧ Boxed W (w.heap.size + 1) 3 (.int .i64 0)) ∧ Below w.heap.size w W)
     (fun c pre W => (c = .ret ∧ ∃ ini x, pre = ini ++ [x] ∧ Out ini 0 ∧ (x.1 ≤ 0 ∧ 0 < x.2) ∧ Boxed W (w.heap.size + 1) 3 (.int .i64 x.2)) ∧ Below w.heap.size w W)
     (OwnFrom.and (Own.from (fun s A B row hs hg hr => ⟨hs.1, boxed_own _ _ (fun _ => .int .i64 0) s A B row hs.2.1 hg hr, boxed_own _ _ (fun _ => .int .i64 0) s A B row hs.2.2 hg hr⟩) _) (ownFrom_below (Nat.le_refl _) k2.size))
     (fun c => OwnFrom.and (Own.from (fun s A B row hs hg hr => by obtain ⟨hc, ini, x, e1, e2, e3, e4⟩ := hs; exact ⟨hc, ini, x, e1, e2, e3, boxed_own _ _ (fun _ => .int .i64 x.2) s A B row e4 hg hr⟩) _) (ownFrom_below (Nat.le_refl _) k2.size))
     ⟨⟨out_nil _, bM.alloc _, bR.alloc _⟩, k2⟩
     (fun x => { tmps := #[.slice A len cap, .int .i64 n, undef, .pointer (some ⟨w.heap.size, 0, none⟩), .pointer (some ⟨w.heap.size + 1, 0, none⟩), .int .i64 x.1, .int .i64 x.2, .slice A len cap, .bool true, .bool false, .int .i64 n, .int .i64 0, .slice A len cap, .func (.func 58) #[] #[.pointer (some ⟨w1.heap.size, 0, none⟩)], .int .i64 x.1, .int .i64 x.2, undef, undef, undef, undef, undef, undef, undef, undef, undef, undef], defers := [] }) ?assign ?body ?done ?stop
   case assign =>
     intro l x W K hK
     gi_wp2
     exact hK
   case body =>
     rintro r pre x W ⟨⟨hp, hM, hR⟩, hB⟩ _
     have hcm := hM.cell
     have hfm := hM.frozen
     have hcr := hR.cell
     have hfr := hR.frozen
     by_cases h3 : x.1 ≤ 0
     · by_cases h4 : 0 < x.2
       · gi_wp2
         exact ⟨(KeepsOthers.setCell _ _ _).from _, ⟨rfl, pre, x, rfl, hp, ⟨h3, h4⟩, hR.set _⟩, hB.setCell (p := ⟨w.heap.size + 1, 0, none⟩) (by simp) _⟩
       · have h4' : x.2 ≤ 0 := by omega
         have hd4 : decide (0 < x.2) = false := decide_eq_false h4
         gi_wp2
         exact ⟨KeepsFrom.refl _ _, Below.refl _ _, ⟨out_snoc hp (by omega), hM, hR⟩, hB⟩
     · have h3' : 0 < x.1 := by omega
       have hd3 : decide (x.1 ≤ 0) = false := decide_eq_false h3
       gi_wp2
       exact ⟨KeepsFrom.refl _ _, Below.refl _ _, ⟨out_snoc hp (by omega), hM, hR⟩, hB⟩
   case done =>
     rintro D ys W hD rfl ⟨⟨hp, hM, hR⟩, hB⟩ hK
     have hcm := hM.cell
     have hfm := hM.frozen
     have hcr := hR.cell
     have hfr := hR.frozen
     gi_wp2
     have hK' := (KeepsOthers.setCell W ⟨w.heap.size + 1, 0, none⟩ (.int .i64 0)).same D _ hK rfl
     refine ⟨by simp, .inl ⟨_, _, rfl, run_takeDeferred hK', ?_⟩⟩
     have hc5 := cell_kept (World.cell?_setCell_same' W ⟨w.heap.size + 1, 0, none⟩ (.int .i64 0) (by rw [hcr]; rfl)) (grownBy_putObj' _ D (.deferred none)) (fun r e => by cases e; exact ⟨_, hK', rfl⟩)
     have hg : gapIn ys 0 = 0 := by have := gapIn_app ys [] 0 hp; rw [List.append_nil] at this; exact this
     refine ⟨.int .i64 0, by simp [results, Try.f44, go_sem, hc5], by rw [hmx, hg], (hB.setCell (p := ⟨w.heap.size + 1, 0, none⟩) (by simp) _).trans (belowK_b (w := w) (Nat.le_refl _) _ D _ _ (by have := k2.size; omega) hK' rfl rfl)⟩
   case stop =>
     rintro D c pre W hD ⟨k, hk, rfl⟩ ⟨⟨rfl, ini, x, e1, e2, e3, hR⟩, hB⟩ hK
     gi_wp2
     refine ⟨by simp, .inl ⟨_, _, rfl, run_takeDeferred hK, ?_⟩⟩
     have hc5 := cell_kept hR.cell (grownBy_putObj' _ D (.deferred none)) (fun r e => by cases e; exact ⟨_, hK, rfl⟩)
     have hg : gapIn l 0 = x.2 := by
       rw [← List.take_append_drop k l, e1, List.append_assoc, gapIn_app _ _ _ e2]
       show gapIn (x :: _) 0 = x.2
       rw [gapIn, if_pos e3]
     refine ⟨.int .i64 x.2, by simp [results, Try.f44, go_sem, hc5], by rw [hmx, hg], hB.trans (belowK_b (w := w) (Nat.le_refl _) W D _ _ (by have := k2.size; omega) hK rfl rfl)⟩
  case neg =>
   have hmx : max n 0 = n := by omega
   have hn1 : 0 ≤ n := by omega
   gi_wp2_with (first | (refine ⟨trivial, ?_⟩; gi_at_call 45; refine (callsIn_wide.2 hmay).mono ?_; rintro e w1 ⟨rfl, hb1⟩; have a3 := bx_below a2 hb1 a2.lt; have a4 := bx_below a1' hb1 a1'.lt; have hc3 := a3.cell; have hf3 := a3.frozen; have hc4 := a4.cell; have hf4 := a4.frozen; have hs1 := hs0.keep hb1) | (refine ⟨trivial, ?_⟩; gi_at_call 54; refine (ends_in Fence.wide _ trivial rfl _ _ _ _).mono ?_; rintro e w' ⟨rfl, rfl⟩))
   have k1 : Below w.heap.size w (w1.setCell ⟨w.heap.size, 0, none⟩ (.int .i64 n)) := (hb0.trans (hb1.mono hb0.size)).setCell (p := ⟨w.heap.size, 0, none⟩) (Nat.le_refl _) _
   have k2 : Below w.heap.size w ((w1.setCell ⟨w.heap.size, 0, none⟩ (.int .i64 n)).alloc (.cells #[.slice A len cap] 23)) := k1.alloc k1.size _
   have bM : Boxed (w1.setCell ⟨w.heap.size, 0, none⟩ (.int .i64 n)) w.heap.size 3 (.int .i64 n) := a4.set _
   have bR : Boxed (w1.setCell ⟨w.heap.size, 0, none⟩ (.int .i64 n)) (w.heap.size + 1) 3 (.int .i64 0) := a3.other (by omega) _
   have bN := Boxed.new (w1.setCell ⟨w.heap.size, 0, none⟩ (.int .i64 n)) 23 (.slice A len cap)
   have hsz : (w1.setCell ⟨w.heap.size, 0, none⟩ (.int .i64 n)).heap.size = w1.heap.size := by simp
   have hsz1 : w.heap.size + 1 < w1.heap.size := a3.lt
   rw [hsz] at bN
   obtain ⟨w2, hw2⟩ : ∃ w2, w1.setCell ⟨w.heap.size, 0, none⟩ (.int .i64 n) = w2 := ⟨_, rfl⟩
   rw [hw2] at k1 k2 bM bR bN hsz ⊢
   have hsz3 : (w2.alloc (.cells #[.slice A len cap] 23)).heap.size = w1.heap.size + 1 := by rw [World.size_alloc, hsz]
   refine wpIn_rangeFunc_ownG rfl h1 (gf := 58) (lb := #[.pointer (some ⟨w1.heap.size, 0, none⟩)]) rfl trivial (enters_of Try.func58 (by kernel_rfl) rfl)
     (ends_stops Fence.wide (4 - 1) trivial rfl (by omega) w1.heap.size w.heap.size A len cap l (by omega) _ (by omega) k2.size bN.cell (hs.rd.keep k2) (fresh_of hs)) belowK_t (belowK_b k2.size) (Below.refl _ _) (fun _ => rfl)
     (fun pre W => (Out pre n ∧ Boxed W w.heap.size 3 (.int .i64 n) ∧ Boxed W (w.heap.size + 1) 3 (.int .i64 0)) ∧ Below w.heap.size w W)
     (fun c pre W => (c = .ret ∧ ∃ ini x, pre = ini ++ [x] ∧ Out ini n ∧ (x.1 ≤ n ∧ n < x.2) ∧ Boxed W (w.heap.size + 1) 3 (.int .i64 x.2)) ∧ Below w.heap.size w W)
     (OwnFrom.and (Own.from (fun s A B row hs hg hr => ⟨hs.1, boxed_own _ _ (fun _ => .int .i64 n) s A B row hs.2.1 hg hr, boxed_own _ _ (fun _ => .int .i64 0) s A B row hs.2.2 hg hr⟩) _) (ownFrom_below (Nat.le_refl _) k2.size))
     (fun c => OwnFrom.and (Own.from (fun s A B row hs hg hr => by obtain ⟨hc, ini, x, e1, e2, e3, e4⟩ := hs; exact ⟨hc, ini, x, e1, e2, e3, boxed_own _ _ (fun _ => .int .i64 x.2) s A B row e4 hg hr⟩) _) (ownFrom_below (Nat.le_refl _) k2.size))
     ⟨⟨out_nil _, bM.alloc _, bR.alloc _⟩, k2⟩
     (fun x => { tmps := #[.slice A len cap, .int .i64 n, undef, .pointer (some ⟨w.heap.size, 0, none⟩), .pointer (some ⟨w.heap.size + 1, 0, none⟩), .int .i64 x.1, .int .i64 x.2, .slice A len cap, .bool true, .bool false, .int .i64 n, .int .i64 n, .slice A len cap, .func (.func 58) #[] #[.pointer (some ⟨w1.heap.size, 0, none⟩)], .int .i64 x.1, .int .i64 x.2, undef, undef, undef, undef, undef, undef, undef, undef, undef, undef], defers := [] }) ?assign ?body ?done ?stop
   case assign =>
     intro l x W K hK
     gi_wp2
     exact hK
   case body =>
     rintro r pre x W ⟨⟨hp, hM, hR⟩, hB⟩ _
     have hcm := hM.cell
     have hfm := hM.frozen
     have hcr := hR.cell
     have hfr := hR.frozen
     by_cases h3 : x.1 ≤ n
     · by_cases h4 : n < x.2
       · gi_wp2
         exact ⟨(KeepsOthers.setCell _ _ _).from _, ⟨rfl, pre, x, rfl, hp, ⟨h3, h4⟩, hR.set _⟩, hB.setCell (p := ⟨w.heap.size + 1, 0, none⟩) (by simp) _⟩
       · have h4' : x.2 ≤ n := by omega
         have hd4 : decide (n < x.2) = false := decide_eq_false h4
         gi_wp2
         exact ⟨KeepsFrom.refl _ _, Below.refl _ _, ⟨out_snoc hp (by omega), hM, hR⟩, hB⟩
     · have h3' : n < x.1 := by omega
       have hd3 : decide (x.1 ≤ n) = false := decide_eq_false h3
       gi_wp2
       exact ⟨KeepsFrom.refl _ _, Below.refl _ _, ⟨out_snoc hp (by omega), hM, hR⟩, hB⟩
   case done =>
     rintro D ys W hD rfl ⟨⟨hp, hM, hR⟩, hB⟩ hK
     have hcm := hM.cell
     have hfm := hM.frozen
     have hcr := hR.cell
     have hfr := hR.frozen
     gi_wp2
     have hK' := (KeepsOthers.setCell W ⟨w.heap.size + 1, 0, none⟩ (.int .i64 n)).same D _ hK rfl
     refine ⟨by simp, .inl ⟨_, _, rfl, run_takeDeferred hK', ?_⟩⟩
     have hc5 := cell_kept (World.cell?_setCell_same' W ⟨w.heap.size + 1, 0, none⟩ (.int .i64 n) (by rw [hcr]; rfl)) (grownBy_putObj' _ D (.deferred none)) (fun r e => by cases e; exact ⟨_, hK', rfl⟩)
     have hg : gapIn ys n = n := by have := gapIn_app ys [] n hp; rw [List.append_nil] at this; exact this
     refine ⟨.int .i64 n, by simp [results, Try.f44, go_sem, hc5], by rw [hmx, hg], (hB.setCell (p := ⟨w.heap.size + 1, 0, none⟩) (by simp) _).trans (belowK_b (w := w) (Nat.le_refl _) _ D _ _ (by have := k2.size; omega) hK' rfl rfl)⟩
   case stop =>
     rintro D c pre W hD ⟨k, hk, rfl⟩ ⟨⟨rfl, ini, x, e1, e2, e3, hR⟩, hB⟩ hK
     gi_wp2
     refine ⟨by simp, .inl ⟨_, _, rfl, run_takeDeferred hK, ?_⟩⟩
     have hc5 := cell_kept hR.cell (grownBy_putObj' _ D (.deferred none)) (fun r e => by cases e; exact ⟨_, hK, rfl⟩)
     have hg : gapIn l n = x.2 := by
       rw [← List.take_append_drop k l, e1, List.append_assoc, gapIn_app _ _ _ e2]
       show gapIn (x :: _) n = x.2
       rw [gapIn, if_pos e3]
     refine ⟨.int .i64 x.2, by simp [results, Try.f44, go_sem, hc5], by rw [hmx, hg], hB.trans (belowK_b (w := w) (Nat.le_refl _) W D _ _ (by have := k2.size; omega) hK rfl rfl)⟩

end Go.Proofs.Ytgiknfmagmfniaa
