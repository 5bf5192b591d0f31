/- The texts Wo1, WoMath, Wo2. -/
import Derived.Below
import Derived.BigQuiet
import Derived.Deep.QuietTactic
import Derived.Laws.CopyOwn
import Derived.Lib.Hide
import Derived.Outline
import Derived.Test.YtggnhccpncgfiaaProg
import Derived.WalkKit
import Derived.WalkSmall
import Derived.WalkSpells
import Derived.Test.YtggnhccpncgfiaaM03
import Derived.Test.YtggnhccpncgfiaaM04
import Derived.Test.YtggnhccpncgfiaaM06
set_option linter.all false
namespace Go.Proofs.Ytggnhccpncgfiaa
open Go.RowKit
def posB (p : Int) : Bool := decide (0 ≤ p) && decide (p ≤ 2305843009213693952)
theorem posB_iff {p : Int} : posB p = true ↔ 0 ≤ p ∧ p ≤ 2305843009213693952 := by unfold posB; simp
theorem posB_not {p : Int} : posB p = false ↔ ¬ (0 ≤ p ∧ p ≤ 2305843009213693952) := by rw [← posB_iff]; simp
theorem wpos_any (p : Int) (w : World) : Calls Try.prog 83 #[.int .i64 p] w fun e w' => e = .returned (.bool (posB p)) ∧ w = w' := by
  by_cases h1 : 0 ≤ p
  · have e1 : posB p = decide (p ≤ 2305843009213693952) := by unfold posB; rw [decide_eq_true h1]; rfl
    rw [e1]
    clear e1
    go_enter Try.func83, Try.ntmps83
    go_wp2
    go_ret
    exact ⟨rfl, rfl⟩
  · have e1 : posB p = false := by unfold posB; rw [decide_eq_false h1]; rfl
    rw [e1]
    clear e1
    go_enter Try.func83, Try.ntmps83
    go_wp2
    go_ret
    exact ⟨rfl, rfl⟩
set_option maxHeartbeats 1000000 in
theorem wedge_in (base : Int) (A : Option Addr) (n c : Nat) (G : Option Addr) (m d : Nat) (cap en : Int) (w : World) (h0 : 0 ≤ base) (h1 : base ≤ 2305843009213693952) (h2 : 0 ≤ cap) (h3 : cap ≤ 65536) :
    Calls Try.prog 86 #[.agg #[.int .i64 base, .slice A n c, .slice G m d, .int .i64 cap, .int .i64 en]] w fun e w' => e = .returned (.int .i64 (min (base + cap) 2305843009213693952)) ∧ Below w.heap.size w w' := by
  have e0 := Bx.new w 25 [.int .i64 base, .slice A n c, .slice G m d, .int .i64 cap, .int .i64 en]
  have x0 := e0.cell 0 rfl
  have x3 := e0.cell 3 rfl
  have hb : Below w.heap.size w (w.alloc (.cells #[.int .i64 base, .slice A n c, .slice G m d, .int .i64 cap, .int .i64 en] 25)) := (Below.refl _ _).alloc (Nat.le_refl _) _
  go_enter Try.func86, Try.ntmps86
  go_wp2
  all_goals (go_ret; exact ⟨ret_i (by omega), hb⟩)
def headOf (base : Int) : List Sp → Int
  | [] => base
  | p :: _ => p.1
theorem head_sp {base : Int} {l : List Sp} (h : 0 < l.length) : headOf base l = (sp l 0).1 := by
  cases l with
  | nil => simp at h
  | cons p t => rfl
set_option maxHeartbeats 1000000 in
theorem wend_any (base : Int) (A : Option Addr) (n c : Nat) (G : Option Addr) (m d : Nat) (cap en : Int) (gl : List Sp) (w : World) (hg : Ss w G m d gl) :
    Calls Try.prog 85 #[.agg #[.int .i64 base, .slice A n c, .slice G m d, .int .i64 cap, .int .i64 en]] w fun e w' => e = .returned (.int .i64 (lastOf base gl)) ∧ Below w.heap.size w w' := by
  have e0 := Bx.new w 25 [.int .i64 base, .slice A n c, .slice G m d, .int .i64 cap, .int .i64 en]
  have x0 := e0.cell 0 rfl
  have x2 := e0.cell 2 rfl
  have hb : Below w.heap.size w (w.alloc (.cells #[.int .i64 base, .slice A n c, .slice G m d, .int .i64 cap, .int .i64 en] 25)) := (Below.refl _ _).alloc (Nat.le_refl _) _
  have hl := hg.rd.len
  have hmx := hg.max
  have hle := hg.le
  unfold maxLen at hmx
  by_cases h0 : m = 0
  · subst h0
    obtain rfl : gl = [] := List.eq_nil_of_length_eq_zero hl
    rw [lastOf_nil]
    go_enter Try.func85, Try.ntmps85
    go_wp2
    go_ret
    exact ⟨rfl, hb⟩
  · rw [last_sp (by omega), hl]
    obtain ⟨k, rfl⟩ : ∃ k, m = k + 1 := ⟨m - 1, by omega⟩
    obtain ⟨b, o, rfl, hbl, hc⟩ := hg.rd.at_ (by omega)
    have h1 := (hb.cell (p := ⟨b, o + k * 2 + 1, none⟩) hbl).trans (hc k (by omega)).2
    obtain ⟨p, hp⟩ : ∃ p, sp gl k = p := ⟨_, rfl⟩
    rw [show k + 1 - 1 = k by omega, hp]
    rw [hp] at h1
    have i0 : (0 : Int) ≤ (k : Int) := by omega
    have n0 : ¬ (((k : Int) + 1) = 0) := by omega
    clear hc h0 hl
    go_enter Try.func85, Try.ntmps85
    go_wp2
    go_ret
    exact ⟨rfl, hb⟩
set_option maxHeartbeats 1000000 in
theorem wbegin_any (base : Int) (A : Option Addr) (n c : Nat) (G : Option Addr) (m d : Nat) (cap en : Int) (gl : List Sp) (w : World) (hg : Ss w G m d gl) :
    Calls Try.prog 84 #[.agg #[.int .i64 base, .slice A n c, .slice G m d, .int .i64 cap, .int .i64 en]] w fun e w' => e = .returned (.int .i64 (headOf base gl)) ∧ Below w.heap.size w w' := by
  have e0 := Bx.new w 25 [.int .i64 base, .slice A n c, .slice G m d, .int .i64 cap, .int .i64 en]
  have x0 := e0.cell 0 rfl
  have x2 := e0.cell 2 rfl
  have hb : Below w.heap.size w (w.alloc (.cells #[.int .i64 base, .slice A n c, .slice G m d, .int .i64 cap, .int .i64 en] 25)) := (Below.refl _ _).alloc (Nat.le_refl _) _
  have hl := hg.rd.len
  have hmx := hg.max
  have hle := hg.le
  unfold maxLen at hmx
  by_cases h0 : m = 0
  · subst h0
    obtain rfl : gl = [] := List.eq_nil_of_length_eq_zero hl
    rw [show headOf base [] = base from rfl]
    go_enter Try.func84, Try.ntmps84
    go_wp2
    go_ret
    exact ⟨rfl, hb⟩
  · rw [head_sp (by omega)]
    obtain ⟨k, rfl⟩ : ∃ k, m = k + 1 := ⟨m - 1, by omega⟩
    obtain ⟨b, o, rfl, hbl, hc⟩ := hg.rd.at_ (by omega)
    have h1 := (hb.cell (p := ⟨b, o + 0 * 2, none⟩) hbl).trans (hc 0 (by omega)).1
    obtain ⟨p, hp⟩ : ∃ p, sp gl 0 = p := ⟨_, rfl⟩
    rw [hp]; simp only [Nat.zero_mul, Nat.add_zero] at h1
    rw [hp] at h1
    have i0 : (0 : Int) ≤ (k : Int) := by omega
    have n0 : ¬ (((k : Int) + 1) = 0) := by omega
    clear hc h0 hl
    go_enter Try.func84, Try.ntmps84
    go_wp2
    go_ret
    exact ⟨rfl, hb⟩
set_option maxHeartbeats 1000000 in
theorem sclone_any (A : Option Addr) (n c : Nat) (l : List Sp) (w : World) (hr : Ss w A n c l) (hn : n ≤ 1000000) :
    Calls Try.prog 63 #[.slice A n c] w fun e w' => ∃ R d, e = .returned (.slice R n d) ∧ Sq w' w.heap.size R n d l ∧ Below w.heap.size w w' := by
  have qn := fun (w : World) (a : Option Addr) (n c n' c' : Nat) => Lib.run_eql_slice_nil (P := Try.prog) w _ _ a n c n' c' Try.underlying23
  cases A with
  | none =>
    have hc := hr.nil rfl
    have hle := hr.le
    obtain rfl : n = 0 := by omega
    have hz := hr.rd.len
    obtain rfl : l = [] := List.eq_nil_of_length_eq_zero hz
    clear hc hle hz
    go_enter Try.func63, Try.ntmps63
    go_wp2
    go_ret
    exact ⟨none, 0, rfl, Sq.none _ _, Below.refl _ _⟩
  | some a =>
    have hmade : (w.alloc (.cells #[] 60)).ownsRow w.heap.size 60 2 (.slice (some ⟨w.heap.size, 0, none⟩) 0 0) 0 (vals []) := World.ownsRow_made w #[] 0 (Nat.le_refl _) (Nat.zero_le _) rfl
    go_enter Try.func63, Try.ntmps63
    go_wp2_with (at_builtin; refine wpList_apps _ rfl (.tmp 5) (.tmp 6) 23 rfl w.heap.size 60 Try.underlying23 info_sp _ 0 [] rfl ⟨hmade, fun p hp => by simp at hp⟩ rfl hr.nil (hr.rd.alloc _) (by omega) (by simp) ?_; intro v1 w1 hown1 hgrow1 hat1)
    have b1 : Below w.heap.size w w1 := ((Below.refl _ _).alloc (Nat.le_refl _) _).grown hgrow1 (by simp) (fun k hk => (hmade.lt k hk).1)
    simp only [Nat.zero_add, List.nil_append] at hown1
    obtain ⟨R, d, rfl, hsl⟩ := hown1.sq
    go_wp2
    go_ret
    exact ⟨R, d, rfl, hsl, b1⟩
set_option maxRecDepth 100000 in
set_option maxHeartbeats 4000000 in
theorem wowned_any (base : Int) (A : Option Addr) (n c : Nat) (G : Option Addr) (m d : Nat) (cap en : Int) (bl : List Int) (gl : List Sp) (w : World) (hb : Sl w A n c bl) (hg : Ss w G m d gl) (hn : n ≤ 1000000) (hm : m ≤ 1000000) :
    Calls Try.prog 76 #[.agg #[.int .i64 base, .slice A n c, .slice G m d, .int .i64 cap, .int .i64 en]] w fun e w' => ∃ R q H r, e = .returned (.agg #[.int .i64 base, .slice R n q, .slice H m r, .int .i64 cap, .int .i64 en]) ∧ Sb w' w.heap.size R n q bl ∧ Sq w' w.heap.size H m r gl ∧ Below w.heap.size w w' := by
  obtain ⟨B, hB⟩ : ∃ B, w.heap.size = B := ⟨_, rfl⟩
  have e0 := (Bx.new w 25 [.int .i64 base, .slice A n c, .slice G m d, .int .i64 cap, .int .i64 en]).alloc (.cells #[.int .i64 0, .slice none 0 0, .slice none 0 0, .int .i64 0, .int .i64 0] 25)
  have r0 := Bx.new (w.alloc (.cells #[.int .i64 base, .slice A n c, .slice G m d, .int .i64 cap, .int .i64 en] 25)) 25 [.int .i64 0, .slice none 0 0, .slice none 0 0, .int .i64 0, .int .i64 0]
  have hb0 : Below w.heap.size w ((w.alloc (.cells #[.int .i64 base, .slice A n c, .slice G m d, .int .i64 cap, .int .i64 en] 25)).alloc (.cells #[.int .i64 0, .slice none 0 0, .slice none 0 0, .int .i64 0, .int .i64 0] 25)) := ((Below.refl _ _).alloc (Nat.le_refl _) _).alloc (by simp) _
  rw [hB] at e0 hb0
  rw [World.size_alloc, hB] at r0
  have hsz : ((w.alloc (.cells #[.int .i64 base, .slice A n c, .slice G m d, .int .i64 cap, .int .i64 en] 25)).alloc (.cells #[.int .i64 0, .slice none 0 0, .slice none 0 0, .int .i64 0, .int .i64 0] 25)).heap.size = B + 1 + 1 := by simp [hB]
  have hbk : ∀ {w' : World}, Below B w w' → Sl w' A n c bl := fun h => hb.keep (by rw [hB]; exact h)
  have hgk : ∀ {w' : World}, Below B w w' → Ss w' G m d gl := fun h => hg.keep (by rw [hB]; exact h)
  go_enter Try.func76, Try.ntmps76
  rw [hB]
  obtain ⟨w0, hw0⟩ : ∃ w0, ((w.alloc (.cells #[.int .i64 base, .slice A n c, .slice G m d, .int .i64 cap, .int .i64 en] 25)).alloc (.cells #[.int .i64 0, .slice none 0 0, .slice none 0 0, .int .i64 0, .int .i64 0] 25)) = w0 := ⟨_, rfl⟩
  have e1 : Bx w0 B 25 [.int .i64 base, .slice A n c, .slice G m d, .int .i64 cap, .int .i64 en] := by rw [← hw0]; exact e0
  have r1 : Bx w0 (B + 1) 25 [.int .i64 0, .slice none 0 0, .slice none 0 0, .int .i64 0, .int .i64 0] := by rw [← hw0]; exact r0
  have b1 : Below B w w0 := by rw [← hw0]; exact hb0
  have s1 : w0.heap.size = B + 1 + 1 := by rw [← hw0]; exact hsz
  clear e0 r0 hb0 hsz
  have x1 := e1.cell 1 rfl
  go_wp2_with fail
  refine (clone_any A n c bl _ (hbk b1) hn).mono ?_
  rintro e w2 ⟨R, q, rfl, sb, hb2⟩
  have e2 := e1.kept hb2
  have r2 := r1.kept hb2
  have b2 := b1.trans (hb2.mono (by omega))
  have xf := e2.free 1
  clear x1
  have x1 := e2.cell 1 rfl
  have e3 := e2.set 1 (.slice R n q)
  have r3 := r2.far (p := ⟨B, 1, none⟩) (by simp) (.slice R n q)
  have b3 := b2.setCell (p := ⟨B, 1, none⟩) (by simp) (.slice R n q)
  have sb3 := sb.set (p := ⟨B, 1, none⟩) (by simp; omega) (.slice R n q)
  have s3 : B + 1 + 1 ≤ (w2.setCell ⟨B, 1, none⟩ (.slice R n q)).heap.size := by have := r3.lt; omega
  have x2 := e3.cell 2 rfl
  go_wp2_with fail
  refine (sclone_any G m d gl _ (hgk b3) hm).mono ?_
  rintro e w4 ⟨H, r, rfl, sq, hb4⟩
  have e4 := e3.kept hb4
  have r4 := r3.kept hb4
  have b4 := b3.trans (hb4.mono (by omega))
  have sb4 := sb3.keep hb4
  have yf := e4.free 2
  clear x1 x2 xf
  have x2 := e4.cell 2 rfl
  have e5 := e4.set 2 (.slice H m r)
  have r5 := r4.far (p := ⟨B, 2, none⟩) (by simp) (.slice H m r)
  have b5 := b4.setCell (p := ⟨B, 2, none⟩) (by simp) (.slice H m r)
  have sb5 := sb4.set (p := ⟨B, 2, none⟩) (by simp; omega) (.slice H m r)
  have sq5 := (sq.mono s3).set (p := ⟨B, 2, none⟩) (by simp; try omega) (.slice H m r)
  have z0 := e5.cell 0 rfl
  have z1 := e5.cell 1 rfl
  have z2 := e5.cell 2 rfl
  have z3 := e5.cell 3 rfl
  have z4 := e5.cell 4 rfl
  have t0 := r5.cell 0 rfl
  have t1 := r5.cell 1 rfl
  have t2 := r5.cell 2 rfl
  have t3 := r5.cell 3 rfl
  have t4 := r5.cell 4 rfl
  have tf0 := r5.free 0
  have tf1 := r5.free 1
  have tf2 := r5.free 2
  have tf3 := r5.free 3
  have tf4 := r5.free 4
  go_wp2_with fail
  have OV := (((((r5.set 0 (.int .i64 base)).set 1 (.slice R n q)).set 2 (.slice H m r)).set 3 (.int .i64 cap)).set 4 (.int .i64 en))
  have y0 := OV.cell 0 rfl
  have y1 := OV.cell 1 rfl
  have y2 := OV.cell 2 rfl
  have y3 := OV.cell 3 rfl
  have y4 := OV.cell 4 rfl
  have bz := (((((b5.setCell (p := ⟨B + 1, 0, none⟩) (by simp) (.int .i64 base)).setCell (p := ⟨B + 1, 1, none⟩) (by simp) (.slice R n q)).setCell (p := ⟨B + 1, 2, none⟩) (by simp) (.slice H m r)).setCell (p := ⟨B + 1, 3, none⟩) (by simp) (.int .i64 cap)).setCell (p := ⟨B + 1, 4, none⟩) (by simp) (.int .i64 en))
  refine bodyPost_ret (v := .agg #[.int .i64 base, .slice R n q, .slice H m r, .int .i64 cap, .int .i64 en]) (by simp [results, Try.results76, go_sem, y0, y1, y2, y3, y4]) rfl ⟨R, q, H, r, rfl, ?_, ?_, bz⟩
  · exact (((((sb5.set (p := ⟨B + 1, 0, none⟩) (by simp; omega) (.int .i64 base)).set (p := ⟨B + 1, 1, none⟩) (by simp; omega) (.slice R n q)).set (p := ⟨B + 1, 2, none⟩) (by simp; omega) (.slice H m r)).set (p := ⟨B + 1, 3, none⟩) (by simp; omega) (.int .i64 cap)).set (p := ⟨B + 1, 4, none⟩) (by simp; omega) (.int .i64 en)).mono (by omega)
  · exact (((((sq5.set (p := ⟨B + 1, 0, none⟩) (by simp) (.int .i64 base)).set (p := ⟨B + 1, 1, none⟩) (by simp) (.slice R n q)).set (p := ⟨B + 1, 2, none⟩) (by simp) (.slice H m r)).set (p := ⟨B + 1, 3, none⟩) (by simp) (.int .i64 cap)).set (p := ⟨B + 1, 4, none⟩) (by simp) (.int .i64 en)).mono (by omega)
set_option maxHeartbeats 1000000 in
theorem wnew_any (room : Int) (w : World) :
    Calls Try.prog 47 #[.int .i64 room] w fun e w' => TellW w w' e (newR room) := by
  unfold TellW
  have e0 := Bx.new w 25 [.int .i64 0, .slice none 0 0, .slice none 0 0, .int .i64 0, .int .i64 0]
  by_cases h0 : 0 ≤ room
  · by_cases h1 : room ≤ 65536
    · have hx : newR room = (⟨0, [], [], room, -1⟩, 0) := by unfold newR; rw [if_pos ⟨h0, h1⟩]
      rw [hx]
      have x0 := e0.cell 0 rfl
      have x1 := e0.cell 1 rfl
      have x2 := e0.cell 2 rfl
      have x3 := e0.cell 3 rfl
      have x4 := e0.cell 4 rfl
      have xf0 := e0.free 0
      have xf1 := e0.free 1
      have xf2 := e0.free 2
      have xf3 := e0.free 3
      have xf4 := e0.free 4
      have OV := Bx.new w 25 [.int .i64 0, .slice none 0 0, .slice none 0 0, .int .i64 room, .int .i64 (-1)]
      have y0 := OV.cell 0 rfl
      have y1 := OV.cell 1 rfl
      have y2 := OV.cell 2 rfl
      have y3 := OV.cell 3 rfl
      have y4 := OV.cell 4 rfl
      have bz : Below w.heap.size w (w.alloc (.cells #[.int .i64 0, .slice none 0 0, .slice none 0 0, .int .i64 room, .int .i64 (-1)] 25)) := (Below.refl _ _).alloc (Nat.le_refl _) _
      go_enter Try.func47, Try.ntmps47
      go_wp2
      exact bodyPost_ret (v := .tuple #[.agg #[.int .i64 0, .slice none 0 0, .slice none 0 0, .int .i64 room, .int .i64 (-1)], .int .i64 0]) (by simp [results, Try.results47, go_sem, y0, y1, y2, y3, y4]) rfl ⟨none, 0, 0, none, 0, 0, rfl, Sb.none _ _, Sq.none _ _, bz⟩
    · have hx : newR room = (⟨0, [], [], 0, 0⟩, 1) := by unfold newR; rw [if_neg (fun h => h1 h.2)]; rfl
      rw [hx]
      have h1' : 65536 < room := by omega
      have x0 := e0.cell 0 rfl
      have x1 := e0.cell 1 rfl
      have x2 := e0.cell 2 rfl
      have x3 := e0.cell 3 rfl
      have x4 := e0.cell 4 rfl
      have xf0 := e0.free 0
      have xf1 := e0.free 1
      have xf2 := e0.free 2
      have xf3 := e0.free 3
      have xf4 := e0.free 4
      have OV := Bx.new w 25 [.int .i64 0, .slice none 0 0, .slice none 0 0, .int .i64 0, .int .i64 0]
      have y0 := OV.cell 0 rfl
      have y1 := OV.cell 1 rfl
      have y2 := OV.cell 2 rfl
      have y3 := OV.cell 3 rfl
      have y4 := OV.cell 4 rfl
      have bz : Below w.heap.size w (w.alloc (.cells #[.int .i64 0, .slice none 0 0, .slice none 0 0, .int .i64 0, .int .i64 0] 25)) := (Below.refl _ _).alloc (Nat.le_refl _) _
      go_enter Try.func47, Try.ntmps47
      go_wp2
      exact bodyPost_ret (v := .tuple #[.agg #[.int .i64 0, .slice none 0 0, .slice none 0 0, .int .i64 0, .int .i64 0], .int .i64 1]) (by simp [results, Try.results47, go_sem, y0, y1, y2, y3, y4]) rfl ⟨none, 0, 0, none, 0, 0, rfl, Sb.none _ _, Sq.none _ _, bz⟩
  · have hx : newR room = (⟨0, [], [], 0, 0⟩, 1) := by unfold newR; rw [if_neg (fun h => h0 h.1)]; rfl
    rw [hx]
    have h0' : room < 0 := by omega
    have x0 := e0.cell 0 rfl
    have x1 := e0.cell 1 rfl
    have x2 := e0.cell 2 rfl
    have x3 := e0.cell 3 rfl
    have x4 := e0.cell 4 rfl
    have xf0 := e0.free 0
    have xf1 := e0.free 1
    have xf2 := e0.free 2
    have xf3 := e0.free 3
    have xf4 := e0.free 4
    have OV := Bx.new w 25 [.int .i64 0, .slice none 0 0, .slice none 0 0, .int .i64 0, .int .i64 0]
    have y0 := OV.cell 0 rfl
    have y1 := OV.cell 1 rfl
    have y2 := OV.cell 2 rfl
    have y3 := OV.cell 3 rfl
    have y4 := OV.cell 4 rfl
    have bz : Below w.heap.size w (w.alloc (.cells #[.int .i64 0, .slice none 0 0, .slice none 0 0, .int .i64 0, .int .i64 0] 25)) := (Below.refl _ _).alloc (Nat.le_refl _) _
    go_enter Try.func47, Try.ntmps47
    go_wp2
    exact bodyPost_ret (v := .tuple #[.agg #[.int .i64 0, .slice none 0 0, .slice none 0 0, .int .i64 0, .int .i64 0], .int .i64 1]) (by simp [results, Try.results47, go_sem, y0, y1, y2, y3, y4]) rfl ⟨none, 0, 0, none, 0, 0, rfl, Sb.none _ _, Sq.none _ _, bz⟩
end Go.Proofs.Ytggnhccpncgfiaa
namespace Go.Proofs.Ytggnhccpncgfiaa
theorem last_take {d : Int} {l : List Sp} {k : Nat} (h : k < l.length) : lastOf d (l.take (k + 1)) = (sp l k).2 := by rw [take_sp h, lastOf_snoc]
theorem ch_split {d : Int} {l : List Sp} (h : chain d l = true) {k : Nat} (hk : k < l.length) : chain d (l.take k) = true ∧ lastOf d (l.take k) < (sp l k).1 ∧ (0 ≤ (sp l k).1 ∧ (sp l k).1 < (sp l k).2 ∧ (sp l k).2 ≤ 4611686018427387904) ∧ chain (sp l k).2 (l.drop (k + 1)) = true := by
  have e : l = l.take k ++ l.drop k := (List.take_append_drop k l).symm
  rw [e, chain_app, Bool.and_eq_true, drop_sp hk, ch_cons] at h
  exact ⟨h.1, h.2.1, h.2.2.1, h.2.2.2⟩
theorem last_split {d : Int} {l : List Sp} (h : chain d l = true) {k : Nat} (hk : k < l.length) : (sp l k).2 ≤ lastOf d l := by
  have h1 := (ch_split h hk).2.2.1
  have hin : inL l ((sp l k).2 - 1) := ⟨sp l k, by rw [sp_eq hk]; exact List.getElem_mem hk, by omega, by omega⟩
  have := last_in h hin
  omega
theorem span_in {l : List Sp} {k : Nat} (hk : k < l.length) {q : Int} (h1 : (sp l k).1 ≤ q) (h2 : q < (sp l k).2) : inL l q := ⟨sp l k, by rw [sp_eq hk]; exact List.getElem_mem hk, h1, h2⟩
theorem take_in {l : List Sp} {k : Nat} (hk : k < l.length) (q : Int) : inL (l.take (k + 1)) q ↔ inL (l.take k) q ∨ ((sp l k).1 ≤ q ∧ q < (sp l k).2) := by
  rw [take_sp hk, inL_app, inL_cons]
  constructor
  · rintro (h | h | h)
    · exact .inl h
    · exact .inr h
    · exact absurd h (inL_nil q)
  · rintro (h | h)
    · exact .inl h
    · exact .inr (.inl h)
theorem gap_free {d : Int} {l : List Sp} (h : chain d l = true) {k : Nat} (hk : k < l.length) {q : Int} (h1 : lastOf d (l.take k) ≤ q) (h2 : q < (sp l k).1) : ¬ inL l q := by
  obtain ⟨c1, c2, c3, c4⟩ := ch_split h hk
  intro hq
  rw [show l = l.take k ++ l.drop k from (List.take_append_drop k l).symm, inL_app, drop_sp hk, inL_cons] at hq
  rcases hq with hq | hq | hq
  · have := last_in c1 hq; omega
  · omega
  · have := low_in c4 hq; omega
theorem last_base (base : Int) (l : List Sp) : lastOf (base - 1) l ≤ lastOf base l := by
  cases l with
  | nil => rw [lastOf_nil, lastOf_nil]; omega
  | cons p t => exact Int.le_refl _
theorem last_base_ge {base : Int} {l : List Sp} (h : chain (base - 1) l = true) (k : Nat) : base ≤ lastOf base (l.take k) := by
  cases hl : l.take k with
  | nil => rw [lastOf_nil]; exact Int.le_refl _
  | cons p t =>
    have hc := chain_take h k
    rw [hl] at hc
    have := ch_cons.1 hc
    have := last_ge this.2.2
    rw [last_cons]; omega
/-- all places ahead of the end of the first k spans are 0 or in the list -/
def Cl (gl : List Sp) (bl : List Int) (base : Int) (k : Nat) : Prop := ∀ i : Nat, base + i < lastOf base (gl.take k) → byt bl i = 0 ∨ inL gl (base + i)
theorem cl_zero (gl : List Sp) (bl : List Int) (base : Int) : Cl gl bl base 0 := fun i h => by rw [List.take_zero, lastOf_nil] at h; omega
theorem cl_succ {gl : List Sp} {bl : List Int} {base : Int} {k : Nat} (hk : k < gl.length) (h : Cl gl bl base k) (hz : ∀ i : Nat, lastOf base (gl.take k) ≤ base + i → base + i < (sp gl k).1 → byt bl i = 0) : Cl gl bl base (k + 1) := fun i hi => by
  rw [last_take hk] at hi
  by_cases h1 : base + (i : Int) < lastOf base (gl.take k)
  · exact h i h1
  · by_cases h2 : base + (i : Int) < (sp gl k).1
    · exact .inl (hz i (by omega) h2)
    · exact .inr (span_in hk (by omega) hi)
theorem cl_end {gl : List Sp} {bl : List Int} {base cap en : Int} (h : Cl gl bl base gl.length) (hU : lastOf base gl = base + bl.length) : okW ⟨base, bl, gl, cap, en⟩ = true := by
  rw [okW_iff]
  intro i hi
  have hi' : i < bl.length := hi
  exact h i (by rw [List.take_length, hU]; omega)
theorem cl_bad {gl : List Sp} {bl : List Int} {base cap en : Int} (hc : chain (base - 1) gl = true) {k i : Nat} (hk : k < gl.length) (h1 : lastOf base (gl.take k) ≤ base + i) (h2 : base + i < (sp gl k).1) (hi : i < bl.length) (hne : byt bl i ≠ 0) : okW ⟨base, bl, gl, cap, en⟩ = false := by
  cases ho : okW ⟨base, bl, gl, cap, en⟩ with
  | false => rfl
  | true =>
    rcases (okW_iff _).1 ho i hi with h | h
    · exact absurd h hne
    · exact absurd h (gap_free hc hk (q := base + i) (by have := last_base base (gl.take k); omega) h2)
theorem splice_map {α β : Type} (g : α → β) (L : List α) (o : Nat) (cs : List α) : (splice L o cs).map g = splice (L.map g) o (cs.map g) := by
  unfold splice; simp [List.map_take, List.map_drop]
theorem byt_app (a b : List Int) (i : Nat) : byt (a ++ b) i = if i < a.length then byt a i else byt b (i - a.length) := by
  unfold byt
  rw [List.getD_eq_getElem?_getD, List.getD_eq_getElem?_getD, List.getD_eq_getElem?_getD]
  by_cases h : i < a.length
  · rw [if_pos h, List.getElem?_append_left h]
  · rw [if_neg h, List.getElem?_append_right (by omega)]
theorem byt_splice {L cs : List Int} {o : Nat} (h : o + cs.length ≤ L.length) (i : Nat) : byt (splice L o cs) i = if o ≤ i ∧ i < o + cs.length then byt cs (i - o) else byt L i := by
  unfold splice
  rw [byt_app, byt_app, List.length_take, show min o L.length = o by omega]
  by_cases h1 : i < o
  · rw [if_pos h1, if_neg (by omega), byt_take h1]
  · rw [if_neg h1]
    by_cases h2 : i - o < cs.length
    · rw [if_pos h2, if_pos ⟨by omega, by omega⟩]
    · rw [if_neg h2, if_neg (by omega), byt_drop]
      congr 1; omega
theorem byt_zeros (N i : Nat) : byt (List.replicate N 0) i = 0 := by
  unfold byt
  rw [List.getD_eq_getElem?_getD, List.getElem?_replicate]
  split <;> rfl
/-- the bytes of the first k spans over b, which begins at f, over zeros -/
def wovB (gl : List Sp) (k : Nat) (base : Int) (bl b : List Int) (f N : Nat) : List Int := (List.range N).map fun (i : Nat) =>
  if inB (gl.take k) (base + i) = true then byt bl i else if f ≤ i ∧ i < f + b.length then byt b (i - f) else 0
theorem wov_len (gl : List Sp) (k : Nat) (base : Int) (bl b : List Int) (f N : Nat) : (wovB gl k base bl b f N).length = N := by unfold wovB; simp
theorem wov_at (gl : List Sp) (k : Nat) (base : Int) (bl b : List Int) (f N : Nat) {i : Nat} (h : i < N) : byt (wovB gl k base bl b f N) i = if inB (gl.take k) (base + i) = true then byt bl i else if f ≤ i ∧ i < f + b.length then byt b (i - f) else 0 := by
  unfold wovB; rw [byt_map_range _ _ _ h]
theorem wov_zero (gl : List Sp) (base : Int) (bl b : List Int) (f N : Nat) (h : f + b.length ≤ N) : splice (List.replicate N 0) f b = wovB gl 0 base bl b f N := by
  have hl : (splice (List.replicate N 0) f b).length = N := by rw [length_splice _ _ _ (by rw [List.length_replicate]; exact h), List.length_replicate]
  refine byt_ext (by rw [hl, wov_len]) (fun i hi => ?_)
  rw [hl] at hi
  rw [byt_splice (by rw [List.length_replicate]; exact h), wov_at _ _ _ _ _ _ _ hi, byt_zeros, if_neg (show ¬ inB (gl.take 0) (base + (i : Int)) = true by rw [List.take_zero]; simp [inB])]
theorem wov_succ {gl : List Sp} {base : Int} {bl b : List Int} {f N k o u : Nat} (hc : chain (base - 1) gl = true) (hk : k < gl.length) (ho : (sp gl k).1 = base + o) (hu : (sp gl k).2 = base + u) (hub : u ≤ bl.length) (hbN : bl.length ≤ N) :
    splice (wovB gl k base bl b f N) o ((bl.take u).drop o) = wovB gl (k + 1) base bl b f N := by
  have hs := (ch_split hc hk).2.2.1
  have hcl : ((bl.take u).drop o).length = u - o := by rw [List.length_drop, List.length_take]; omega
  have hfit : o + ((bl.take u).drop o).length ≤ (wovB gl k base bl b f N).length := by rw [hcl, wov_len]; omega
  have hl := length_splice _ _ _ hfit
  rw [wov_len] at hl
  refine byt_ext (by rw [hl, wov_len]) (fun i hi => ?_)
  rw [hl] at hi
  rw [byt_splice hfit, wov_at _ _ _ _ _ _ _ hi, wov_at _ _ _ _ _ _ _ hi, hcl]
  by_cases h1 : o ≤ i ∧ i < o + (u - o)
  · rw [if_pos h1, if_pos ((inB_iff _ _).2 ((take_in hk _).2 (.inr ⟨by omega, by omega⟩))), byt_drop, byt_take (by omega)]
    congr 1; omega
  · rw [if_neg h1]
    have e : inB (gl.take (k + 1)) (base + i) = inB (gl.take k) (base + i) := by
      rw [Bool.eq_iff_iff, inB_iff, inB_iff, take_in hk]
      constructor
      · rintro (h | h)
        · exact h
        · exact absurd ⟨by omega, by omega⟩ h1
      · exact .inl
    rw [e]
theorem wov_small {gl : List Sp} {k : Nat} {base : Int} {bl b : List Int} {f N : Nat} (h1 : Small bl) (h2 : Small b) : Small (wovB gl k base bl b f N) := by
  intro x hx
  unfold wovB at hx
  obtain ⟨i, hi, rfl⟩ := List.mem_map.1 hx
  split
  · exact byt_bd h1 i
  · split
    · exact byt_bd h2 _
    · omega
theorem wov_end {w : Wv} {p : Int} {bs : List Int} {f N kk jj : Nat} (hv : Va w) (hlt : lowP w p < highP w p bs.length) (hf : lowP w p = w.base + f) (hN : N = max w.b.length (highP w p bs.length - w.base).toNat) (hkk : lowP w p = p + kk) (hjj : highP w p bs.length = p + jj) :
    wovB w.got w.got.length w.base w.b ((bs.take jj).drop kk) f N = putB w p bs := by
  have hh := high_le' w p bs.length
  have hcl : ((bs.take jj).drop kk).length = jj - kk := by rw [List.length_drop, List.length_take]; omega
  refine byt_ext (by rw [wov_len, putB_len, hN]) (fun i hi => ?_)
  rw [wov_len] at hi
  rw [wov_at _ _ _ _ _ _ _ hi, putB_at _ _ _ (by rw [putB_len]; omega), List.take_length, hcl]
  by_cases hin : inB w.got (w.base + i) = true
  · rw [if_pos hin, if_neg (fun h => (newB_iff.1 h).2.2 ((inB_iff _ _).1 hin))]
  · rw [if_neg hin]
    have hni : ¬ inL w.got (w.base + i) := fun h => hin ((inB_iff _ _).2 h)
    by_cases h1 : f ≤ i ∧ i < f + (jj - kk)
    · rw [if_pos h1, if_pos (newB_iff.2 ⟨by omega, by omega, hni⟩), byt_drop, byt_take (by omega)]
      congr 1; omega
    · rw [if_neg h1, if_neg (fun h => h1 (by have := newB_iff.1 h; omega))]
      rcases Nat.lt_or_ge i w.b.length with h2 | h2
      · rcases hv.ok i h2 with h3 | h3
        · exact h3.symm
        · exact absurd h3 hni
      · exact (byt_out h2).symm
theorem ov_succ {l : List Sp} {d : Int} (h : chain d l = true) (lo : Int) (j : Nat) : ov (lo, lo + (j + 1 : Nat)) l = ov (lo, lo + j) l + (if inB l (lo + j) = true then 1 else 0) := by
  induction l generalizing d with
  | nil => rw [ov, ov]; simp [inB]
  | cons p t ih =>
    rw [ch_cons] at h
    rw [ov, ov, ih h.2.2]
    by_cases hp : p.1 ≤ lo + j ∧ lo + j < p.2
    · have e1 : inB (p :: t) (lo + j) = true := (inB_iff _ _).2 ((inL_cons _ _ _).2 (.inl hp))
      have e2 : ¬ inB t (lo + j) = true := fun h3 => by have := low_in h.2.2 ((inB_iff _ _).1 h3); omega
      rw [if_pos e1, if_neg e2]
      unfold ov1; simp only; omega
    · have e1 : inB (p :: t) (lo + j) = inB t (lo + j) := by
        rw [Bool.eq_iff_iff, inB_iff, inB_iff, inL_cons]
        constructor
        · rintro (h3 | h3)
          · exact absurd h3 hp
          · exact h3
        · exact .inr
      rw [e1]
      unfold ov1; simp only; omega
theorem putN_ov {l : List Sp} {d : Int} (h : chain d l = true) (lo : Int) (j : Nat) : ((putN l lo (lo + j) : Nat) : Int) + ov (lo, lo + j) l = j := by
  induction j with
  | zero =>
    rw [putN_zero']
    have : ∀ t : List Sp, ov (lo, lo + (0 : Nat)) t = 0 := by
      intro t
      induction t with
      | nil => rfl
      | cons p r ih => rw [ov, ih]; unfold ov1; simp only; omega
    rw [this]; omega
  | succ j ih =>
    rw [putN_succ, ov_succ h]
    split <;> simp <;> omega
theorem size_put {l : List Sp} {d lo hi : Int} (h : chain d l = true) (hlt : lo < hi) : size (ins l (lo, hi)) - size l = (putN l lo hi : Nat) := by
  rw [ins_size h hlt]
  obtain ⟨j, rfl⟩ : ∃ j : Nat, hi = lo + j := ⟨(hi - lo).toNat, by omega⟩
  have := putN_ov h lo j
  simp only; omega
end Go.Proofs.Ytggnhccpncgfiaa
namespace Go.Proofs.Ytggnhccpncgfiaa
open Go.RowKit
set_option maxRecDepth 100000 in
set_option maxHeartbeats 4000000 in
theorem wclean_any (base : Int) (A : Option Addr) (n c : Nat) (G : Option Addr) (m d : Nat) (cap en : Int) (bl : List Int) (gl : List Sp) (w : World) (hb : Sl w A n c bl) (hg : Ss w G m d gl) (h0 : 0 ≤ base) (h1 : base ≤ 2305843009213693952) (hc : chain (base - 1) gl = true) (hU : lastOf base gl = base + n) (hn : n ≤ 65536) (hm : m ≤ 1000) :
    Calls Try.prog 87 #[.agg #[.int .i64 base, .slice A n c, .slice G m d, .int .i64 cap, .int .i64 en]] w fun e w' => e = .returned (.bool (okW ⟨base, bl, gl, cap, en⟩)) ∧ Below w.heap.size w w' := by
  have hbl := hb.rd.len
  have hgl := hg.rd.len
  have e0 := Bx.new w 25 [.int .i64 base, .slice A n c, .slice G m d, .int .i64 cap, .int .i64 en]
  have hb0 : Below w.heap.size w (w.alloc (.cells #[.int .i64 base, .slice A n c, .slice G m d, .int .i64 cap, .int .i64 en] 25)) := (Below.refl _ _).alloc (Nat.le_refl _) _
  obtain ⟨B, hB⟩ : ∃ B, w.heap.size = B := ⟨_, rfl⟩
  rw [hB] at e0 hb0
  obtain ⟨w0, hw0⟩ : ∃ w0, w.alloc (.cells #[.int .i64 base, .slice A n c, .slice G m d, .int .i64 cap, .int .i64 en] 25) = w0 := ⟨_, rfl⟩
  have e1 : Bx w0 B 25 [.int .i64 base, .slice A n c, .slice G m d, .int .i64 cap, .int .i64 en] := by rw [← hw0]; exact e0
  have b1 : Below B w w0 := by rw [← hw0]; exact hb0
  clear e0 hb0
  have hbk : ∀ {w' : World}, Below B w w' → Sl w' A n c bl := fun h => hb.keep (by rw [hB]; exact h)
  have hgk : ∀ {w' : World}, Below B w w' → Ss w' G m d gl := fun h => hg.keep (by rw [hB]; exact h)
  have x0 := e1.cell 0 rfl
  have x2 := e1.cell 2 rfl
  have HC := Lib.hid hc; clear hc
  have HU := Lib.hid hU; clear hU
  have fin : ∀ {v : Bool}, v = okW ⟨base, bl, gl, cap, en⟩ → Ending.returned (.bool v) = .returned (.bool (okW ⟨base, bl, gl, cap, en⟩)) := fun h => by rw [h]
  go_enter Try.func87, Try.ntmps87
  rw [hB]
  go_wp2_with fail
  clear x0 x2
  go_loopw [3, 12] (fun g i wr => ∃ k : Nat, k ≤ m ∧ i = .int .i64 (k : Int) ∧ g = .int .i64 (lastOf base (gl.take k)) ∧ Cl gl bl base k ∧ Bx wr B 25 [.int .i64 base, .slice A n c, .slice G m d, .int .i64 cap, .int .i64 en] ∧ Below B w wr) (fun _ i _ => m - (intOf i).toNat)
  case atStart => exact ⟨0, Nat.zero_le _, rfl, rfl, cl_zero _ _ _, e1, b1⟩
  case round =>
    obtain ⟨k, hk, rfl, rfl, hcl, e5, b5⟩ := hrel
    have HCL := Lib.hid hcl; clear hcl
    have hge := last_base_ge HC.out k
    by_cases hlt : k < m
    · have hkl : k < gl.length := by omega
      obtain ⟨gb, go, hG', hgb, hgc⟩ := hg.rd.at_ (by omega)
      have c1 := (b5.cell (p := ⟨gb, go + k * 2, none⟩) (by rw [← hB]; exact hgb)).trans (hgc k hlt).1
      have c2 := (b5.cell (p := ⟨gb, go + k * 2 + 1, none⟩) (by rw [← hB]; exact hgb)).trans (hgc k hlt).2
      have hsp := (ch_split HC.out hkl).2
      have hlb := last_base base (gl.take k)
      have hle : lastOf base (gl.take k) ≤ (sp gl k).1 := by
        cases k with
        | zero => rw [List.take_zero, lastOf_nil]; have := hsp.1; rw [List.take_zero, lastOf_nil] at this; omega
        | succ k' =>
          rw [last_take (d := base) (by omega)]
          have := hsp.1
          rw [last_take (d := base - 1) (by omega)] at this; omega
      have hup : (sp gl k).2 ≤ base + n := by
        rw [← HU.out, show lastOf base gl = lastOf (base - 1) gl from last_any (fun e => by rw [e] at hkl; simp at hkl)]
        exact last_split HC.out hkl
      have hs2 := hsp.2.1
      have HLG := Lib.hid (show lastOf base (gl.take k) = lastOf base (gl.take k) from rfl)
      obtain ⟨g, hgd⟩ : ∃ g, lastOf base (gl.take k) = g := ⟨_, rfl⟩
      obtain ⟨p1, hp1⟩ : ∃ p1, (sp gl k).1 = p1 := ⟨_, rfl⟩
      obtain ⟨p2, hp2⟩ : ∃ p2, (sp gl k).2 = p2 := ⟨_, rfl⟩
      rw [hp1] at c1 hle hs2
      rw [hp2] at c2 hup hs2
      rw [hgd] at hge hle ⊢
      obtain ⟨hs3, hs4, hs5⟩ := hs2
      have HG := Lib.hid hgd; clear hgd
      have HP1 := Lib.hid hp1; clear hp1
      have HP2 := Lib.hid hp2; clear hp2
      clear hgc hsp HLG hlb
      obtain ⟨r, hr⟩ : ∃ r : Nat, p1 - g = (r : Int) := ⟨(p1 - g).toNat, by omega⟩
      obtain ⟨q, hq⟩ : ∃ q : Nat, g - base = (q : Int) := ⟨(g - base).toNat, by omega⟩
      obtain ⟨w6, hw6⟩ : ∃ w6, wr.alloc (.cells #[.int .i64 p1, .int .i64 p2] 60) = w6 := ⟨_, rfl⟩
      have e6 : Bx w6 B 25 [.int .i64 base, .slice A n c, .slice G m d, .int .i64 cap, .int .i64 en] := by rw [← hw6]; exact e5.alloc _
      have s6 : Boxed2 w6 wr.heap.size 60 (.int .i64 p1) (.int .i64 p2) := by rw [← hw6]; exact Boxed2.new wr _ _ _
      have b6 : Below B w w6 := by rw [← hw6]; exact b5.alloc (Nat.le_of_lt e5.lt) _
      have y1 := s6.fst
      have y2 := s6.snd
      subst hG'
      go_wp2_with fail
      go_loopw [20] (fun j wz => ∃ jn : Nat, jn ≤ r ∧ j = .int .i64 (jn : Int) ∧ (∀ t : Nat, t < jn → byt bl (q + t) = 0) ∧ w6 = wz) (fun j _ => r - (intOf j).toNat)
      case atStart => exact ⟨0, Nat.zero_le _, rfl, fun t ht => by omega, rfl⟩
      case round =>
        obtain ⟨jn, hj, rfl, hall, rfl⟩ := hrel
        have HA := Lib.hid hall; clear hall
        have z0 := e6.cell 0 rfl
        have z1 := e6.cell 1 rfl
        by_cases hjl : jn < r
        · obtain ⟨bb, bo, hA', hbb, hcb⟩ := hb.rd.at_ (by omega)
          obtain ⟨z, hz⟩ : ∃ z : Nat, (q : Int) + (jn : Int) = (z : Int) := ⟨q + jn, by omega⟩
          have hcell := (b6.cell (p := ⟨bb, bo + z, none⟩) (by rw [← hB]; exact hbb)).trans (hcb z (by omega))
          obtain ⟨x, hx⟩ : ∃ x, byt bl z = x := ⟨_, rfl⟩
          rw [hx] at hcell
          have HX := Lib.hid hx; clear hx
          have hzn : (z : Int) < (n : Int) := by omega
          subst hA'
          clear hcb
          by_cases hx0 : x = 0
          · have dx : (x != (0 : Int)) = false := by simpa using hx0
            have HX0 := Lib.hid hx0; clear hx0
            have HZ := Lib.hid hz
            go_wp2_with fail
            clear hz
            go_roundw
            case rel =>
              refine ⟨jn + 1, by omega, by go_num, fun t ht => ?_, (by first | rfl | trivial)⟩
              by_cases h : t < jn
              · exact HA.out t h
              · obtain rfl : t = jn := by omega
                rw [show q + t = z by have := HZ.out; omega]
                exact HX.out.trans HX0.out
            case measure => simp [intOf]; omega
          · have dx : (x != (0 : Int)) = true := by simpa using hx0
            have HX0 := Lib.hid hx0; clear hx0
            have hbad : false = okW ⟨base, bl, gl, cap, en⟩ := (cl_bad HC.out hkl (i := z) (by rw [HG.out]; omega) (by rw [HP1.out]; omega) (by omega) (by rw [HX.out]; exact HX0.out)).symm
            have HBAD := Lib.hid hbad; clear hbad
            go_wp2_with fail
            go_ret
            exact ⟨fin HBAD.out, b6⟩
        · have hnext : Cl gl bl base (k + 1) := cl_succ hkl HCL.out (fun i h2 h3 => by
            rw [HG.out] at h2
            rw [HP1.out] at h3
            have := HA.out (i - q) (by omega)
            rw [show q + (i - q) = i by omega] at this
            exact this)
          have HN := Lib.hid hnext; clear hnext
          go_wp2_with fail
          go_roundw
          case rel => exact ⟨k + 1, by omega, by go_num, by rw [last_take hkl, HP2.out], HN.out, e6, b6⟩
          case measure => simp [intOf]; omega
    · obtain rfl : m = k := by omega
      have hend : true = okW ⟨base, bl, gl, cap, en⟩ := (cl_end (cap := cap) (en := en) (by rw [hgl]; exact HCL.out) (by rw [hbl]; exact HU.out)).symm
      have HE := Lib.hid hend; clear hend
      go_wp2_with fail
      go_ret
      exact ⟨fin HE.out, b5⟩
end Go.Proofs.Ytggnhccpncgfiaa
