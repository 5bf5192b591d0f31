/- Package weave: isPosition, edge, begin, end, slices.Clone, owned, New as contracts of the calls. -/
import Derived.Test.YtgiknfmagmfniaaProg
import Derived.Test.YtgiknfmagmfniaaWeRef6
import Derived.Test.YtgiknfmagmfniaaByClone
import Derived.Test.YtgiknfmagmfniaaSpCut
import Derived.Deep.QuietTactic
import Derived.BigQuiet
import Derived.WalkKit
import Derived.WalkSpells
import Derived.WalkSmall
import Derived.Lib.Hide
import Derived.Below
import Derived.Outline
namespace Go.Proofs.Ytgiknfmagmfniaa
open Go.RowKit
set_option linter.unusedSimpArgs false
set_option linter.unusedVariables false


def posB (p : Int) : Bool := decide (0 ≤ p) && decide (p ≤ 2305843009213693952)
theorem posB_iff {p : Int} : posB p = true ↔ 0 ≤ p ∧ p ≤ 2305843009213693952 := by unfold posB; simp
theorem posB_not {p : Int} : posB p = false ↔ ¬ (0 ≤ p ∧ p ≤ 2305843009213693952) := by rw [← posB_iff]; simp
theorem wpos_any (p : Int) (w : World) : Calls Try.prog 29 #[.int .i64 p] w fun e w' => e = .returned (.bool (posB p)) ∧ w = w' := by
  by_cases h1 : 0 ≤ p
  · have e1 : posB p = decide (p ≤ 2305843009213693952) := by unfold posB; rw [decide_eq_true h1]; rfl
    rw [e1]
    clear e1
    go_enter Try.func29, Try.ntmps29
    go_wp2
    go_ret
    exact ⟨rfl, rfl⟩
  · have e1 : posB p = false := by unfold posB; rw [decide_eq_false h1]; rfl
    rw [e1]
    clear e1
    go_enter Try.func29, Try.ntmps29
    go_wp2
    go_ret
    exact ⟨rfl, rfl⟩

set_option maxHeartbeats 1000000 in
theorem wedge_in (base : Int) (A : Option Addr) (n c : Nat) (G : Option Addr) (m d : Nat) (cap en : Int) (w : World) (h0 : 0 ≤ base) (h1 : base ≤ 2305843009213693952) (h2 : 0 ≤ cap) (h3 : cap ≤ 65536) :
    Calls Try.prog 30 #[.agg #[.int .i64 base, .slice A n c, .slice G m d, .int .i64 cap, .int .i64 en]] w fun e w' => e = .returned (.int .i64 (min (base + cap) 2305843009213693952)) ∧ Below w.heap.size w w' := by
  have e0 := Bx.new w 25 [.int .i64 base, .slice A n c, .slice G m d, .int .i64 cap, .int .i64 en]
  have x0 := e0.cell 0 rfl
  have x3 := e0.cell 3 rfl
  have hb : Below w.heap.size w (w.alloc (.cells #[.int .i64 base, .slice A n c, .slice G m d, .int .i64 cap, .int .i64 en] 25)) := (Below.refl _ _).alloc (Nat.le_refl _) _
  go_enter Try.func30, Try.ntmps30
  go_wp2
  all_goals (go_ret; exact ⟨ret_i (by omega), hb⟩)

def headOf (base : Int) : List Sp → Int
  | [] => base
  | p :: _ => p.1
theorem head_sp {base : Int} {l : List Sp} (h : 0 < l.length) : headOf base l = (sp l 0).1 := by
  cases l with
  | nil => simp at h
  | cons p t => rfl

set_option maxHeartbeats 1000000 in
theorem wend_any (base : Int) (A : Option Addr) (n c : Nat) (G : Option Addr) (m d : Nat) (cap en : Int) (gl : List Sp) (w : World) (hg : Ss w G m d gl) :
    Calls Try.prog 39 #[.agg #[.int .i64 base, .slice A n c, .slice G m d, .int .i64 cap, .int .i64 en]] w fun e w' => e = .returned (.int .i64 (lastOf base gl)) ∧ Below w.heap.size w w' := by
  have e0 := Bx.new w 25 [.int .i64 base, .slice A n c, .slice G m d, .int .i64 cap, .int .i64 en]
  have x0 := e0.cell 0 rfl
  have x2 := e0.cell 2 rfl
  have hb : Below w.heap.size w (w.alloc (.cells #[.int .i64 base, .slice A n c, .slice G m d, .int .i64 cap, .int .i64 en] 25)) := (Below.refl _ _).alloc (Nat.le_refl _) _
  have hl := hg.rd.len
  have hmx := hg.max
  have hle := hg.le
  unfold maxLen at hmx
  by_cases h0 : m = 0
  · subst h0
    obtain rfl : gl = [] := List.eq_nil_of_length_eq_zero hl
    rw [lastOf_nil]
    go_enter Try.func39, Try.ntmps39
    go_wp2
    go_ret
    exact ⟨rfl, hb⟩
  · rw [last_sp (by omega), hl]
    obtain ⟨k, rfl⟩ : ∃ k, m = k + 1 := ⟨m - 1, by omega⟩
    obtain ⟨b, o, rfl, hbl, hc⟩ := hg.rd.at_ (by omega)
    have h1 := (hb.cell (p := ⟨b, o + k * 2 + 1, none⟩) hbl).trans (hc k (by omega)).2
    obtain ⟨p, hp⟩ : ∃ p, sp gl k = p := ⟨_, rfl⟩
    rw [show k + 1 - 1 = k by omega, hp]
    rw [hp] at h1
    have i0 : (0 : Int) ≤ (k : Int) := by omega
    have n0 : ¬ (((k : Int) + 1) = 0) := by omega
    clear hc h0 hl
    go_enter Try.func39, Try.ntmps39
    go_wp2
    go_ret
    exact ⟨rfl, hb⟩

set_option maxHeartbeats 1000000 in
theorem wbegin_any (base : Int) (A : Option Addr) (n c : Nat) (G : Option Addr) (m d : Nat) (cap en : Int) (gl : List Sp) (w : World) (hg : Ss w G m d gl) :
    Calls Try.prog 46 #[.agg #[.int .i64 base, .slice A n c, .slice G m d, .int .i64 cap, .int .i64 en]] w fun e w' => e = .returned (.int .i64 (headOf base gl)) ∧ Below w.heap.size w w' := by
  have e0 := Bx.new w 25 [.int .i64 base, .slice A n c, .slice G m d, .int .i64 cap, .int .i64 en]
  have x0 := e0.cell 0 rfl
  have x2 := e0.cell 2 rfl
  have hb : Below w.heap.size w (w.alloc (.cells #[.int .i64 base, .slice A n c, .slice G m d, .int .i64 cap, .int .i64 en] 25)) := (Below.refl _ _).alloc (Nat.le_refl _) _
  have hl := hg.rd.len
  have hmx := hg.max
  have hle := hg.le
  unfold maxLen at hmx
  by_cases h0 : m = 0
  · subst h0
    obtain rfl : gl = [] := List.eq_nil_of_length_eq_zero hl
    rw [show headOf base [] = base from rfl]
    go_enter Try.func46, Try.ntmps46
    go_wp2
    go_ret
    exact ⟨rfl, hb⟩
  · rw [head_sp (by omega)]
    obtain ⟨k, rfl⟩ : ∃ k, m = k + 1 := ⟨m - 1, by omega⟩
    obtain ⟨b, o, rfl, hbl, hc⟩ := hg.rd.at_ (by omega)
    have h1 := (hb.cell (p := ⟨b, o + 0 * 2, none⟩) hbl).trans (hc 0 (by omega)).1
    obtain ⟨p, hp⟩ : ∃ p, sp gl 0 = p := ⟨_, rfl⟩
    rw [hp]; simp only [Nat.zero_mul, Nat.add_zero] at h1
    rw [hp] at h1
    have i0 : (0 : Int) ≤ (k : Int) := by omega
    have n0 : ¬ (((k : Int) + 1) = 0) := by omega
    clear hc h0 hl
    go_enter Try.func46, Try.ntmps46
    go_wp2
    go_ret
    exact ⟨rfl, hb⟩

set_option maxHeartbeats 1000000 in
theorem sclone_any (A : Option Addr) (n c : Nat) (l : List Sp) (w : World) (hr : Ss w A n c l) (hn : n ≤ 1000000) :
    Calls Try.prog 49 #[.slice A n c] w fun e w' => ∃ R d, e = .returned (.slice R n d) ∧ Sq w' w.heap.size R n d l ∧ Below w.heap.size w w' := by
  have qn := fun (w : World) (a : Option Addr) (n c n' c' : Nat) => Lib.run_eql_slice_nil (P := Try.prog) w _ _ a n c n' c' Try.underlying23
  cases A with
  | none =>
    have hc := hr.nil rfl
    have hle := hr.le
    obtain rfl : n = 0 := by omega
    have hz := hr.rd.len
    obtain rfl : l = [] := List.eq_nil_of_length_eq_zero hz
    clear hc hle hz
    go_enter Try.func49, Try.ntmps49
    go_wp2
    go_ret
    exact ⟨none, 0, rfl, Sq.none _ _, Below.refl _ _⟩
  | some a =>
    have hmade : (w.alloc (.cells #[] 52)).ownsRow w.heap.size 52 2 (.slice (some ⟨w.heap.size, 0, none⟩) 0 0) 0 (vals []) := World.ownsRow_made w #[] 0 (Nat.le_refl _) (Nat.zero_le _) rfl
    go_enter Try.func49, Try.ntmps49
    go_wp2_with (at_builtin; refine wpList_apps _ rfl (.tmp 5) (.tmp 6) 23 rfl w.heap.size 52 Try.underlying23 info_sp _ 0 [] rfl ⟨hmade, fun p hp => by simp at hp⟩ rfl hr.nil (hr.rd.alloc _) (by omega) (by simp) ?_; intro v1 w1 hown1 hgrow1 hat1)
    have b1 : Below w.heap.size w w1 := ((Below.refl _ _).alloc (Nat.le_refl _) _).grown hgrow1 (by simp) (fun k hk => (hmade.lt k hk).1)
    simp only [Nat.zero_add, List.nil_append] at hown1
    obtain ⟨R, d, rfl, hsl⟩ := hown1.sq
    go_wp2
    go_ret
    exact ⟨R, d, rfl, hsl, b1⟩

set_option maxRecDepth 100000 in
set_option maxHeartbeats 4000000 in
theorem wowned_any (base : Int) (A : Option Addr) (n c : Nat) (G : Option Addr) (m d : Nat) (cap en : Int) (bl : List Int) (gl : List Sp) (w : World) (hb : Sl w A n c bl) (hg : Ss w G m d gl) (hn : n ≤ 1000000) (hm : m ≤ 1000000) :
    Calls Try.prog 31 #[.agg #[.int .i64 base, .slice A n c, .slice G m d, .int .i64 cap, .int .i64 en]] w fun e w' => ∃ R q H r, e = .returned (.agg #[.int .i64 base, .slice R n q, .slice H m r, .int .i64 cap, .int .i64 en]) ∧ Sb w' w.heap.size R n q bl ∧ Sq w' w.heap.size H m r gl ∧ Below w.heap.size w w' := by
  obtain ⟨B, hB⟩ : ∃ B, w.heap.size = B := ⟨_, rfl⟩
  have e0 := (Bx.new w 25 [.int .i64 base, .slice A n c, .slice G m d, .int .i64 cap, .int .i64 en]).alloc (.cells #[.int .i64 0, .slice none 0 0, .slice none 0 0, .int .i64 0, .int .i64 0] 25)
  have r0 := Bx.new (w.alloc (.cells #[.int .i64 base, .slice A n c, .slice G m d, .int .i64 cap, .int .i64 en] 25)) 25 [.int .i64 0, .slice none 0 0, .slice none 0 0, .int .i64 0, .int .i64 0]
  have hb0 : Below w.heap.size w ((w.alloc (.cells #[.int .i64 base, .slice A n c, .slice G m d, .int .i64 cap, .int .i64 en] 25)).alloc (.cells #[.int .i64 0, .slice none 0 0, .slice none 0 0, .int .i64 0, .int .i64 0] 25)) := ((Below.refl _ _).alloc (Nat.le_refl _) _).alloc (by simp) _
  rw [hB] at e0 hb0
  rw [World.size_alloc, hB] at r0
  have hsz : ((w.alloc (.cells #[.int .i64 base, .slice A n c, .slice G m d, .int .i64 cap, .int .i64 en] 25)).alloc (.cells #[.int .i64 0, .slice none 0 0, .slice none 0 0, .int .i64 0, .int .i64 0] 25)).heap.size = B + 1 + 1 := by simp [hB]
  have hbk : ∀ {w' : World}, Below B w w' → Sl w' A n c bl := fun h => hb.keep (by rw [hB]; exact h)
  have hgk : ∀ {w' : World}, Below B w w' → Ss w' G m d gl := fun h => hg.keep (by rw [hB]; exact h)
  go_enter Try.func31, Try.ntmps31
  rw [hB]
  obtain ⟨w0, hw0⟩ : ∃ w0, ((w.alloc (.cells #[.int .i64 base, .slice A n c, .slice G m d, .int .i64 cap, .int .i64 en] 25)).alloc (.cells #[.int .i64 0, .slice none 0 0, .slice none 0 0, .int .i64 0, .int .i64 0] 25)) = w0 := ⟨_, rfl⟩
  have e1 : Bx w0 B 25 [.int .i64 base, .slice A n c, .slice G m d, .int .i64 cap, .int .i64 en] := by rw [← hw0]; exact e0
  have r1 : Bx w0 (B + 1) 25 [.int .i64 0, .slice none 0 0, .slice none 0 0, .int .i64 0, .int .i64 0] := by rw [← hw0]; exact r0
  have b1 : Below B w w0 := by rw [← hw0]; exact hb0
  have s1 : w0.heap.size = B + 1 + 1 := by rw [← hw0]; exact hsz
  clear e0 r0 hb0 hsz
  have x1 := e1.cell 1 rfl
  go_wp2_with fail
  refine (clone_any A n c bl _ (hbk b1) hn).mono ?_
  rintro e w2 ⟨R, q, rfl, sb, hb2⟩
  have e2 := e1.kept hb2
  have r2 := r1.kept hb2
  have b2 := b1.trans (hb2.mono (by omega))
  have xf := e2.free 1
  clear x1
  have x1 := e2.cell 1 rfl
  have e3 := e2.set 1 (.slice R n q)
  have r3 := r2.far (p := ⟨B, 1, none⟩) (by simp) (.slice R n q)
  have b3 := b2.setCell (p := ⟨B, 1, none⟩) (by simp) (.slice R n q)
  have sb3 := sb.set (p := ⟨B, 1, none⟩) (by simp; omega) (.slice R n q)
  have s3 : B + 1 + 1 ≤ (w2.setCell ⟨B, 1, none⟩ (.slice R n q)).heap.size := by have := r3.lt; omega
  have x2 := e3.cell 2 rfl
  go_wp2_with fail
  refine (sclone_any G m d gl _ (hgk b3) hm).mono ?_
  rintro e w4 ⟨H, r, rfl, sq, hb4⟩
  have e4 := e3.kept hb4
  have r4 := r3.kept hb4
  have b4 := b3.trans (hb4.mono (by omega))
  have sb4 := sb3.keep hb4
  have yf := e4.free 2
  clear x1 x2 xf
  have x2 := e4.cell 2 rfl
  have e5 := e4.set 2 (.slice H m r)
  have r5 := r4.far (p := ⟨B, 2, none⟩) (by simp) (.slice H m r)
  have b5 := b4.setCell (p := ⟨B, 2, none⟩) (by simp) (.slice H m r)
  have sb5 := sb4.set (p := ⟨B, 2, none⟩) (by simp; omega) (.slice H m r)
  have sq5 := (sq.mono s3).set (p := ⟨B, 2, none⟩) (by simp; try omega) (.slice H m r)
  have z0 := e5.cell 0 rfl
  have z1 := e5.cell 1 rfl
  have z2 := e5.cell 2 rfl
  have z3 := e5.cell 3 rfl
  have z4 := e5.cell 4 rfl
  have t0 := r5.cell 0 rfl
  have t1 := r5.cell 1 rfl
  have t2 := r5.cell 2 rfl
  have t3 := r5.cell 3 rfl
  have t4 := r5.cell 4 rfl
  have tf0 := r5.free 0
  have tf1 := r5.free 1
  have tf2 := r5.free 2
  have tf3 := r5.free 3
  have tf4 := r5.free 4
  go_wp2_with fail
  have OV := (((((r5.set 0 (.int .i64 base)).set 1 (.slice R n q)).set 2 (.slice H m r)).set 3 (.int .i64 cap)).set 4 (.int .i64 en))
  have y0 := OV.cell 0 rfl
  have y1 := OV.cell 1 rfl
  have y2 := OV.cell 2 rfl
  have y3 := OV.cell 3 rfl
  have y4 := OV.cell 4 rfl
  have bz := (((((b5.setCell (p := ⟨B + 1, 0, none⟩) (by simp) (.int .i64 base)).setCell (p := ⟨B + 1, 1, none⟩) (by simp) (.slice R n q)).setCell (p := ⟨B + 1, 2, none⟩) (by simp) (.slice H m r)).setCell (p := ⟨B + 1, 3, none⟩) (by simp) (.int .i64 cap)).setCell (p := ⟨B + 1, 4, none⟩) (by simp) (.int .i64 en))
  refine bodyPost_ret (v := .agg #[.int .i64 base, .slice R n q, .slice H m r, .int .i64 cap, .int .i64 en]) (by simp [results, Try.results31, go_sem, y0, y1, y2, y3, y4]) rfl ⟨R, q, H, r, rfl, ?_, ?_, bz⟩
  · exact (((((sb5.set (p := ⟨B + 1, 0, none⟩) (by simp; omega) (.int .i64 base)).set (p := ⟨B + 1, 1, none⟩) (by simp; omega) (.slice R n q)).set (p := ⟨B + 1, 2, none⟩) (by simp; omega) (.slice H m r)).set (p := ⟨B + 1, 3, none⟩) (by simp; omega) (.int .i64 cap)).set (p := ⟨B + 1, 4, none⟩) (by simp; omega) (.int .i64 en)).mono (by omega)
  · exact (((((sq5.set (p := ⟨B + 1, 0, none⟩) (by simp) (.int .i64 base)).set (p := ⟨B + 1, 1, none⟩) (by simp) (.slice R n q)).set (p := ⟨B + 1, 2, none⟩) (by simp) (.slice H m r)).set (p := ⟨B + 1, 3, none⟩) (by simp) (.int .i64 cap)).set (p := ⟨B + 1, 4, none⟩) (by simp) (.int .i64 en)).mono (by omega)

set_option maxHeartbeats 1000000 in
theorem wnew_any (room : Int) (w : World) :
    Calls Try.prog 19 #[.int .i64 room] w fun e w' => TellW w w' e (newR room) := by
  unfold TellW
  have e0 := Bx.new w 25 [.int .i64 0, .slice none 0 0, .slice none 0 0, .int .i64 0, .int .i64 0]
  by_cases h0 : 0 ≤ room
  · by_cases h1 : room ≤ 65536
    · have hx : newR room = (⟨0, [], [], room, -1⟩, 0) := by unfold newR; rw [if_pos ⟨h0, h1⟩]
      rw [hx]
      have x0 := e0.cell 0 rfl
      have x1 := e0.cell 1 rfl
      have x2 := e0.cell 2 rfl
      have x3 := e0.cell 3 rfl
      have x4 := e0.cell 4 rfl
      have xf0 := e0.free 0
      have xf1 := e0.free 1
      have xf2 := e0.free 2
      have xf3 := e0.free 3
      have xf4 := e0.free 4
      have OV := Bx.new w 25 [.int .i64 0, .slice none 0 0, .slice none 0 0, .int .i64 room, .int .i64 (-1)]
      have y0 := OV.cell 0 rfl
      have y1 := OV.cell 1 rfl
      have y2 := OV.cell 2 rfl
      have y3 := OV.cell 3 rfl
      have y4 := OV.cell 4 rfl
      have bz : Below w.heap.size w (w.alloc (.cells #[.int .i64 0, .slice none 0 0, .slice none 0 0, .int .i64 room, .int .i64 (-1)] 25)) := (Below.refl _ _).alloc (Nat.le_refl _) _
      go_enter Try.func19, Try.ntmps19
      go_wp2
      exact bodyPost_ret (v := .tuple #[.agg #[.int .i64 0, .slice none 0 0, .slice none 0 0, .int .i64 room, .int .i64 (-1)], .int .i64 0]) (by simp [results, Try.results19, go_sem, y0, y1, y2, y3, y4]) rfl ⟨none, 0, 0, none, 0, 0, rfl, Sb.none _ _, Sq.none _ _, bz⟩
    · have hx : newR room = (⟨0, [], [], 0, 0⟩, 1) := by unfold newR; rw [if_neg (fun h => h1 h.2)]; rfl
      rw [hx]
      have h1' : 65536 < room := by omega
      have x0 := e0.cell 0 rfl
      have x1 := e0.cell 1 rfl
      have x2 := e0.cell 2 rfl
      have x3 := e0.cell 3 rfl
      have x4 := e0.cell 4 rfl
      have xf0 := e0.free 0
      have xf1 := e0.free 1
      have xf2 := e0.free 2
      have xf3 := e0.free 3
      have xf4 := e0.free 4
      have OV := Bx.new w 25 [.int .i64 0, .slice none 0 0, .slice none 0 0, .int .i64 0, .int .i64 0]
      have y0 := OV.cell 0 rfl
      have y1 := OV.cell 1 rfl
      have y2 := OV.cell 2 rfl
      have y3 := OV.cell 3 rfl
      have y4 := OV.cell 4 rfl
      have bz : Below w.heap.size w (w.alloc (.cells #[.int .i64 0, .slice none 0 0, .slice none 0 0, .int .i64 0, .int .i64 0] 25)) := (Below.refl _ _).alloc (Nat.le_refl _) _
      go_enter Try.func19, Try.ntmps19
      go_wp2
      exact bodyPost_ret (v := .tuple #[.agg #[.int .i64 0, .slice none 0 0, .slice none 0 0, .int .i64 0, .int .i64 0], .int .i64 1]) (by simp [results, Try.results19, go_sem, y0, y1, y2, y3, y4]) rfl ⟨none, 0, 0, none, 0, 0, rfl, Sb.none _ _, Sq.none _ _, bz⟩
  · have hx : newR room = (⟨0, [], [], 0, 0⟩, 1) := by unfold newR; rw [if_neg (fun h => h0 h.1)]; rfl
    rw [hx]
    have h0' : room < 0 := by omega
    have x0 := e0.cell 0 rfl
    have x1 := e0.cell 1 rfl
    have x2 := e0.cell 2 rfl
    have x3 := e0.cell 3 rfl
    have x4 := e0.cell 4 rfl
    have xf0 := e0.free 0
    have xf1 := e0.free 1
    have xf2 := e0.free 2
    have xf3 := e0.free 3
    have xf4 := e0.free 4
    have OV := Bx.new w 25 [.int .i64 0, .slice none 0 0, .slice none 0 0, .int .i64 0, .int .i64 0]
    have y0 := OV.cell 0 rfl
    have y1 := OV.cell 1 rfl
    have y2 := OV.cell 2 rfl
    have y3 := OV.cell 3 rfl
    have y4 := OV.cell 4 rfl
    have bz : Below w.heap.size w (w.alloc (.cells #[.int .i64 0, .slice none 0 0, .slice none 0 0, .int .i64 0, .int .i64 0] 25)) := (Below.refl _ _).alloc (Nat.le_refl _) _
    go_enter Try.func19, Try.ntmps19
    go_wp2
    exact bodyPost_ret (v := .tuple #[.agg #[.int .i64 0, .slice none 0 0, .slice none 0 0, .int .i64 0, .int .i64 0], .int .i64 1]) (by simp [results, Try.results19, go_sem, y0, y1, y2, y3, y4]) rfl ⟨none, 0, 0, none, 0, 0, rfl, Sb.none _ _, Sq.none _ _, bz⟩
end Go.Proofs.Ytgiknfmagmfniaa
