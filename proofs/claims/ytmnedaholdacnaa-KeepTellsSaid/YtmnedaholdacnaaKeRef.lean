/- The reference of package keep: May, End, Own, Shut as contracts of the calls. -/
import Derived.Test.YtmnedaholdacnaaProg
import Derived.Test.YtmnedaholdacnaaKeLaw
import Derived.WalkKit
import Derived.WalkSpells
import Derived.WalkSmall
import Derived.Lib.Hide
import Derived.Below
import Derived.Outline
namespace Go.Proofs.Ytmnedaholdacnaa
open Go.RowKit

set_option maxHeartbeats 1000000 in
theorem rmay_any (base : Int) (A : Option Addr) (n c : Nat) (cap : Int) (sh : Bool) (l : List Int) (w : World) (hl : l.length = n) (hn : n ≤ 140737488355328) :
    Calls Try.prog 20 #[.agg #[.int .i64 base, .slice A n c, .int .i64 cap, .bool sh]] w fun e w' => e = .returned (.bool (kmay ⟨base, l, cap, sh⟩)) ∧ Below w.heap.size w w' := by
  have hk : kmay ⟨base, l, cap, sh⟩ = (decide (0 ≤ base) && decide (base ≤ 2305843009213693952) && decide (base + n ≤ 2305843009213693952) && decide (0 ≤ cap) && decide (cap ≤ 65536) && decide ((n : Int) ≤ cap)) := by
    rw [Bool.eq_iff_iff, kmay_iff]; simp [hl]; omega
  rw [hk]
  clear hk
  have e0 := Boxed4.new w 24 (.int .i64 base) (.slice A n c) (.int .i64 cap) (.bool sh)
  have h0 := e0.c0
  have h1 := e0.c1
  have h2 := e0.c2
  have hb : Below w.heap.size w (w.alloc (.cells #[.int .i64 base, .slice A n c, .int .i64 cap, .bool sh] 24)) := (Below.refl _ _).alloc (Nat.le_refl _) _
  go_enter Try.func20, Try.ntmps20
  go_wp2
  all_goals go_ret
  all_goals refine ⟨ret_b ?_, hb⟩
  all_goals simp [*]
  all_goals omega

set_option maxHeartbeats 1000000 in
theorem rend_any (base : Int) (A : Option Addr) (n c : Nat) (cap : Int) (sh : Bool) (l : List Int) (w : World) (hl : l.length = n) (hn : n ≤ 140737488355328) :
    Calls Try.prog 22 #[.agg #[.int .i64 base, .slice A n c, .int .i64 cap, .bool sh]] w fun e w' => e = .returned (.int .i64 (kend ⟨base, l, cap, sh⟩)) ∧ Below w.heap.size w w' := by
  have e0 := Boxed4.new w 24 (.int .i64 base) (.slice A n c) (.int .i64 cap) (.bool sh)
  have h0 := e0.c0
  have h1 := e0.c1
  have h2 := e0.c2
  have h3 := e0.c3
  have hb : Below w.heap.size w (w.alloc (.cells #[.int .i64 base, .slice A n c, .int .i64 cap, .bool sh] 24)) := (Below.refl _ _).alloc (Nat.le_refl _) _
  have hm := rmay_any base A n c cap sh l (w.alloc (.cells #[.int .i64 base, .slice A n c, .int .i64 cap, .bool sh] 24)) hl hn
  cases hk : kmay ⟨base, l, cap, sh⟩ with
  | false =>
    rw [end_bad hk]
    rw [hk] at hm
    clear hk
    go_enter Try.func22, Try.ntmps22
    go_wp2_with (refine hm.mono ?_; rintro e w1 ⟨rfl, hb1⟩)
    go_ret
    exact ⟨rfl, hb.trans (hb1.mono hb.size)⟩
  | true =>
    rw [end_ok sh hk, hl]
    have hk' := kmay_iff.1 hk
    simp only [hl] at hk'
    obtain ⟨_, _, _, k0, k1⟩ := hk'
    rw [hk] at hm
    clear hk
    go_enter Try.func22, Try.ntmps22
    go_wp2_with (refine hm.mono ?_; rintro e w1 ⟨rfl, hb1⟩; have e1 := e0.kept hb1; have g0 := e1.c0; have g1 := e1.c1)
    go_ret
    exact ⟨rfl, hb.trans (hb1.mono hb.size)⟩

theorem Got.set {w : World} {base : Nat} {v : Value} {n : Nat} {l : List Int} (h : Got w base v n l) {p : Addr} (hp : p.block < base) (u : Value) : Got (w.setCell p u) base v n l := ⟨ownsRow_setCell_below h.own hp u, h.small⟩
theorem Got.mono {w : World} {base base' : Nat} {v : Value} {n : Nat} {l : List Int} (h : Got w base v n l) (hb : base' ≤ base) : Got w base' v n l := ⟨⟨h.own.1, by
  rcases h.own.2 with h1 | ⟨g, cap, cur, h1, hg, h2⟩
  · exact .inl h1
  · exact .inr ⟨g, cap, cur, h1, Nat.le_trans hb hg, h2⟩⟩, h.small⟩

set_option maxHeartbeats 1000000 in
theorem own_any (base : Int) (A : Option Addr) (n c : Nat) (cap : Int) (sh : Bool) (l : List Int) (w : World) (hs : Sl w A n c l) (hn : n ≤ 1000000) :
    Calls Try.prog 8 #[.agg #[.int .i64 base, .slice A n c, .int .i64 cap, .bool sh]] w fun e w' => ∃ R d, e = .returned (.agg #[.int .i64 base, .slice R n d, .int .i64 cap, .bool sh]) ∧ Got w' w.heap.size (.slice R n d) n l ∧ Below w.heap.size w w' := by
  obtain ⟨B, hB⟩ : ∃ B, w.heap.size = B := ⟨_, rfl⟩
  have e0 := ((Boxed4.new w 24 (.int .i64 base) (.slice A n c) (.int .i64 cap) (.bool sh)).alloc (.cells #[.int .i64 0, .slice none 0 0, .int .i64 0, .bool false] 24)).alloc (.cells #[.int .i64 base, .slice A n c, .int .i64 cap, .bool sh] 24)
  have r0 := (Boxed4.new (w.alloc (.cells #[.int .i64 base, .slice A n c, .int .i64 cap, .bool sh] 24)) 24 (.int .i64 0) (.slice none 0 0) (.int .i64 0) (.bool false)).alloc (.cells #[.int .i64 base, .slice A n c, .int .i64 cap, .bool sh] 24)
  have o0 := Boxed4.new ((w.alloc (.cells #[.int .i64 base, .slice A n c, .int .i64 cap, .bool sh] 24)).alloc (.cells #[.int .i64 0, .slice none 0 0, .int .i64 0, .bool false] 24)) 24 (.int .i64 base) (.slice A n c) (.int .i64 cap) (.bool sh)
  have hb : Below w.heap.size w (((w.alloc (.cells #[.int .i64 base, .slice A n c, .int .i64 cap, .bool sh] 24)).alloc (.cells #[.int .i64 0, .slice none 0 0, .int .i64 0, .bool false] 24)).alloc (.cells #[.int .i64 base, .slice A n c, .int .i64 cap, .bool sh] 24)) := (((Below.refl _ _).alloc (Nat.le_refl _) _).alloc (by simp) _).alloc (by simp; omega) _
  have i0 := (Boxed4.new w 24 (.int .i64 base) (.slice A n c) (.int .i64 cap) (.bool sh)).alloc (.cells #[.int .i64 0, .slice none 0 0, .int .i64 0, .bool false] 24)
  have hsz : ((w.alloc (.cells #[.int .i64 base, .slice A n c, .int .i64 cap, .bool sh] 24)).alloc (.cells #[.int .i64 0, .slice none 0 0, .int .i64 0, .bool false] 24)).heap.size = B + 1 + 1 := by simp [hB]
  rw [hB] at e0 hb i0
  rw [hsz] at o0
  rw [World.size_alloc, hB] at r0
  have j0 := i0.c0
  have j1 := i0.c1
  have j2 := i0.c2
  have j3 := i0.c3
  have x1 := e0.c1
  have y1 := o0.c1
  have yf := o0.free 1
  have hsk : ∀ {w' : World}, Below B w w' → Sl w' A n c l := fun h => hs.keep (by rw [hB]; exact h)
  go_enter Try.func8, Try.ntmps8
  rw [hB]
  obtain ⟨w0, hw0⟩ : ∃ w0, ((w.alloc (.cells #[.int .i64 base, .slice A n c, .int .i64 cap, .bool sh] 24)).alloc (.cells #[.int .i64 0, .slice none 0 0, .int .i64 0, .bool false] 24)).alloc (.cells #[.int .i64 base, .slice A n c, .int .i64 cap, .bool sh] 24) = w0 := ⟨_, rfl⟩
  rw [hw0] at e0 r0 o0 hb x1 y1 yf
  have r2 := r0.lt
  have o2 := o0.lt
  go_wp2_with (at_builtin; refine wpList_app _ rfl (.const (.slice none 0 0)) (.tmp 6) 22 rfl w0.heap.size 5 Try.underlying22 info_u8 _ 0 [] rfl (World.ownsRow_nil _ _ _ _) rfl hs.nil (hsk hb).rd (by omega) (Nat.le_refl _) ?_; intro v1 u1 hown1 hgrow1 hat1; simp only [Nat.zero_add, List.nil_append] at hown1; have hb1 := (Below.refl w0.heap.size w0).grown hgrow1 (Nat.le_refl _) (fun k hk => (by cases hk)); have gt : Got u1 w0.heap.size v1 n l := ⟨hown1, hs.rd.small⟩; obtain ⟨R, d, rfl, s5⟩ := gt.sl; have o1 := o0.kept hb1; have r1 := r0.kept hb1; have p1 := o1.c1; have pf := o1.free 1; have o3 := o1.set1 (.slice R n d); have q0 := o3.c0; have q1 := o3.c1; have q2 := o3.c2; have q3 := o3.c3; have r3 := r1.far (p := ⟨B + 1 + 1, 1, none⟩) (by simp) (.slice R n d); have t0 := r3.c0; have t1 := r3.c1; have t2 := r3.c2; have t3 := r3.c3; have tf0 := r3.free 0; have tf1 := r3.free 1; have tf2 := r3.free 2; have tf3 := r3.free 3)
  have rz := r3.set (.int .i64 base) (.slice R n d) (.int .i64 cap) (.bool sh)
  have y0 := rz.c0
  have y1 := rz.c1
  have y2 := rz.c2
  have y3 := rz.c3
  have b1 := hb.trans (hb1.mono (by omega))
  have b2 := ((((b1.setCell (p := ⟨B + 1 + 1, 1, none⟩) (by simp; omega) (.slice R n d)).setCell (p := ⟨B + 1, 0, none⟩) (by simp) (.int .i64 base)).setCell (p := ⟨B + 1, 1, none⟩) (by simp) (.slice R n d)).setCell (p := ⟨B + 1, 2, none⟩) (by simp) (.int .i64 cap)).setCell (p := ⟨B + 1, 3, none⟩) (by simp) (.bool sh)
  refine bodyPost_ret (v := .agg #[.int .i64 base, .slice R n d, .int .i64 cap, .bool sh]) (by simp [results, Try.results8, go_sem, y0, y1, y2, y3]) rfl ⟨R, d, rfl, ?_, b2⟩
  exact (((((gt.set (p := ⟨B + 1 + 1, 1, none⟩) o2 (.slice R n d)).set (p := ⟨B + 1, 0, none⟩) r2 (.int .i64 base)).set (p := ⟨B + 1, 1, none⟩) r2 (.slice R n d)).set (p := ⟨B + 1, 2, none⟩) r2 (.int .i64 cap)).set (p := ⟨B + 1, 3, none⟩) r2 (.bool sh)).mono (by omega)
end Go.Proofs.Ytmnedaholdacnaa
