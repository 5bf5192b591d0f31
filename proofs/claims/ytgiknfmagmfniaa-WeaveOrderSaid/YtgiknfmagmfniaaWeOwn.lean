/- The reference of package weave: Own as contracts of the calls. -/
import Derived.Test.YtgiknfmagmfniaaProg
import Derived.Test.YtgiknfmagmfniaaWeRef2
import Derived.Test.YtgiknfmagmfniaaSpAddP
import Derived.WalkKit
import Derived.WalkSpells
import Derived.WalkSmall
import Derived.Lib.Hide
import Derived.Below
import Derived.Outline
namespace Go.Proofs.Ytgiknfmagmfniaa
open Go.RowKit
set_option linter.unusedSimpArgs false
set_option linter.unusedVariables false

theorem Got.set {w : World} {base : Nat} {v : Value} {n : Nat} {l : List Int} (h : Got w base v n l) {p : Addr} (hp : p.block < base) (u : Value) : Got (w.setCell p u) base v n l := ⟨ownsRow_setCell_below h.own hp u, h.small⟩
theorem Got.sb' {w : World} {base : Nat} {R : Option Addr} {n d : Nat} {l : List Int} (h : Got w base (.slice R n d) n l) : Sb w base R n d l := by
  obtain ⟨A, c, e, hs⟩ := h.sb
  cases e
  exact hs
theorem Got.mono {w : World} {base base' : Nat} {v : Value} {n : Nat} {l : List Int} (h : Got w base v n l) (hb : base' ≤ base) : Got w base' v n l := ⟨⟨h.own.1, by
  rcases h.own.2 with h1 | ⟨g, cap, cur, h1, hg, h2⟩
  · exact .inl h1
  · exact .inr ⟨g, cap, cur, h1, Nat.le_trans hb hg, h2⟩⟩, h.small⟩

set_option maxRecDepth 100000 in
set_option maxHeartbeats 4000000 in
theorem rwown_any (base : Int) (A : Option Addr) (n c : Nat) (G : Option Addr) (m d : Nat) (cap en : Int) (bl : List Int) (gl : List Sp) (w : World) (hb : Sl w A n c bl) (hg : Ss w G m d gl) (hn : n ≤ 1000000) (hm : m ≤ 1000000) :
    Calls Try.prog 10 #[.agg #[.int .i64 base, .slice A n c, .slice G m d, .int .i64 cap, .int .i64 en]] w fun e w' => ∃ R q H r, e = .returned (.agg #[.int .i64 base, .slice R n q, .slice H m r, .int .i64 cap, .int .i64 en]) ∧ Got w' w.heap.size (.slice R n q) n bl ∧ Sq w' w.heap.size H m r gl ∧ Below w.heap.size w w' := by
  obtain ⟨B, hB⟩ : ∃ B, w.heap.size = B := ⟨_, rfl⟩
  have e0 := ((Bx.new w 25 [.int .i64 base, .slice A n c, .slice G m d, .int .i64 cap, .int .i64 en]).alloc (.cells #[.int .i64 0, .slice none 0 0, .slice none 0 0, .int .i64 0, .int .i64 0] 25)).alloc (.cells #[.int .i64 base, .slice A n c, .slice G m d, .int .i64 cap, .int .i64 en] 25)
  have r0 := (Bx.new (w.alloc (.cells #[.int .i64 base, .slice A n c, .slice G m d, .int .i64 cap, .int .i64 en] 25)) 25 [.int .i64 0, .slice none 0 0, .slice none 0 0, .int .i64 0, .int .i64 0]).alloc (.cells #[.int .i64 base, .slice A n c, .slice G m d, .int .i64 cap, .int .i64 en] 25)
  have o0 := Bx.new ((w.alloc (.cells #[.int .i64 base, .slice A n c, .slice G m d, .int .i64 cap, .int .i64 en] 25)).alloc (.cells #[.int .i64 0, .slice none 0 0, .slice none 0 0, .int .i64 0, .int .i64 0] 25)) 25 [.int .i64 base, .slice A n c, .slice G m d, .int .i64 cap, .int .i64 en]
  have hb0 : Below w.heap.size w (((w.alloc (.cells #[.int .i64 base, .slice A n c, .slice G m d, .int .i64 cap, .int .i64 en] 25)).alloc (.cells #[.int .i64 0, .slice none 0 0, .slice none 0 0, .int .i64 0, .int .i64 0] 25)).alloc (.cells #[.int .i64 base, .slice A n c, .slice G m d, .int .i64 cap, .int .i64 en] 25)) := (((Below.refl _ _).alloc (Nat.le_refl _) _).alloc (by simp) _).alloc (by simp; omega) _
  have i0 := (Bx.new w 25 [.int .i64 base, .slice A n c, .slice G m d, .int .i64 cap, .int .i64 en]).alloc (.cells #[.int .i64 0, .slice none 0 0, .slice none 0 0, .int .i64 0, .int .i64 0] 25)
  have hsz : ((w.alloc (.cells #[.int .i64 base, .slice A n c, .slice G m d, .int .i64 cap, .int .i64 en] 25)).alloc (.cells #[.int .i64 0, .slice none 0 0, .slice none 0 0, .int .i64 0, .int .i64 0] 25)).heap.size = B + 1 + 1 := by simp [hB]
  rw [hB] at e0 hb0 i0
  rw [hsz] at o0
  rw [World.size_alloc, hB] at r0
  have j0 := i0.cell 0 rfl
  have j1 := i0.cell 1 rfl
  have j2 := i0.cell 2 rfl
  have j3 := i0.cell 3 rfl
  have j4 := i0.cell 4 rfl
  have hbk : ∀ {w' : World}, Below B w w' → Sl w' A n c bl := fun h => hb.keep (by rw [hB]; exact h)
  have hgk : ∀ {w' : World}, Below B w w' → Ss w' G m d gl := fun h => hg.keep (by rw [hB]; exact h)
  go_enter Try.func10, Try.ntmps10
  rw [hB]
  obtain ⟨w0, hw0⟩ : ∃ w0, ((w.alloc (.cells #[.int .i64 base, .slice A n c, .slice G m d, .int .i64 cap, .int .i64 en] 25)).alloc (.cells #[.int .i64 0, .slice none 0 0, .slice none 0 0, .int .i64 0, .int .i64 0] 25)).alloc (.cells #[.int .i64 base, .slice A n c, .slice G m d, .int .i64 cap, .int .i64 en] 25) = w0 := ⟨_, rfl⟩
  have e1 : Bx w0 B 25 [.int .i64 base, .slice A n c, .slice G m d, .int .i64 cap, .int .i64 en] := by rw [← hw0]; exact e0
  have r1 : Bx w0 (B + 1) 25 [.int .i64 0, .slice none 0 0, .slice none 0 0, .int .i64 0, .int .i64 0] := by rw [← hw0]; exact r0
  have o1 : Bx w0 (B + 1 + 1) 25 [.int .i64 base, .slice A n c, .slice G m d, .int .i64 cap, .int .i64 en] := by rw [← hw0]; exact o0
  have hb1 : Below B w w0 := by rw [← hw0]; exact hb0
  clear e0 r0 o0 hb0
  have x1 := e1.cell 1 rfl
  have r2 := r1.lt
  have o2 := o1.lt
  go_wp2_with (first
    | (at_builtin; refine wpList_app _ rfl (.const (.slice none 0 0)) (.tmp 6) 22 rfl w0.heap.size 5 Try.underlying22 info_u8 _ 0 [] rfl (World.ownsRow_nil _ _ _ _) rfl hb.nil (hbk hb1).rd (by omega) (Nat.le_refl _) ?_; intro v1 u1 hown1 hgrow1 hat1; simp only [Nat.zero_add, List.nil_append] at hown1; have hbu1 := (Below.refl w0.heap.size w0).grown hgrow1 (Nat.le_refl _) (fun k hk => (by cases hk)); have gt1 : Got u1 w0.heap.size v1 n bl := ⟨hown1, hb.rd.small⟩; obtain ⟨R, q, rfl, s5⟩ := gt1.sl; have o3 := o1.kept hbu1; have e3 := e1.kept hbu1; have r3 := r1.kept hbu1; have p1 := o3.cell 1 rfl; have pf := o3.free 1; have o4 := o3.set 1 (.slice R n q); have e4 := e3.far (p := ⟨B + 1 + 1, 1, none⟩) (by simp; omega) (.slice R n q); have r4 := r3.far (p := ⟨B + 1 + 1, 1, none⟩) (by simp) (.slice R n q); have gt2 := gt1.set (p := ⟨B + 1 + 1, 1, none⟩) o2 (.slice R n q); have y2 := e4.cell 2 rfl; have b4 := (hb1.trans (hbu1.mono (by omega))).setCell (p := ⟨B + 1 + 1, 1, none⟩) (by simp; omega) (.slice R n q); have hsz4 : w0.heap.size ≤ (u1.setCell ⟨B + 1 + 1, 1, none⟩ (.slice R n q)).heap.size := Nat.le_trans hbu1.size ((Below.refl 0 u1).setCell (Nat.zero_le _) _).size)
    | (at_builtin; refine wpList_apps _ rfl (.const (.slice none 0 0)) (.tmp 10) 23 rfl w0.heap.size 52 Try.underlying23 info_sp _ 0 [] rfl ⟨World.ownsRow_nil _ _ _ _, fun p hp => by simp at hp⟩ rfl hg.nil (hgk b4).rd (by omega) hsz4 ?_; intro v2 u2 hown2 hgrow2 hat2; simp only [Nat.zero_add, List.nil_append] at hown2; have hbu2 := (Below.refl _ (u1.setCell ⟨B + 1 + 1, 1, none⟩ (.slice R n q))).grown hgrow2 (Nat.le_refl _) (fun k hk => (by cases hk)); obtain ⟨H, r, rfl, sq5⟩ := hown2.sq; have o5 := o4.kept hbu2; have r5 := r4.kept hbu2; have p2 := o5.cell 2 rfl; have pf2 := o5.free 2; have o6 := o5.set 2 (.slice H m r); have r6 := r5.far (p := ⟨B + 1 + 1, 2, none⟩) (by simp) (.slice H m r); have z0 := o6.cell 0 rfl; have z1 := o6.cell 1 rfl; have z2 := o6.cell 2 rfl; have z3 := o6.cell 3 rfl; have z4 := o6.cell 4 rfl; have t0 := r6.cell 0 rfl; have t1 := r6.cell 1 rfl; have t2 := r6.cell 2 rfl; have t3 := r6.cell 3 rfl; have t4 := r6.cell 4 rfl; have tf0 := r6.free 0; have tf1 := r6.free 1; have tf2 := r6.free 2; have tf3 := r6.free 3; have tf4 := r6.free 4))
  have hgr : (u1.setCell ⟨B + 1 + 1, 1, none⟩ (.slice R n q)).grownBy u2 .none := hgrow2
  have gt3 : Got u2 w0.heap.size (.slice R n q) n bl := ⟨gt2.own.kept hgr (by rcases hv : (Value.slice R n q).ownBlock with _ | k <;> simp), gt2.small⟩
  have b5 := b4.trans (hbu2.mono (Nat.le_trans (by omega) hsz4))
  have OV := (((((r6.set 0 (.int .i64 base)).set 1 (.slice R n q)).set 2 (.slice H m r)).set 3 (.int .i64 cap)).set 4 (.int .i64 en))
  have y0 := OV.cell 0 rfl
  have y1 := OV.cell 1 rfl
  have y2 := OV.cell 2 rfl
  have y3 := OV.cell 3 rfl
  have y4 := OV.cell 4 rfl
  have bz := ((((((b5.setCell (p := ⟨B + 1 + 1, 2, none⟩) (by simp; omega) (.slice H m r)).setCell (p := ⟨B + 1, 0, none⟩) (by simp) (.int .i64 base)).setCell (p := ⟨B + 1, 1, none⟩) (by simp) (.slice R n q)).setCell (p := ⟨B + 1, 2, none⟩) (by simp) (.slice H m r)).setCell (p := ⟨B + 1, 3, none⟩) (by simp) (.int .i64 cap)).setCell (p := ⟨B + 1, 4, none⟩) (by simp) (.int .i64 en))
  refine bodyPost_ret (v := .agg #[.int .i64 base, .slice R n q, .slice H m r, .int .i64 cap, .int .i64 en]) (by simp [results, Try.results10, go_sem, y0, y1, y2, y3, y4]) rfl ⟨R, q, H, r, rfl, ?_, ?_, bz⟩
  · exact (((((((gt3.set (p := ⟨B + 1 + 1, 2, none⟩) o2 (.slice H m r)).set (p := ⟨B + 1, 0, none⟩) r2 (.int .i64 base)).set (p := ⟨B + 1, 1, none⟩) r2 (.slice R n q)).set (p := ⟨B + 1, 2, none⟩) r2 (.slice H m r)).set (p := ⟨B + 1, 3, none⟩) r2 (.int .i64 cap)).set (p := ⟨B + 1, 4, none⟩) r2 (.int .i64 en))).mono (by omega)
  · exact (((((((sq5.set (p := ⟨B + 1 + 1, 2, none⟩) o2 (.slice H m r)).set (p := ⟨B + 1, 0, none⟩) r2 (.int .i64 base)).set (p := ⟨B + 1, 1, none⟩) r2 (.slice R n q)).set (p := ⟨B + 1, 2, none⟩) r2 (.slice H m r)).set (p := ⟨B + 1, 3, none⟩) r2 (.int .i64 cap)).set (p := ⟨B + 1, 4, none⟩) r2 (.int .i64 en))).mono (by omega)
end Go.Proofs.Ytgiknfmagmfniaa
