/- The landed package wire: pairs as a contract of the call. -/
import Derived.Test.YtfglagkpknpgdaaProg
import Derived.Test.YtfglagkpknpgdaaWi2
import Derived.WalkKit
import Derived.WalkSpells
import Derived.WalkSmall
import Derived.Lib.Hide
import Derived.Below
import Derived.Outline
namespace Go.Proofs.Ytfglagkpknpgdaa
open Go.RowKit
set_option linter.unusedVariables false
set_option linter.unusedSimpArgs false

theorem info_pr : (Try.prog.info? 46).map (fun i => (i.zero, i.size, i.bytes)) = some (some (.agg #[.int .u32 0, .int .u32 0]), 2, 8) := by kernel_rfl
/-- a block of one pair of the call's own -/
theorem sr_one (w : World) {p q : Int} (hp : U32 p) (hq : U32 q) (t : TypeId) : Sr (w.alloc (.cells #[.int .u32 p, .int .u32 q] t)) (some ⟨w.heap.size, 0, none⟩) 1 1 [(p, q)] :=
  ⟨Nat.le_refl _, by unfold maxLen; omega, (fun e => by cases e), rfl, wideP_one hp hq, fun _ => ⟨w.heap.size, 0, rfl, by simp, fun i hi => by
    obtain rfl : i = 0 := by omega
    have h := Bx.new w t [.int .u32 p, .int .u32 q]
    exact ⟨h.cell 0 rfl, h.cell 1 rfl⟩⟩⟩
theorem Gotp.far {w w' : World} {base e : Nat} {v : Value} {n B : Nat} {l : List Pr} (h : Gotp w base e v n l) (hf : w.grownBy w' (some B)) (hB : B < base) : Gotp w' base e v n l :=
  ⟨h.row.kept hf (by
    rcases hv : v.ownBlock with _ | k
    · exact Or.inl rfl
    · right; intro hk; cases hk
      have := (h.row.lt B hv).1; omega), h.wide⟩
theorem Gotp.none (w : World) (base e : Nat) : Gotp w base e (.slice none 0 0) 0 [] := ⟨World.ownsRow_nil w base e 2, fun _ hx => by simp at hx⟩
/-- a slice of pairs of the call's own, at or beyond base -/
structure Sc (w : World) (base : Nat) (R : Option Addr) (m d : Nat) (l : List Pr) : Prop where
  sr : Sr w R m d l
  hi : ∀ b o, R = some ⟨b, o, none⟩ → base ≤ b
theorem Sc.grown {w w' : World} {base : Nat} {R : Option Addr} {m d : Nat} {l : List Pr} {r : Option Nat} (h : Sc w base R m d l) (hf : w.grownBy w' r) (hr : ∀ k, r = some k → k < base) : Sc w' base R m d l := by
  refine ⟨⟨h.sr.le, h.sr.max, h.sr.nil, h.sr.rd.len, h.sr.rd.wide, fun hn => ?_⟩, h.hi⟩
  obtain ⟨b, o, e, hl, hc⟩ := h.sr.rd.at_ hn
  have hb := h.hi b o e
  have hblk := hf.block b hl (fun hk => by have := hr b hk.symm; omega)
  exact ⟨b, o, e, Nat.lt_of_lt_of_le hl hf.size, fun i hi => ⟨(World.cell?_of_block (a := ⟨b, o + i * 2, none⟩) hblk).trans (hc i hi).1, (World.cell?_of_block (a := ⟨b, o + i * 2 + 1, none⟩) hblk).trans (hc i hi).2⟩⟩
theorem Sc.mono {w : World} {base base' : Nat} {R : Option Addr} {m d : Nat} {l : List Pr} (h : Sc w base R m d l) (hb : base' ≤ base) : Sc w base' R m d l := ⟨h.sr, fun b o e => Nat.le_trans hb (h.hi b o e)⟩
theorem Gotp.sc {w : World} {base e : Nat} {v : Value} {n : Nat} {l : List Pr} (h : Gotp w base e v n l) : ∃ A c, v = .slice A n c ∧ Sc w base A n c l := by
  obtain ⟨A, c, rfl, hs⟩ := h.ss
  exact ⟨A, c, rfl, hs, fun b o e => by subst e; exact (h.row.lt b rfl).1⟩

/-- how many pairs are told, and these -/
def cntP (l : List Int) : Nat := (byt l 0).toNat
def prsP (l : List Int) (k : Nat) : List Pr := (List.range k).map fun i => (nm l (1 + 8 * i) 4, nm l (5 + 8 * i) 4)
theorem prsP_snoc (l : List Int) (k : Nat) : prsP l (k + 1) = prsP l k ++ [(nm l (1 + 8 * k) 4, nm l (5 + 8 * k) 4)] := by
  unfold prsP; rw [List.range_succ, List.map_append]; rfl

set_option maxHeartbeats 2000000 in
theorem pairs_any (B bs n : Nat) (l : List Int) (w : World) (h : Rr w B bs n l) (hbs : bs ≤ w.heap.size) (hn : n ≤ 1000000) :
    Calls Try.prog 36 #[.pointer (some ⟨B, 0, none⟩)] w fun e w' => w.grownBy w' (some B) ∧ ((n < 1 + 8 * cntP l ∧ e = .panicked missC) ∨ (1 + 8 * cntP l ≤ n ∧ ∃ R m d, e = .returned (.slice R m d) ∧ Sc w' w.heap.size R m d (prsP l (cntP l)) ∧ Rr w' B bs (n - (1 + 8 * cntP l)) (l.drop (1 + 8 * cntP l)))) := by
  have hsm := h.small
  have hbd := byt_bd hsm 0
  have hlt0 := h.lt
  obtain ⟨base, hbase⟩ : ∃ base, w.heap.size = base := ⟨_, rfl⟩
  rw [hbase] at hlt0 hbs
  by_cases h1 : n < 1
  · have hc0 : 1 ≤ 1 + 8 * cntP l := by omega
    go_enter Try.func36, Try.ntmps36
    go_wp2_with fail
    refine (num_short B bs n 1 l _ h h1).mono ?_
    rintro e w1 ⟨rfl, rfl⟩
    go_wp2_with fail
    exact ⟨rfl, grown_refl _ _, Or.inl ⟨by omega, rfl⟩⟩
  obtain ⟨m, rfl⟩ : ∃ m, n = m + 1 := ⟨n - 1, by omega⟩
  obtain ⟨ct, hct⟩ : ∃ ct, cntP l = ct := ⟨_, rfl⟩
  have hctb : byt l 0 = (ct : Int) := by rw [← hct]; unfold cntP; omega
  have hct2 : ct < 256 := by omega
  rw [hct]
  have hnm1 : nm l 0 1 = (ct : Int) := by unfold nm nm; rw [Nat.zero_add, hctb]; omega
  have HS := Lib.hid hsm; clear hsm hbd hctb hct
  go_enter Try.func36, Try.ntmps36
  go_wp2_with fail
  refine (num_some B bs m 1 l _ h (by omega)).mono ?_
  rintro e w1 ⟨rfl, r1, g1⟩
  rw [hnm1]
  go_wp2_with fail
  clear hnm1
  go_loopw [3, 4, 7] (fun v x i wr => ∃ q : Nat, q ≤ ct ∧ 8 * q ≤ m ∧ i = .int .u32 (q : Int) ∧ Gotp wr base 46 v q (prsP l q) ∧ Rr wr B bs (m - 8 * q) (l.drop (1 + 8 * q)) ∧ w.grownBy wr (some B)) (fun _ _ i _ => ct - (intOf i).toNat)
  case atStart => exact ⟨0, Nat.zero_le _, by omega, rfl, Gotp.none _ _ _, r1, g1⟩
  case round =>
    clear r1 g1 w1
    obtain ⟨q, hq, hqm, rfl, gp, r1, g1⟩ := hrel
    have hszr : base ≤ wr.heap.size := by rw [← hbase]; exact g1.size
    by_cases hlt : q < ct
    · by_cases c1 : m - 8 * q < 4
      · go_wp2_with fail
        refine (num_short B bs (m - 8 * q) 4 _ _ r1 c1).mono ?_
        rintro e w2 ⟨rfl, rfl⟩
        go_wp2_with fail
        exact ⟨rfl, g1, Or.inl ⟨by omega, rfl⟩⟩
      obtain ⟨m2, hm2⟩ : ∃ m2, m - 8 * q = m2 + 4 := ⟨m - 8 * q - 4, by omega⟩
      rw [hm2] at r1
      have ex : nm (l.drop (1 + 8 * q)) 0 4 = nm l (1 + 8 * q) 4 := nm_drop _ _ _
      have hx := nm4_u HS.out (1 + 8 * q)
      obtain ⟨x, hxx⟩ : ∃ x, nm l (1 + 8 * q) 4 = x := ⟨_, rfl⟩
      rw [hxx] at ex hx
      go_wp2_with fail
      refine (num_some B bs m2 4 _ _ r1 (by omega)).mono ?_
      rintro e w2 ⟨rfl, r2, g2⟩
      rw [ex]
      rw [List.drop_drop, show 1 + 8 * q + 4 = 5 + 8 * q by omega] at r2
      have gp2 := gp.far g2 hlt0
      have g2' := g1.trans g2
      by_cases c2 : m2 < 4
      · go_wp2_with fail
        refine (num_short B bs m2 4 _ _ r2 c2).mono ?_
        rintro e w3 ⟨rfl, rfl⟩
        go_wp2_with fail
        exact ⟨rfl, g2', Or.inl ⟨by omega, rfl⟩⟩
      obtain ⟨m3, rfl⟩ : ∃ m3, m2 = m3 + 4 := ⟨m2 - 4, by omega⟩
      have ey : nm (l.drop (5 + 8 * q)) 0 4 = nm l (5 + 8 * q) 4 := nm_drop _ _ _
      have hy := nm4_u HS.out (5 + 8 * q)
      obtain ⟨y, hyy⟩ : ∃ y, nm l (5 + 8 * q) 4 = y := ⟨_, rfl⟩
      rw [hyy] at ey hy
      have hsn : prsP l (q + 1) = prsP l q ++ [(x, y)] := by rw [prsP_snoc, hxx, hyy]
      have HSN := Lib.hid hsn; clear hsn hxx hyy
      go_wp2_with fail
      refine (num_some B bs m3 4 _ _ r2 (by omega)).mono ?_
      rintro e w3 ⟨rfl, r3, g3⟩
      rw [ey]
      rw [List.drop_drop, show 5 + 8 * q + 4 = 1 + 8 * (q + 1) by omega] at r3
      have gp3 := gp2.far g3 hlt0
      have g3' := g2'.trans g3
      have hsz3 : base ≤ w3.heap.size := by rw [← hbase]; exact g3'.size
      have gp4 := gp3.keep (World.grownBy_alloc w3 (.cells #[.int .u32 x, .int .u32 y] 46) none)
      have s4 := sr_one w3 hx hy 46
      have hsz4 : base ≤ (w3.alloc (.cells #[.int .u32 x, .int .u32 y] 46)).heap.size := by simp; omega
      have r4 := r3.alloc (.cells #[.int .u32 x, .int .u32 y] 46)
      have g4 : w.grownBy (w3.alloc (.cells #[.int .u32 x, .int .u32 y] 46)) (some B) := g3'.trans (World.grownBy_alloc _ _ _)
      go_wp2_with (at_builtin; refine wpList_appp _ rfl (.tmp 11) (.tmp 16) 23 rfl base 46 Try.underlying23 info_pr _ q _ rfl gp4 rfl s4.nil s4.rd (by omega) hsz4 ?_; intro v5 w5 gp5 g5 at5)
      have r5 := r4.grown g5 (fun h => by have := (gp4.row.lt B h.symm).1; omega) (fun k hk => by have := (gp4.row.lt k hk).1; omega)
      have g5' : w.grownBy w5 (some B) := g4.andThen g5 (fun k hk => Or.inl (by have := (gp4.row.lt k hk).1; omega))
      go_roundw
      case rel => exact ⟨q + 1, by omega, by omega, by go_num, by rw [HSN.out]; exact gp5, by rw [show m - 8 * (q + 1) = m3 by omega]; exact r5, g5'⟩
      case measure => simp [intOf]; omega
    · obtain rfl : ct = q := by omega
      obtain ⟨R, d, rfl, hsr⟩ := gp.sc
      go_wp2
      go_ret
      exact ⟨g1, Or.inr ⟨by omega, R, _, d, rfl, by rw [hbase]; exact hsr, by rw [show m + 1 - (1 + 8 * ct) = m - 8 * ct by omega]; exact r1⟩⟩
end Go.Proofs.Ytfglagkpknpgdaa
