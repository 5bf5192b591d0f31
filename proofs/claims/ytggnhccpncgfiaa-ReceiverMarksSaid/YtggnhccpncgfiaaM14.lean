/- The texts RcL6, RcL7, RcMath. -/
import Derived.Below
import Derived.BigQuiet
import Derived.Deep.AppendLies
import Derived.Deep.DeepCutAuto
import Derived.Deep.QuietTactic
import Derived.IntWalk
import Derived.Laws.OwnMore
import Derived.Laws.Rows
import Derived.Laws.Tables
import Derived.Lib.Hide
import Derived.OrdersHeld
import Derived.Outline
import Derived.RegionTactic
import Derived.Test.YtggnhccpncgfiaaProg
import Derived.WalkKit
import Derived.WalkSmall
import Derived.WalkSpells
import Derived.Test.YtggnhccpncgfiaaM02
import Derived.Test.YtggnhccpncgfiaaM13
set_option linter.all false
namespace Go.Proofs.Ytggnhccpncgfiaa
open Go.RowKit
theorem u32_l32 (n : Int) : U32 (l32 n) := by unfold U32 l32; omega
theorem sack_len (l : List Sp) (g : Int) : (sacksR l g).length ≤ 3 := by unfold sacksR sackL; rw [List.length_map, List.length_take]; omega
theorem sack_no {l : List Sp} {g : Int} {k : Nat} (hk : k < l.length) (h : ¬ g < (sp l k).1) : sacksR (l.take (k + 1)) g = sacksR (l.take k) g := by
  unfold sacksR sackL
  rw [take_sp hk, List.filter_append, List.filter_cons_of_neg (by simpa using h), List.filter_nil, List.append_nil]
theorem sack_full {l : List Sp} {g : Int} {k : Nat} (hk : k < l.length) (h : ¬ (sacksR (l.take k) g).length < 3) : sacksR (l.take (k + 1)) g = sacksR (l.take k) g := by
  have h3 : 3 ≤ ((l.take k).filter fun s => decide (g < s.1)).length := by
    unfold sacksR sackL at h; rw [List.length_map, List.length_take] at h; omega
  unfold sacksR sackL
  rw [take_sp hk, List.filter_append, List.take_append_of_le_length h3]
theorem sack_yes {l : List Sp} {g : Int} {k : Nat} (hk : k < l.length) (h1 : g < (sp l k).1) (h : (sacksR (l.take k) g).length < 3) : sacksR (l.take (k + 1)) g = sacksR (l.take k) g ++ [(l32 (sp l k).1, l32 (sp l k).2)] := by
  have h3 : ((l.take k).filter fun s => decide (g < s.1)).length < 3 := by
    unfold sacksR sackL at h; rw [List.length_map, List.length_take] at h; omega
  unfold sacksR sackL
  rw [take_sp hk, List.filter_append, List.filter_cons_of_pos (by simpa using h1), List.filter_nil, List.take_of_length_le (by simp; omega), List.take_of_length_le (l := (l.take k).filter fun s => decide (g < s.1)) (by omega), List.map_append]
  rfl
/-- a row of the call's own beyond the base has grown -/
theorem gb_row {w w1 w2 : World} {X base : Nat} {r : Option Nat} (h : w.grownBy w1 (some X)) (k : w1.grownBy w2 r) (hr : ∀ b, r = some b → base ≤ b) (hb : w.heap.size = base) : w.grownBy w2 (some X) :=
  ⟨k.os.trans h.os, k.tape.trans h.tape, k.output.trans h.output, Nat.le_trans h.size k.size, fun i hi hne => (k.block i (Nat.lt_of_lt_of_le hi h.size) (fun e => by have := hr i e.symm; omega)).trans (h.block i hi hne)⟩
set_option maxRecDepth 100000 in
set_option maxHeartbeats 32000000 in
theorem rlarr_any (X P Q : Nat) (A : Option Addr) (n c : Nat) (x : Sg) (fs : Int) (SA : Option Addr) (sn sc : Nat) (l : List Sp) (w : World) (hX : Bx w X 36 (sgs none 0 0 A n c x)) (hP : Bx w P 3 [.int .i64 fs]) (hQ : Bx w Q 23 [.slice SA sn sc]) (hPX : P ≠ X) (hQX : Q ≠ X) (hs : Ss w SA sn sc l) (hsX : InP (fun b => b ≠ X) SA sn) :
    Calls Try.prog 94 #[.pointer (some ⟨X, 0, none⟩), .pointer (some ⟨P, 0, none⟩), .pointer (some ⟨Q, 0, none⟩)] w fun e w' => e = .returned (.tuple #[]) ∧ ∃ G m d, Bx w' X 36 (sgs G m d A n c (⟨x.kind, x.sub, x.fin, x.ecn, x.seq, x.dsn, l32 fs, x.dgot, x.win, x.ace, x.ce, x.sent, x.echo, x.sacks, x.b⟩ : Sg)) ∧ Sr w' G m d (sacksR l fs) ∧ InP (NewB w) G m ∧ w.grownBy w' (some X) := by
  obtain ⟨base, hbase⟩ : ∃ B, w.heap.size = B := ⟨_, rfl⟩
  have HBW := Lib.hid hbase
  have hXB : X < base := by rw [← hbase]; exact hX.lt
  have HXB := Lib.hid hXB
  clear hbase hXB
  go_enter Try.func94, Try.ntmps94
  have cp := hP.cell 0 rfl
  have c6 := hX.cell 6 rfl
  have f6 := hX.free 6
  go_wp2_with fail
  refine (low_any fs w).mono ?_
  rintro e w1 ⟨rfl, rfl⟩
  go_upto_region 1 with fail
  clear cp c6 f6
  have x1 : Bx (w.setCell ⟨X, 6, none⟩ (.int .u32 (fs % 4294967296))) X 36 (sgs none 0 0 A n c (⟨x.kind, x.sub, x.fin, x.ecn, x.seq, x.dsn, l32 fs, x.dgot, x.win, x.ace, x.ce, x.sent, x.echo, x.sacks, x.b⟩ : Sg)) := hX.set 6 (.int .u32 (fs % 4294967296))
  have r1 := gb_set w X 6 (.int .u32 (fs % 4294967296))
  generalize w.setCell ⟨X, 6, none⟩ (.int .u32 (fs % 4294967296)) = w1 at x1 r1 ⊢
  have q1 := (hQ.grown r1 (fun e => hQX (Option.some.inj e))).cell 0 rfl
  have z1 : base ≤ w1.heap.size := by rw [← HBW.out]; exact r1.size
  have HLEN := Lib.hid hs.rd.len
  go_wp2_with fail
  clear q1
  go_loopw [13] (fun i wr => ∃ k : Nat, k ≤ sn ∧ i = .int .i64 (k : Int) ∧ ∃ G m d, Bx wr X 36 (sgs G m d A n c (⟨x.kind, x.sub, x.fin, x.ecn, x.seq, x.dsn, l32 fs, x.dgot, x.win, x.ace, x.ce, x.sent, x.echo, x.sacks, x.b⟩ : Sg)) ∧ Gotp wr base 81 (.slice G m d) m (sacksR (l.take k) fs) ∧ w.grownBy wr (some X) ∧ base ≤ wr.heap.size) (fun i _ => sn - (intOf i).toNat)
  case atStart => exact ⟨0, Nat.zero_le _, rfl, none, 0, 0, x1, Gotp.none _ _ _, r1, z1⟩
  case round =>
    obtain ⟨k, hk, rfl, G, m, d, e1, gp1, r2, z2⟩ := hrel
    clear x1 r1 z1
    have hs1 := ssp_grown hs hsX r2 (fun b hb e => hb (Option.some.inj e).symm)
    have HM3 := Lib.hid (show m ≤ 3 by have := gp1.len; have := sack_len (l.take k) fs; omega)
    by_cases hlt : k < sn
    · have dlt : decide (k < sn) = true := decide_eq_true hlt
      have dlt' : decide ((k : Int) < (sn : Int)) = true := decide_eq_true (by omega)
      have m3 : sn ≤ 9223372036854775807 := by have := hs1.le; have := hs1.max; unfold maxLen at this; omega
      obtain ⟨bb, o, hA, hbl, hc0⟩ := hs1.rd.at_ (by omega)
      obtain ⟨c1, c2⟩ := hc0 k hlt
      obtain ⟨p1, hp1⟩ : ∃ p, (sp l k).1 = p := ⟨_, rfl⟩
      obtain ⟨p2, hp2⟩ : ∃ p, (sp l k).2 = p := ⟨_, rfl⟩
      rw [hp1] at c1
      rw [hp2] at c2
      have HP1 := Lib.hid hp1; have HP2 := Lib.hid hp2
      have hkl : k < l.length := by have := HLEN.out; omega
      have HKL := Lib.hid hkl
      clear hc0 hbl hp1 hp2 hkl hs1
      have e6 := e1.alloc (.cells #[.int .i64 p1, .int .i64 p2] 60)
      have s6 := Bx.new wr 60 [.int .i64 p1, .int .i64 p2]
      have gp6 := gp1.keep (World.grownBy_alloc wr (.cells #[.int .i64 p1, .int .i64 p2] 60) none)
      have r6 := gb_trans r2 (gb_below (some X) ((Below.refl wr.heap.size wr).alloc (Nat.le_refl _) (.cells #[.int .i64 p1, .int .i64 p2] 60)))
      have z6 : base ≤ (wr.alloc (.cells #[.int .i64 p1, .int .i64 p2] 60)).heap.size := by simp; omega
      have pp6 := hP.grown r6 (fun e => hPX (Option.some.inj e))
      obtain ⟨T, hT⟩ : ∃ T, wr.heap.size = T := ⟨_, rfl⟩
      have hTX : T ≠ X := by have := HXB.out; omega
      have HTB := Lib.hid (show ∀ k, (Value.slice G m d).ownBlock = some k → k < T from fun k hk => by rw [← hT]; exact (gp1.row.lt k hk).2)
      subst hA
      go_upto_region 4 with fail
      clear c1 c2
      rw [hT] at s6
      try rw [hT]
      generalize wr.alloc (.cells #[.int .i64 p1, .int .i64 p2] 60) = w6 at e6 s6 gp6 r6 z6 pp6 ⊢
      clear hT e1 gp1 r2 z2 dlt dlt'
      have y0 := s6.cell 0 rfl
      have y1 := pp6.cell 0 rfl
      have y2 := e6.cell 13 rfl
      by_cases hgt : fs < p1
      · have dg : decide (fs < p1) = true := decide_eq_true hgt
        by_cases hm3 : m < 3
        · have dm : decide ((m : Int) < 3) = true := decide_eq_true (by omega)
          have hsn : sacksR (l.take (k + 1)) fs = (sacksR (l.take k) fs) ++ [(l32 p1, l32 p2)] := by
            rw [sack_yes HKL.out (by rw [HP1.out]; exact hgt) (by rw [gp6.len]; exact hm3), HP1.out, HP2.out]
          have HSN := Lib.hid hsn
          clear hsn
          go_upto_region 5 with fail
          clear y0 y1 y2 dg dm hgt hm3 pp6
          have HG := Lib.hid (show Gotp w6.drew base 81 (.slice G m d) m (sacksR (l.take k) fs) from gp6.keep (gb_drew (gb_refl w6 none)))
          clear gp6
          refine wp_region_V [16] 17 (fun (W : World) => Bx W X 36 (sgs G m d A n c (⟨x.kind, x.sub, x.fin, x.ecn, x.seq, x.dsn, l32 fs, x.dgot, x.win, x.ace, x.ce, x.sent, x.echo, x.sacks, x.b⟩ : Sg)) ∧ Bx W T 60 [.int .i64 p1, .int .i64 p2] ∧ w.grownBy W (some X) ∧ base ≤ W.heap.size) (by kernel_rfl) (by rfl) ?_
          have HS : ((fun (W : World) => Bx W X 36 (sgs G m d A n c (⟨x.kind, x.sub, x.fin, x.ecn, x.seq, x.dsn, l32 fs, x.dgot, x.win, x.ace, x.ce, x.sent, x.echo, x.sacks, x.b⟩ : Sg)) ∧ Bx W T 60 [.int .i64 p1, .int .i64 p2] ∧ w.grownBy W (some X) ∧ base ≤ W.heap.size)) _ := ⟨e6.drew, s6.drew, gb_drew r6, z6⟩
          generalize w6.drew = w7 at HS HG ⊢
          refine wpAnyV_takeU (i := 0) (v := .pointer (some ⟨X, 0, none⟩)) rfl (by kernel_rfl) (fun _ _ _ h => h) (Or.inl ⟨by rfl, fun w _ => ?_⟩) HS ?_
          · clear HS; go_simp
          try simp only [Act.put, List.setIfInBounds_toArray, List.set_cons_zero, List.set_cons_succ]
          refine wpAnyV_takeU (i := 1) (v := .pointer (some ⟨X, 0, none⟩)) rfl (by kernel_rfl) (fun _ _ _ h => h) (Or.inl ⟨by rfl, fun w _ => ?_⟩) HS ?_
          · clear HS; go_simp
          try simp only [Act.put, List.setIfInBounds_toArray, List.set_cons_zero, List.set_cons_succ]
          refine wpAnyV_takeU (i := 2) (v := .pointer (some ⟨X, 0, none⟩)) rfl (by kernel_rfl) (fun _ _ _ h => h) (Or.inl ⟨by rfl, fun w _ => ?_⟩) HS ?_
          · clear HS; go_simp
          try simp only [Act.put, List.setIfInBounds_toArray, List.set_cons_zero, List.set_cons_succ]
          refine wpAnyV_takeU (i := 3) (v := .pointer (some ⟨X, 13, none⟩)) rfl (by kernel_rfl) (fun _ _ _ h => h) (Or.inl ⟨by rfl, fun w _ => ?_⟩) HS ?_
          · clear HS; go_simp
          try simp only [Act.put, List.setIfInBounds_toArray, List.set_cons_zero, List.set_cons_succ]
          refine wpAnyV_take (i := 4) (v := .slice G m d) rfl (by kernel_rfl) (fun _ _ _ h => h) (Or.inl ⟨by rfl, fun w hSw => ?_⟩) HS ?_
          · have cc := Bx.cell (hSw.1) 13 (v := .slice G m d) rfl
            clear hSw HS
            go_simp
          try simp only [Act.put, List.setIfInBounds_toArray, List.set_cons_zero, List.set_cons_succ]
          refine wpAnyV_takeU (i := 5) (v := .pointer (some ⟨T, 0, none⟩)) rfl (by kernel_rfl) (fun _ _ _ h => h) (Or.inl ⟨by rfl, fun w _ => ?_⟩) HS ?_
          · clear HS; go_simp
          try simp only [Act.put, List.setIfInBounds_toArray, List.set_cons_zero, List.set_cons_succ]
          refine wpAnyV_take (i := 6) (v := .int .i64 p1) rfl (by kernel_rfl) (fun _ _ _ h => h) (Or.inl ⟨by rfl, fun w hSw => ?_⟩) HS ?_
          · have cc := Bx.cell (hSw.2.1) 0 (v := .int .i64 p1) rfl
            clear hSw HS
            go_simp
          try simp only [Act.put, List.setIfInBounds_toArray, List.set_cons_zero, List.set_cons_succ]
          refine wpAnyV_takeU (i := 8) (v := .pointer (some ⟨T, 1, none⟩)) rfl (by kernel_rfl) (fun _ _ _ h => h) (Or.inl ⟨by rfl, fun w _ => ?_⟩) HS ?_
          · clear HS; go_simp
          try simp only [Act.put, List.setIfInBounds_toArray, List.set_cons_zero, List.set_cons_succ]
          refine wpAnyV_take (i := 9) (v := .int .i64 p2) rfl (by kernel_rfl) (fun _ _ _ h => h) (Or.inl ⟨by rfl, fun w hSw => ?_⟩) HS ?_
          · have cc := Bx.cell (hSw.2.1) 1 (v := .int .i64 p2) rfl
            clear hSw HS
            go_simp
          try simp only [Act.put, List.setIfInBounds_toArray, List.set_cons_zero, List.set_cons_succ]
          refine wpAnyV_one (k := 7) rfl (by kernel_rfl) (fun K hK => ?_)
          go_simp
          refine (low_any p1 _).mono ?_
          rintro e w9 ⟨rfl, rfl⟩
          have HS : ((fun (W : World) => Bx W X 36 (sgs G m d A n c (⟨x.kind, x.sub, x.fin, x.ecn, x.seq, x.dsn, l32 fs, x.dgot, x.win, x.ace, x.ce, x.sent, x.echo, x.sacks, x.b⟩ : Sg)) ∧ Bx W T 60 [.int .i64 p1, .int .i64 p2] ∧ w.grownBy W (some X) ∧ base ≤ W.heap.size)) _ := HS
          refine hK _ _ HS ?_
          clear hK K
          try simp only [Act.put, List.setIfInBounds_toArray, List.set_cons_zero, List.set_cons_succ]
          refine wpAnyV_one (k := 10) rfl (by kernel_rfl) (fun K hK => ?_)
          go_simp
          refine (low_any p2 _).mono ?_
          rintro e w9 ⟨rfl, rfl⟩
          have HS : ((fun (W : World) => Bx W X 36 (sgs G m d A n c (⟨x.kind, x.sub, x.fin, x.ecn, x.seq, x.dsn, l32 fs, x.dgot, x.win, x.ace, x.ce, x.sent, x.echo, x.sacks, x.b⟩ : Sg)) ∧ Bx W T 60 [.int .i64 p1, .int .i64 p2] ∧ w.grownBy W (some X) ∧ base ≤ W.heap.size)) _ := HS
          refine hK _ _ HS ?_
          clear hK K
          try simp only [Act.put, List.setIfInBounds_toArray, List.set_cons_zero, List.set_cons_succ]
          refine wpAnyV_takeU (i := 11) (v := .agg #[.int .u32 (p1 % 4294967296), .int .u32 (p2 % 4294967296)]) rfl (by kernel_rfl) (fun _ _ _ h => h) (Or.inl ⟨by rfl, fun w _ => ?_⟩) HS ?_
          · clear HS; go_simp
          try simp only [Act.put, List.setIfInBounds_toArray, List.set_cons_zero, List.set_cons_succ]
          refine wpAnyV_one (k := 12) rfl (by kernel_rfl) (fun K hK => ?_)
          go_simp
          have HS : ((fun (W : World) => Bx W X 36 (sgs G m d A n c (⟨x.kind, x.sub, x.fin, x.ecn, x.seq, x.dsn, l32 fs, x.dgot, x.win, x.ace, x.ce, x.sent, x.echo, x.sacks, x.b⟩ : Sg)) ∧ Bx W T 60 [.int .i64 p1, .int .i64 p2] ∧ w.grownBy W (some X) ∧ base ≤ W.heap.size)) _ := ⟨HS.1.alloc (.cells #[.int .u32 (p1 % 4294967296), .int .u32 (p2 % 4294967296)] 81), HS.2.1.alloc (.cells #[.int .u32 (p1 % 4294967296), .int .u32 (p2 % 4294967296)] 81), gb_trans HS.2.2.1 (gb_below _ ((Below.refl w7.heap.size w7).alloc (Nat.le_refl _) (.cells #[.int .u32 (p1 % 4294967296), .int .u32 (p2 % 4294967296)] 81))), by have := HS.2.2.2; simp; omega⟩
          refine hK _ _ HS ?_
          clear hK K
          try simp only [Act.put, List.setIfInBounds_toArray, List.set_cons_zero, List.set_cons_succ]
          refine wpAnyV_one (k := 13) rfl (by kernel_rfl) (fun K hK => ?_)
          have gp7 := HG.out.keep (World.grownBy_alloc w7 (.cells #[.int .u32 (p1 % 4294967296), .int .u32 (p2 % 4294967296)] 81) none)
          refine step_appp _ (by rfl) (.tmp 33) (.tmp 41) 34 (by rfl) base 81 Try.underlying34 info_pr _ m (sacksR (l.take k) fs) (by rfl) (by rfl) gp7 (fun e => by cases e) (sr_one w7 (u32_l32 p1) (u32_l32 p2) 81).rd (by have := HM3.out; omega) HS.2.2.2 ?_
          intro v8 w8 gp8 hg8
          obtain ⟨G8, d8, rfl, _⟩ := gp8.ss
          have hne := fun (k : Nat) (hk : (Value.slice G m d).ownBlock = some k) => (gp7.row.lt k hk).1
          have e8 := HS.1.grown hg8 (fun e => by have := hne X e.symm; have := HXB.out; omega)
          have t8 := HS.2.1.grown hg8 (fun e => by have := HTB.out T e.symm; omega)
          have r8 := gb_row HS.2.2.1 hg8 hne HBW.out
          have z8 := Nat.le_trans HS.2.2.2 hg8.size
          have HG8 := Lib.hid gp8
          clear gp7 gp8 hne hg8
          have HS : ((fun (W : World) => Bx W X 36 (sgs G m d A n c (⟨x.kind, x.sub, x.fin, x.ecn, x.seq, x.dsn, l32 fs, x.dgot, x.win, x.ace, x.ce, x.sent, x.echo, x.sacks, x.b⟩ : Sg)) ∧ Bx W T 60 [.int .i64 p1, .int .i64 p2] ∧ w.grownBy W (some X) ∧ base ≤ W.heap.size)) _ := ⟨e8, t8, r8, z8⟩
          refine hK _ _ HS ?_
          clear hK K
          try simp only [Act.put, List.setIfInBounds_toArray, List.set_cons_zero, List.set_cons_succ]
          refine wpAnyV_takeU (i := 14) (v := .pointer (some ⟨X, 0, none⟩)) rfl (by kernel_rfl) (fun _ _ _ h => h) (Or.inl ⟨by rfl, fun w _ => ?_⟩) HS ?_
          · clear HS; go_simp
          try simp only [Act.put, List.setIfInBounds_toArray, List.set_cons_zero, List.set_cons_succ]
          refine wpAnyV_takeU (i := 15) (v := .pointer (some ⟨X, 13, none⟩)) rfl (by kernel_rfl) (fun _ _ _ h => h) (Or.inl ⟨by rfl, fun w _ => ?_⟩) HS ?_
          · clear HS; go_simp
          try simp only [Act.put, List.setIfInBounds_toArray, List.set_cons_zero, List.set_cons_succ]
          refine wpAnyV_end (k := 16) rfl (by kernel_rfl) (fun K hK => ?_)
          have cc := HS.1.cell 13 rfl
          have fr := HS.1.free 13
          go_simp
          refine hK _ _ ?_
          clear hK K
          clear cc fr
          try simp only [Act.put, List.setIfInBounds_toArray, List.set_cons_zero, List.set_cons_succ]
          refine ⟨by kernel_rfl, ?_⟩
          go_wp2_with fail
          go_roundw
          case rel =>
            obtain ⟨e8, t8, r8, z8⟩ := HS
            have gp8 := HG8.out
            rw [← HSN.out] at gp8
            exact ⟨k + 1, by omega, by go_num, G8, m + 1, d8, e8.set 13 (.slice G8 (m + 1) d8), gp8.far (gb_set w8 X 13 _) HXB.out, gb_trans r8 (gb_set _ _ _ _), by simpa using z8⟩
          case measure => simp [intOf]; omega
        · have dm : decide ((m : Int) < 3) = false := decide_eq_false (by omega)
          have hsn : sacksR (l.take (k + 1)) fs = (sacksR (l.take k) fs) := sack_full HKL.out (by rw [gp6.len]; exact hm3)
          rw [← hsn] at gp6
          clear hsn
          go_wp2_with fail
          go_roundw
          case rel => exact ⟨k + 1, by omega, by go_num, G, m, d, e6, gp6, r6, z6⟩
          case measure => simp [intOf]; omega
      · have dg : decide (fs < p1) = false := decide_eq_false hgt
        have hsn : sacksR (l.take (k + 1)) fs = (sacksR (l.take k) fs) := sack_no HKL.out (by rw [HP1.out]; exact hgt)
        rw [← hsn] at gp6
        clear hsn
        go_wp2_with fail
        go_roundw
        case rel => exact ⟨k + 1, by omega, by go_num, G, m, d, e6, gp6, r6, z6⟩
        case measure => simp [intOf]; omega
    · obtain rfl : k = sn := by omega
      have dlt : decide (k < k) = false := decide_eq_false (by omega)
      have dlt' : decide ((k : Int) < (k : Int)) = false := decide_eq_false (by omega)
      go_wp2_with fail
      go_end0
      have hl : l.take k = l := List.take_of_length_le (by have := HLEN.out; omega)
      rw [hl] at gp1
      obtain ⟨A', c', ee, hsc⟩ := gp1.sc
      cases ee
      refine ⟨rfl, G, m, d, e1, hsc.sr, fun h0 b o s e => ?_, r2⟩
      obtain ⟨b', o', e', _⟩ := hsc.sr.rd.at_ h0
      rw [e] at e'
      cases e'
      have h1 := hsc.hi b o e
      have h2 := HBW.out
      show w.heap.size ≤ b
      omega
end Go.Proofs.Ytggnhccpncgfiaa
namespace Go.Proofs.Ytggnhccpncgfiaa
open Go.RowKit
set_option maxRecDepth 100000 in
set_option maxHeartbeats 16000000 in
theorem rlmka_any (A : Option Addr) (n c : Nat) (l : List Sp) (w : World) (hs : Ss w A n c l) :
    Calls Try.prog 64 #[.slice A n c] w fun e w' => ∃ P Q, e = .returned (.func (.func 94) #[] #[.pointer (some ⟨P, 0, none⟩), .pointer (some ⟨Q, 0, none⟩)]) ∧ Bx w' P 3 [.int .i64 (gapF l 0)] ∧ Bx w' Q 23 [.slice A n c] ∧ w.heap.size ≤ P ∧ w.heap.size ≤ Q ∧ Below w.heap.size w w' := by
  have hmf : ∀ (fn : Fn) (first cap : Array Value) (w : World), (Instr.makeFunc fn first cap).run Try.prog w = .ok (.func fn first cap) w := fun _ _ _ _ => rfl
  obtain ⟨B, hB⟩ : ∃ B, w.heap.size = B := ⟨_, rfl⟩
  have q0 := Bx.new w 23 [.slice A n c]
  have b0 : Below w.heap.size w (w.alloc (.cells #[.slice A n c] 23)) := (Below.refl _ _).alloc (Nat.le_refl _) _
  have s0 := hs.alloc (.cells #[.slice A n c] 23)
  rw [hB] at q0 b0
  have HB := Lib.hid hB
  clear hs
  go_enter Try.func64, Try.ntmps64
  go_upto_region 1 with fail
  try rw [hB]
  generalize w.alloc (.cells #[.slice A n c] 23) = w0 at q0 b0 s0 ⊢
  clear hB
  have x0 := q0.cell 0 rfl
  have z0 : B ≤ w0.heap.size := Nat.le_of_lt q0.lt
  go_wp2_with fail
  refine (rlmiss_any A n c l w0 s0).mono ?_
  rintro e w1 ⟨rfl, hb⟩
  have q1 := q0.kept hb; have b1 := b0.trans (hb.mono z0); have z1 := Nat.le_trans z0 hb.size
  clear q0 b0 s0 x0 hb
  go_wp2_with fail
  go_ret
  rw [HB.out]
  refine ⟨w1.heap.size, B, rfl, Bx.new w1 3 [.int .i64 (gapF l 0)], q1.alloc _, z1, Nat.le_refl _, ?_⟩
  exact b1.alloc z1 _
set_option maxRecDepth 100000 in
set_option maxHeartbeats 16000000 in
theorem rlmks_any (base : Int) (A : Option Addr) (n c : Nat) (G : Option Addr) (m d : Nat) (cap en : Int) (bl : List Int) (gl : List Sp) (w : World) (hb : Sl w A n c bl) (hg : Ss w G m d gl) (hv : Va ⟨base, bl, gl, cap, en⟩) :
    Calls Try.prog 65 #[.agg #[.int .i64 base, .slice A n c, .slice G m d, .int .i64 cap, .int .i64 en]] w fun e w' => ∃ P Q, e = .returned (.func (.func 96) #[] #[.pointer (some ⟨P, 0, none⟩), .pointer (some ⟨Q, 0, none⟩)]) ∧ Bx w' P 3 [.int .i64 (farR ⟨base, bl, gl, cap, en⟩)] ∧ Bx w' Q 25 [.int .i64 base, .slice A n c, .slice G m d, .int .i64 cap, .int .i64 en] ∧ w.heap.size ≤ P ∧ w.heap.size ≤ Q ∧ Below w.heap.size w w' := by
  have hmf : ∀ (fn : Fn) (first cap : Array Value) (w : World), (Instr.makeFunc fn first cap).run Try.prog w = .ok (.func fn first cap) w := fun _ _ _ _ => rfl
  obtain ⟨B, hB⟩ : ∃ B, w.heap.size = B := ⟨_, rfl⟩
  have q0 := Bx.new w 25 [.int .i64 base, .slice A n c, .slice G m d, .int .i64 cap, .int .i64 en]
  have b0 : Below w.heap.size w (w.alloc (.cells #[.int .i64 base, .slice A n c, .slice G m d, .int .i64 cap, .int .i64 en] 25)) := (Below.refl _ _).alloc (Nat.le_refl _) _
  have s0 := hb.alloc (.cells #[.int .i64 base, .slice A n c, .slice G m d, .int .i64 cap, .int .i64 en] 25)
  have g0 := hg.alloc (.cells #[.int .i64 base, .slice A n c, .slice G m d, .int .i64 cap, .int .i64 en] 25)
  rw [hB] at q0 b0
  have HV := Lib.hid hv; have HB := Lib.hid hB
  clear hb hg hv
  go_enter Try.func65, Try.ntmps65
  go_upto_region 1 with fail
  try rw [hB]
  change Code.wp _ _ _ _ (w.alloc (.cells #[.int .i64 base, .slice A n c, .slice G m d, .int .i64 cap, .int .i64 en] 25))
  generalize w.alloc (.cells #[.int .i64 base, .slice A n c, .slice G m d, .int .i64 cap, .int .i64 en] 25) = w0 at q0 b0 s0 g0 ⊢
  clear hB
  have z0 : B ≤ w0.heap.size := Nat.le_of_lt q0.lt
  go_wp2_with (refine rwv_load rfl (.tmp 1) rfl rfl q0 rfl ?_)
  refine (rlcum_any base A n c G m d cap en bl gl w0 s0 g0 HV.out).mono ?_
  rintro e w1 ⟨rfl, hb⟩
  have q1 := q0.kept hb; have b1 := b0.trans (hb.mono z0); have z1 := Nat.le_trans z0 hb.size
  clear q0 b0 s0 g0 hb
  go_wp2_with fail
  go_ret
  rw [HB.out]
  exact ⟨w1.heap.size, B, rfl, Bx.new w1 3 [.int .i64 (farR ⟨base, bl, gl, cap, en⟩)], q1.alloc _, z1, Nat.le_refl _, b1.alloc z1 _⟩
set_option maxRecDepth 100000 in
set_option maxHeartbeats 16000000 in
theorem rlmkc_any (k : Ms) (w : World) :
    Calls Try.prog 66 #[.agg (mcs k).toArray] w fun e w' => ∃ Q, e = .returned (.func (.func 97) #[] #[.pointer (some ⟨Q, 0, none⟩)]) ∧ Bx w' Q 27 (mcs k) ∧ w.heap.size ≤ Q ∧ Below w.heap.size w w' := by
  have hmf : ∀ (fn : Fn) (first cap : Array Value) (w : World), (Instr.makeFunc fn first cap).run Try.prog w = .ok (.func fn first cap) w := fun _ _ _ _ => rfl
  go_enter Try.func66, Try.ntmps66
  go_wp2_with fail
  go_ret
  exact ⟨w.heap.size, rfl, Bx.new w 27 (mcs k), Nat.le_refl _, (Below.refl _ _).alloc (Nat.le_refl _) _⟩
end Go.Proofs.Ytggnhccpncgfiaa
namespace Go.Proofs.Ytggnhccpncgfiaa
structure WvSt (r : Rc) (x : Sg) (w : Wv) : Prop where
  va : Va w
  base : w.base = r.w.base
  cap : w.cap = r.w.cap
  en : w.en = r.w.en ∨ x.fin = true ∧ w.en = atR r x
  en2 : 0 ≤ r.w.en → w.en = r.w.en
  rdy : rdyW r.w ≤ rdyW w
  blen : w.b.length ≤ max r.w.b.length 66000
theorem wv_step {r : Rc} {x : Sg} {k : Bool} (h : Taken r x k) : WvSt r x (wvR r x).1 := by
  have hw := h.w
  have hv := h.rok.w
  unfold wvR at hw ⊢
  by_cases hf : x.fin = true
  rotate_left
  · rw [if_neg hf] at hw ⊢
    rcases put_cases r.w (atR r x) x.b with c | c | c | c | c
    · rw [c.1] at hw; cases hw
    · rw [c.1] at hw; cases hw
    · rw [c.1]; exact ⟨hv, rfl, rfl, .inl rfl, fun _ => rfl, Nat.le_refl _, by show r.w.b.length ≤ _; omega⟩
    · rw [c.1] at hw; cases hw
    · rw [c.1]
      refine ⟨c.2.res, rfl, rfl, .inl rfl, fun _ => rfl, ?_, ?_⟩
      · refine rdy_mono rfl ?_ (fun n hn => (c.2.in_iff n).2 (.inl hn))
        show r.w.b.length ≤ (putB r.w (atR r x) x.b).length
        rw [putB_len]; omega
      · have h1 := b_small c.2.res
        show (putW r.w (atR r x) x.b).b.length ≤ _
        omega
  · rw [if_pos hf] at hw ⊢
    rcases shut_cases r.w (atR r x) with c | c | c
    · rw [c.1] at hw; cases hw
    · rw [c.1] at hw; cases hw
    · rw [c.1]
      have hu := c.2.2
      exact ⟨end_va hv (by omega), rfl, rfl, .inr ⟨hf, rfl⟩, fun h0 => by show atR r x = r.w.en; omega, Nat.le_refl _, by show r.w.b.length ≤ _; omega⟩
theorem size_bd {x : Sg} (h : Form x) : 1 ≤ sizeS x ∧ sizeS x ≤ 1460 := by
  have h1 := h.1.bl
  unfold sizeS
  cases hf : x.fin
  · have := h.2.2.2 hf
    have : 0 < x.b.length := List.length_pos_iff.2 this
    simp; omega
  · simp
/-- the list of spans behind Add -/
structure AdSt (r : Rc) (x : Sg) (l : List Sp) : Prop where
  eq : l = ins (r.s x.sub.toNat).got (seqR r x, seqR r x + sizeS x)
  v : vld (seqR r x) (seqR r x + sizeS x) = true
  may : mayB l = true
theorem ad_step {r : Rc} {x : Sg} (hg : mayB (r.s x.sub.toNat).got = true) (h : (addS r x).2 = 0) : AdSt r x (addS r x).1 := by
  unfold addS addR told at *
  split at h
  · next h1 =>
    split at h
    · next h2 =>
      rw [if_pos h1, if_pos h2]
      rw [Bool.and_eq_true] at h1
      have e := addL_ins (mayB_parts hg).2 (seqR r x, seqR r x + sizeS x)
      refine ⟨e, h1.2, ?_⟩
      show mayB (addL _ _) = true
      rw [e] at h2 ⊢
      unfold mayB
      rw [decide_eq_true h2, ins_ch (mayB_parts hg).2 h1.2 (by have := vld_iff.1 h1.2; show (-1 : Int) < seqR r x; omega)]; rfl
    · cases h
  · cases h
theorem mk_ok {r : Rc} {x : Sg} {k : Bool} (h : Taken r x k) : MsOk (mkR r x k) := h.m
theorem sub_bd {x : Sg} (h : Form x) : 0 ≤ x.sub ∧ x.sub ≤ 3 ∧ x.sub.toNat ≤ 3 := by have := h.1.sub0; have := h.1.sub1; omega
theorem taken_ok {r : Rc} {x : Sg} {k : Bool} (h : Taken r x k) : RcOk (takenR r x k) :=
  rcok_weave (rcok_put h.rok (ad_step (h.rok.g _) h.a).may (mk_ok h) (sub_bd h.f).2.2) (wv_step h).va
theorem taken_w (r : Rc) (x : Sg) (k : Bool) : (takenR r x k).w = (wvR r x).1 := rfl
theorem taken_s {r : Rc} {x : Sg} {k : Bool} (h : Form x) : (takenR r x k).s x.sub.toNat = ⟨(addS r x).1, mkR r x k⟩ := by
  unfold takenR
  rw [Rc.weave_s, Rc.put_s' _ _ (sub_bd h).2.2]
theorem taken_o {r : Rc} {x : Sg} {k : Bool} (h : Form x) {j : Nat} (hj : j ≤ 3) (hne : j ≠ x.sub.toNat) : (takenR r x k).s j = r.s j := by
  unfold takenR
  rw [Rc.weave_s, Rc.put_s _ _ (sub_bd h).2.2 j hj, if_neg hne]
theorem rc_ext {r q : Rc} (hw : r.w = q.w) (hs : ∀ i, i ≤ 3 → r.s i = q.s i) : r = q := by
  obtain ⟨a, b, c, d, e⟩ := r
  obtain ⟨a', b', c', d', e'⟩ := q
  have h0 := hs 0 (by omega); have h1 := hs 1 (by omega); have h2 := hs 2 (by omega); have h3 := hs 3 (by omega)
  cases hw; cases h0; cases h1; cases h2; cases h3; rfl
theorem win_bd (w : Wv) : 0 ≤ winR w ∧ winR w ≤ 65535 := by unfold winR; omega
theorem ack_may (r : Rc) {i : Nat} (hi : i ≤ 3) (e : Int) : smay (ackS r i e) = true := by
  have := win_bd r.w
  have := sack_len (r.s i).got (gapIn (r.s i).got 0)
  rw [smay_iff]
  refine ⟨by show (0 : Int) ≤ 3; omega, by show (3 : Int) ≤ 4; omega, ?_, ?_, ?_, ?_, ?_, ?_, ?_, ?_, ?_⟩
  · show (0 : Int) ≤ i; omega
  · show (i : Int) ≤ 3; omega
  · show 0 ≤ winR r.w; omega
  · show winR r.w ≤ 65535; omega
  · show 0 ≤ (r.s i).m.pk % 8; omega
  · show (r.s i).m.pk % 8 ≤ 7; omega
  · show (r.s i).m.bt % 16777216 < 16777216; omega
  · exact this
  · show (0 : Nat) ≤ 1460; omega
theorem ack_w (r : Rc) (i : Nat) {e : Int} (h : U32 e) : SgW (ackS r i e) := by
  have hl : ∀ n, U32 (l32 n) := fun n => by unfold U32 l32; omega
  refine ⟨⟨by show (0 : Int) ≤ 0; omega, by show (0 : Int) < 4294967296; omega⟩, ⟨by show (0 : Int) ≤ 0; omega, by show (0 : Int) < 4294967296; omega⟩, hl _, hl _, ?_, ⟨by show (0 : Int) ≤ 0; omega, by show (0 : Int) < 4294967296; omega⟩, h, ?_, fun x hx => by cases hx⟩
  · show U32 ((r.s i).m.bt % 16777216)
    unfold U32; omega
  · intro p hp
    obtain ⟨s, _, rfl⟩ := List.mem_map.1 hp
    exact ⟨hl _, hl _⟩
theorem gap0 {l : List Sp} (h : mayB l = true) : 0 ≤ gapIn l 0 ∧ gapIn l 0 ≤ 4611686018427387904 ∧ ¬ inL l (gapIn l 0) :=
  ⟨gap_ge l 0, gap_top (mayB_parts h).2 (by omega), gap_out (mayB_parts h).2 0⟩
theorem ends_bd {l : List Sp} {t : Int} (h : ∀ p ∈ l, p.2 ≤ t) {n : Int} (hn : inL l n) : n < t := by
  obtain ⟨p, hp, h1, h2⟩ := hn
  have := h p hp; omega
theorem gap_end {l : List Sp} {t : Int} (ht : 0 ≤ t) (h : ∀ p ∈ l, p.2 ≤ t) : gapIn l 0 ≤ t := by
  rcases gap_cases l 0 with k | ⟨p, hp, _, k⟩
  · omega
  · rw [k]; exact h p hp
theorem ins_end {l : List Sp} {d t : Int} (h : chain d l = true) {s : Sp} (hs : s.1 < s.2) (ht : ∀ p ∈ l, p.2 ≤ t) (h2 : s.2 ≤ t) (hc : chain d (ins l s) = true) : ∀ p ∈ ins l s, p.2 ≤ t := by
  intro p hp
  have hp' := ch_each hc p hp
  have hin : inL (ins l s) (p.2 - 1) := ⟨p, hp, by omega, by omega⟩
  rcases (ins_in h hs _).1 hin with k | k
  · have := ends_bd ht k; omega
  · omega
/-- the places below the first that is missing are all there -/
theorem gap_all {l : List Sp} {d : Int} (h : chain d l = true) {n : Int} (h0 : 0 ≤ n) (h1 : n < gapIn l 0) : inL l n := by
  rcases gap_cases l 0 with k | ⟨p, hp, hq, k⟩
  · omega
  · exact ⟨p, hp, by omega, by omega⟩
theorem gap_of {l : List Sp} {d : Int} (h : chain d l = true) {g : Int} (h0 : 0 ≤ g) (h1 : ∀ n, 0 ≤ n → n < g → inL l n) (h2 : ¬ inL l g) : gapIn l 0 = g := by
  have a := gap_ge l 0
  rcases Int.lt_trichotomy (gapIn l 0) g with k | k | k
  · exact absurd (h1 _ a k) (gap_out h 0)
  · exact k
  · exact absurd (gap_all h h0 k) h2
theorem twice_add {r : Rc} {x : Sg} (hg : mayB (r.s x.sub.toNat).got = true) (hx : 0 ≤ x.seq ∧ x.seq < 4294967296) (hf : Form x) (ht : ∀ p ∈ (r.s x.sub.toNat).got, p.2 ≤ 2000000000) (h : (addS r x).2 = 0) :
    unwr (gapIn (addS r x).1 0) x.seq = seqR r x ∧ addR (addS r x).1 (seqR r x, seqR r x + sizeS x) = ((addS r x).1, 0) := by
  have hst := ad_step hg h
  have hsz := size_bd hf
  have hg1 := gap_end (by omega) ht
  have hs : seqR r x = x.seq := unwr_low (by omega) hx.1 hx.2
  have hch := (mayB_parts hg).2
  have hch2 := (mayB_parts hst.may).2
  have hin := ins_in hch (s := (seqR r x, seqR r x + sizeS x)) (by show seqR r x < seqR r x + sizeS x; omega)
  constructor
  · rw [hs]
    refine unwr_low ?_ hx.1 hx.2
    rw [hst.eq] at hch2 ⊢
    by_cases hlt : seqR r x ≤ 2000000000
    · have := gap_end (t := 2000001460) (by omega) (ins_end hch (s := (seqR r x, seqR r x + sizeS x)) (by show seqR r x < seqR r x + sizeS x; omega) (fun p hp => by have := ht p hp; omega) (by show seqR r x + sizeS x ≤ _; omega) hch2)
      omega
    · have e : gapIn (ins (r.s x.sub.toNat).got (seqR r x, seqR r x + sizeS x)) 0 = gapIn (r.s x.sub.toNat).got 0 := by
        have h0 := gap_ge (r.s x.sub.toNat).got 0
        refine gap_of hch2 h0 (fun n hn hn' => (hin n).2 (.inl (gap_all hch hn hn'))) (fun hh => ?_)
        rcases (hin _).1 hh with k | k
        · exact gap_out hch 0 k
        · have : seqR r x ≤ gapIn (r.s x.sub.toNat).got 0 := k.1
          omega
      rw [e]; omega
  · have e2 : ins (addS r x).1 (seqR r x, seqR r x + sizeS x) = (addS r x).1 := by
      refine ch_unique (d := -1) (e := -1) (ins_ch hch2 hst.v (by have := vld_iff.1 hst.v; show (-1 : Int) < seqR r x; omega)) hch2 (fun n => ?_)
      rw [ins_in hch2 (by show seqR r x < seqR r x + sizeS x; omega)]
      constructor
      · rintro (k | k)
        · exact k
        · rw [hst.eq]; exact (hin n).2 (.inr k)
      · exact fun k => .inl k
    unfold addR told
    rw [hst.may, show vld (seqR r x, seqR r x + sizeS x).1 (seqR r x, seqR r x + sizeS x).2 = true from hst.v, addL_ins hch2, e2, show (true && true) = true from rfl, if_pos rfl, if_pos (mayB_parts hst.may).1]
theorem far_mono {w v : Wv} (hb : v.base = w.base) (hr : rdyW w ≤ rdyW v) (h0 : 0 ≤ w.base) (he : 0 ≤ w.en → v.en = w.en) : farR w ≤ farR v := by
  unfold farR
  rw [hb]
  split
  · next h1 =>
    split
    · omega
    · next h2 => have := he (by omega); omega
  · split <;> omega
theorem l32_id {n : Int} (h0 : 0 ≤ n) (h1 : n < 4294967296) : l32 n = n := by unfold l32; omega
theorem at_low {r : Rc} {x : Sg} (hv : Va r.w) (hx : 0 ≤ x.dsn ∧ x.dsn < 4294967296) (hb : r.w.base ≤ 2000000000) : atR r x = x.dsn := by
  have h1 := far_bd hv
  have h2 := rdy_le r.w
  have h3 := b_small hv
  exact unwr_low (by omega) hx.1 hx.2
/-- behind a Take another one of the same segment turns nothing -/
theorem twice_take {r : Rc} {x : Sg} (hx : SgW x) (h : Taken r x false) (hb : r.w.base ≤ 2000000000) (ht : ∀ p ∈ (r.s x.sub.toNat).got, p.2 ≤ 2000000000) :
    takeR (takenR r x false) x false = (takenR r x false, ackS (takenR r x false) x.sub.toNat x.sent, 0) := by
  have hok := taken_ok h
  have hw := wv_step h
  have hs := taken_s (r := r) (k := false) h.f
  have hat : atR r x = x.dsn := at_low h.rok.w hx.dsn hb
  have hat2 : atR (takenR r x false) x = x.dsn := at_low (by rw [taken_w]; exact hw.va) hx.dsn (by rw [taken_w, hw.base]; exact hb)
  have htw := twice_add (h.rok.g _) hx.seq h.f ht h.a
  have hsq : seqR (takenR r x false) x = seqR r x := by
    show unwr (gapIn ((takenR r x false).s x.sub.toNat).got 0) x.seq = _
    rw [hs]; exact htw.1
  have had : addS (takenR r x false) x = ((addS r x).1, 0) := by
    show addR ((takenR r x false).s x.sub.toNat).got (seqR (takenR r x false) x, seqR (takenR r x false) x + sizeS x) = _
    rw [hs, hsq]; exact htw.2
  have hwv : wvR (takenR r x false) x = ((wvR r x).1, 0) := by
    have hw0 := h.w
    show (if x.fin = true then wshutR (takenR r x false).w (atR (takenR r x false) x) else ((putR (takenR r x false).w (atR (takenR r x false) x) x.b).1, (putR (takenR r x false).w (atR (takenR r x false) x) x.b).2.2)) = _
    rw [taken_w, hat2, ← hat]
    unfold wvR at hw0 ⊢
    by_cases hf : x.fin = true
    rotate_left
    · rw [if_neg hf] at hw0
      rw [if_neg hf, if_neg hf]
      have := ((twice_spec r.w (atR r x) x.b x.b rfl).2 hw0).1
      rw [this]
    · rw [if_pos hf] at hw0
      rw [if_pos hf, if_pos hf]
      rcases shut_cases r.w (atR r x) with c | c | c
      · rw [c.1] at hw0; cases hw0
      · rw [c.1] at hw0; cases hw0
      · rw [c.1]
        exact end_same h.rok.w (by have := c.2.2; omega) c.2.1.2.1 c.2.1.2.2
  have hmk : mkR (takenR r x false) x false = (r.s x.sub.toNat).m := by
    show ((takenR r x false).s x.sub.toNat).m = _
    rw [hs]; rfl
  have hed : edW (takenR r x false).w = edW r.w := by rw [taken_w]; unfold edW; rw [hw.base, hw.cap]
  have hT : Taken (takenR r x false) x false := ⟨hok, h.f, by rw [hed, hat2, ← hat]; exact h.edge, by rw [hwv], by rw [had], by rw [hmk]; exact h.rok.m _⟩
  have he : takenR (takenR r x false) x false = takenR r x false := by
    refine rc_ext ?_ (fun i hi => ?_)
    · rw [taken_w, hwv, taken_w]
    · by_cases hi2 : i = x.sub.toNat
      · rw [hi2, taken_s hT.f, had, hmk, hs]; rfl
      · rw [taken_o hT.f hi hi2]
  rw [take_zero ((take_iff _ _ _).2 hT), he]
/-- ReceiverTold's last two facts -/
theorem told_far {r : Rc} {x : Sg} (h : Taken r x false) : farR r.w ≤ farR (takenR r x false).w := by
  have hw := wv_step h
  rw [taken_w]
  exact far_mono hw.base hw.rdy h.rok.w.base0 hw.en2
theorem told_same {r : Rc} {x : Sg} (h : Taken r x false) : ((takenR r x false).s x.sub.toNat).m = (r.s x.sub.toNat).m := by rw [taken_s h.f]; rfl
theorem far_low {w : Wv} (h : Va w) (hl : w.base + w.cap ≤ 4000000000) : l32 (farR w) = farR w := by
  have h1 := far_top h
  unfold edW at h1
  exact l32_id h1.1 (by omega)
theorem takeE_marks {r : Rc} {x : Sg} (h : takeE r x true ≠ 0) : takeE r x false = takeE r x true ∨ takeE r x false = 0 ∧ takeE r x true = 5 := by
  unfold takeE at *
  by_cases h1 : rcmay r = false
  · left; rw [if_pos h1, if_pos h1]
  · rw [if_neg h1] at h
    rw [if_neg h1, if_neg h1]
    by_cases h2 : formB x = false
    · left; rw [if_pos h2, if_pos h2]
    · rw [if_neg h2] at h
      rw [if_neg h2, if_neg h2]
      by_cases h3 : x.fin = false ∧ edW r.w < atR r x + sizeS x
      · left; rw [if_pos h3, if_pos h3]
      · rw [if_neg h3] at h
        rw [if_neg h3, if_neg h3]
        by_cases h4 : (wvR r x).2 ≠ 0
        · left; rw [if_pos h4, if_pos h4]
        · rw [if_neg h4] at h
          rw [if_neg h4, if_neg h4]
          by_cases h5 : (addS r x).2 ≠ 0
          · left; rw [if_pos h5, if_pos h5]
          · rw [if_neg h5] at h
            have hr : RcOk r := (rcmay_iff r).1 (by simpa using h1)
            rw [if_neg h5, if_neg h5, if_neg (by rw [show mkR r x false = (r.s x.sub.toNat).m from rfl, (mmay_iff _).2 (hr.m _)]; simp)]
            split at h
            · next h6 => right; exact ⟨rfl, if_pos h6⟩
            · exact absurd rfl h
theorem taken_false {r : Rc} {x : Sg} (h : Taken r x true) : Taken r x false := ⟨h.rok, h.f, h.edge, h.w, h.a, h.rok.m _⟩
theorem marks_back {r : Rc} {x : Sg} (h : Form x) : (takenR r x true).put ⟨((takenR r x true).s x.sub.toNat).got, (r.s x.sub.toNat).m⟩ x.sub.toNat = takenR r x false := by
  rw [taken_s h]
  unfold takenR
  rw [Rc.weave_put, Rc.put_put _ _ _ (sub_bd h).2.2]; rfl
theorem marks_mk {r : Rc} {x : Sg} (h : Form x) (k : Bool) : ((takenR r x k).s x.sub.toNat).m = mkR r x k := by rw [taken_s h]
theorem cut_rdy {w : Wv} (h : Va w) {k : Nat} (hk : k ≤ rdyW w) : rdyW (cutW w k) = rdyW w - k := by
  have hl := rdy_le w
  refine rdy_of ?_ (fun i hi => ?_) (fun hlt hin => ?_)
  · show rdyW w - k ≤ (w.b.drop k).length
    rw [List.length_drop]; omega
  · have h1 : (cutW w k).base = w.base + k := rfl
    rw [cut_in_iff h hk, h1]
    refine ⟨?_, by omega⟩
    have := rdy_in w (i := k + i) (by omega)
    rwa [show w.base + ((k + i : Nat) : Int) = w.base + (k : Int) + (i : Int) by omega] at this
  · have h1 : (cutW w k).base = w.base + k := rfl
    rw [cut_in_iff h hk, h1] at hin
    have h2 : (cutW w k).b.length = w.b.length - k := by show (w.b.drop k).length = _; rw [List.length_drop]
    rw [h2] at hlt
    refine rdy_out w (by omega) ?_
    have := hin.1
    rwa [show w.base + (k : Int) + ((rdyW w - k : Nat) : Int) = w.base + (rdyW w : Int) by omega] at this
theorem cut_far {w : Wv} (h : Va w) {k : Nat} (hk : k ≤ rdyW w) : farR (cutW w k) = farR w := by
  unfold farR
  rw [cut_rdy h hk]
  have h1 : (cutW w k).base = w.base + k := rfl
  have h2 : (cutW w k).en = w.en := rfl
  rw [h1, h2, show w.base + (k : Int) + ((rdyW w - k : Nat) : Int) = w.base + (rdyW w : Int) by omega]
theorem cut_ed {w : Wv} {k : Nat} (h : Va w) (hb : w.base ≤ 1000000000) (hk : k ≤ rdyW w) : edW (cutW w k) = edW w + k := by
  have h1 := h.cap1
  have h2 := rdy_le w
  have h3 := b_small h
  unfold edW
  show min (w.base + (k : Int) + w.cap) _ = _
  omega
theorem far_win {w : Wv} {k : Nat} (h : Va w) (hb : w.base ≤ 1000000000) (hk : k ≤ rdyW w) :
    (winR (cutW w k) = winR w + k ∨ winR (cutW w k) = 65535 ∨ winR w = 0) ∧ winR w ≤ winR (cutW w k) := by
  have h1 := cut_ed h hb hk
  have h2 := cut_far h hk
  unfold winR
  rw [h1, h2]
  omega
/-- a byte at the edge -/
def edgeS (r : Rc) (sub : Int) : Sg := ⟨2, sub, false, false, 0, l32 (r.w.base + r.w.cap), 0, 0, 0, 0, 0, 0, 0, [], [1]⟩
theorem far_full {r : Rc} {sub : Int} (h : RcOk r) (h0 : 0 ≤ sub) (h3 : sub ≤ 3) (hb : r.w.base ≤ 1000000000) : takeE r (edgeS r sub) false = 4 := by
  have hc := h.w.cap1
  have hc0 := h.w.cap0
  have hb0 := h.w.base0
  have hf : Form (edgeS r sub) := by
    refine ⟨?_, rfl, fun hh => (Bool.noConfusion (show (false : Bool) = true from hh)), fun _ hh => (List.cons_ne_nil _ _ (show [(1 : Int)] = [] from hh))⟩
    exact ⟨by show (0 : Int) ≤ 2; omega, by show (2 : Int) ≤ 4; omega, h0, h3, by show (0 : Int) ≤ 0; omega, by show (0 : Int) ≤ 65535; omega, by show (0 : Int) ≤ 0; omega, by show (0 : Int) ≤ 7; omega, by show (0 : Int) < 16777216; omega, by show (0 : Nat) ≤ 3; omega, by show (1 : Nat) ≤ 1460; omega⟩
  have hd : (edgeS r sub).dsn = r.w.base + r.w.cap := l32_id (by omega) (by omega)
  have ha : atR r (edgeS r sub) = r.w.base + r.w.cap := by
    rw [at_low h.w (by rw [hd]; omega) (by omega), hd]
  have h4 : (edgeS r sub).fin = false ∧ edW r.w < atR r (edgeS r sub) + sizeS (edgeS r sub) := by
    refine ⟨rfl, ?_⟩
    have hz : sizeS (edgeS r sub) = 1 := rfl
    rw [ha, hz]
    unfold edW; omega
  unfold takeE
  rw [if_neg (by rw [(rcmay_iff r).2 h]; simp), if_neg (by rw [(formB_iff _).2 hf]; simp), if_pos h4]
end Go.Proofs.Ytggnhccpncgfiaa
