/- Package weave: woven as contracts of the calls. -/
import Derived.Test.YtgiknfmagmfniaaProg
import Derived.Test.YtgiknfmagmfniaaWo5
import Derived.WalkKit
import Derived.WalkSpells
import Derived.WalkSmall
import Derived.Lib.Hide
import Derived.Below
import Derived.Outline
namespace Go.Proofs.Ytgiknfmagmfniaa
open Go.RowKit
set_option linter.unusedSimpArgs false
set_option linter.unusedVariables false


/-- bytes as cells -/
def lv (l : List Int) : List Value := l.map (Value.int .u8)
theorem lv_len (l : List Int) : (lv l).length = l.length := by unfold lv; simp
theorem lv_splice (L : List Int) (o : Nat) (cs : List Int) : splice (lv L) o (lv cs) = lv (splice L o cs) := (splice_map _ _ _ _).symm
theorem lv_one (l : List Int) : ∀ v ∈ lv l, v.oneCell' = true := by
  intro v hv
  unfold lv at hv
  obtain ⟨x, _, rfl⟩ := List.mem_map.1 hv
  rfl
/-- the block g holds just these bytes -/
def Rw (W : World) (g : Nat) (l : List Int) : Prop := W.heap[g]? = some (.cells (lv l).toArray 5 (0, 0))
theorem Rw.new (W : World) (l : List Int) : Rw (W.alloc (.cells (lv l).toArray 5)) W.heap.size l := heap_alloc_new W _
theorem Rw.eq {W : World} {g : Nat} {l : List Int} (h : Rw W g l) : W.heap[g]? = some (.cells (lv l).toArray 5 (0, 0)) := h
theorem Rw.lt {W : World} {g : Nat} {l : List Int} (h : Rw W g l) : g < W.heap.size := (Array.getElem?_eq_some_iff.1 h).1
theorem Rw.below {W W' : World} {g n : Nat} {l : List Int} (h : Rw W g l) (hb : Below n W W') (hk : g < n) : Rw W' g l := (hb.block g hk).trans h
theorem Rw.kept {W W' : World} {g : Nat} {l : List Int} (h : Rw W g l) (hb : Below W.heap.size W W') : Rw W' g l := h.below hb h.lt
theorem Rw.sb {W : World} {g base N : Nat} {l : List Int} (h : Rw W g l) (hb : base ≤ g) (hl : l.length = N) (hs : Small l) (hN : N ≤ 1000000) : Sb W base (some ⟨g, 0, none⟩) N N l := by
  refine ⟨⟨Nat.le_refl _, by unfold maxLen; omega, (fun e => by cases e), hl, hs, fun _ => ⟨g, 0, rfl, h.lt, fun i hi => ?_⟩⟩, fun b o s e => by cases e; exact hb⟩
  rw [cell_of_row W g (0 + i) _ _ _ h]
  unfold lv byt
  rw [Nat.zero_add, List.getElem?_toArray, List.getElem?_map, List.getD_eq_getElem?_getD, List.getElem?_eq_getElem (by omega)]
  rfl
theorem src_of {w : World} {A : Option Addr} {n : Nat} {l : List Int} (h : Rd w A n l) (hn : 0 < n) : ∃ ad, A = some ad ∧ ∀ j v, (lv l)[j]? = some v → w.cell? (ad.add j) = some v := by
  obtain ⟨b, o, e, _, hc⟩ := h.at_ hn
  refine ⟨_, e, fun j v hv => ?_⟩
  have hj : j < l.length := by
    have := (List.getElem?_eq_some_iff.1 hv).1
    rw [lv_len] at this; exact this
  have hadd : (⟨b, o, none⟩ : Addr).add j = ⟨b, o + j, none⟩ := by unfold Addr.add; split <;> simp_all
  rw [hadd, hc j (by rw [← h.len]; exact hj)]
  unfold lv at hv
  rw [List.getElem?_map, List.getElem?_eq_getElem hj] at hv
  rw [← hv]
  unfold byt
  rw [List.getD_eq_getElem?_getD, List.getElem?_eq_getElem hj]; rfl
theorem cutA_pos {g k c : Nat} (h : c ≠ k) : cutA (some ⟨g, 0, none⟩) k c = some ⟨g, k, none⟩ := by
  unfold cutA
  rw [if_neg h]
  simp [Addr.add]
  try omega
theorem run_cutC (P : Program) (t e : TypeId) (ht : P.underlying t = some (.slice e)) (hinfo : (P.info? e).map (fun i => (i.zero, i.size, i.bytes)) = some (some (.int .u8 0), 1, 1)) (A : Option Addr) (k n c : Nat) (w : World) (hk : k ≤ 1000000) (hkn : k ≤ n) (hnc : n ≤ c) :
    (Instr.slice t (.slice A n c) (some (.int .i64 (k : Int))) none none).run P w = .ok (.slice (cutA A k c) (n - k) (c - k)) w := by
  have h := run_cutB P t e ht hinfo A k (n - k) (c - k) w hk (by omega)
  rw [show n - k + k = n by omega, show c - k + k = c by omega] at h
  exact h
theorem run_makeB (N : Nat) (hN : N ≤ 1000000) (w : World) : (Instr.makeSlice 22 (.int .i64 (N : Int)) (.int .i64 (N : Int))).run Try.prog w = .ok (.slice (some ⟨w.heap.size, 0, none⟩) N N) (w.alloc (.cells (lv (List.replicate N 0)).toArray 5)) := by
  obtain ⟨i0, hi, hz0, hz1, hz2⟩ := info_parts info_u8
  have h := run_make (P := Try.prog) w 22 5 i0 (.int .u8 0) Try.underlying22 hi hz0 .i64 .i64 (N : Int) (N : Int) (by omega) (Int.le_refl _) (by rw [hz2]; omega) (by omega)
  rw [h, hz1, Int.toNat_natCast, Nat.mul_one]
  have e : madeCells (Value.int .u8 0).cells N = (lv (List.replicate N 0)).toArray := by
    apply Array.toList_inj.1
    show (madeCells #[Value.int .u8 0] N).toList = _
    rw [toList_madeCells_one]
    unfold lv; simp
  rw [e]
theorem size_u8 : (Try.prog.info? 5).map (·.size) = some 1 := by
  obtain ⟨i0, hi, hz0, hz1, hz2⟩ := info_parts info_u8
  rw [hi]; simp [hz1]

set_option maxRecDepth 100000 in
set_option maxHeartbeats 4000000 in
theorem wwoven_any (base : Int) (A : Option Addr) (n c : Nat) (G : Option Addr) (m d : Nat) (cap en : Int) (bl : List Int) (gl : List Sp) (P : Int) (f : Nat) (A2 : Option Addr) (n2 c2 : Nat) (l2 : List Int) (w : World) (hb : Sl w A n c bl) (hg : Ss w G m d gl) (hb2 : Sl w A2 n2 c2 l2) (h0 : 0 ≤ base) (h1 : base ≤ 2305843009213693952) (hc : chain (base - 1) gl = true) (hU : lastOf base gl = base + n) (hn : n ≤ 65536) (hm : m ≤ 1000) (hP : P = base + f) (hf : f + n2 ≤ 65536) :
    Calls Try.prog 34 #[.agg #[.int .i64 base, .slice A n c, .slice G m d, .int .i64 cap, .int .i64 en], .int .i64 P, .slice A2 n2 c2] w fun e w' => ∃ R d, e = .returned (.slice R (max n (f + n2)) d) ∧ Sb w' w.heap.size R (max n (f + n2)) d (wovB gl gl.length base bl l2 f (max n (f + n2))) ∧ Below w.heap.size w w' := by
  have hbl := hb.rd.len
  have hgl := hg.rd.len
  have e0 := Bx.new w 25 [.int .i64 base, .slice A n c, .slice G m d, .int .i64 cap, .int .i64 en]
  have hb0 : Below w.heap.size w (w.alloc (.cells #[.int .i64 base, .slice A n c, .slice G m d, .int .i64 cap, .int .i64 en] 25)) := (Below.refl _ _).alloc (Nat.le_refl _) _
  obtain ⟨B, hB⟩ : ∃ B, w.heap.size = B := ⟨_, rfl⟩
  rw [hB] at e0 hb0
  obtain ⟨w0, hw0⟩ : ∃ w0, w.alloc (.cells #[.int .i64 base, .slice A n c, .slice G m d, .int .i64 cap, .int .i64 en] 25) = w0 := ⟨_, rfl⟩
  have e1 : Bx w0 B 25 [.int .i64 base, .slice A n c, .slice G m d, .int .i64 cap, .int .i64 en] := by rw [← hw0]; exact e0
  have b1 : Below B w w0 := by rw [← hw0]; exact hb0
  clear e0 hb0
  have hbk : ∀ {w' : World}, Below B w w' → Sl w' A n c bl := fun h => hb.keep (by rw [hB]; exact h)
  have hgk : ∀ {w' : World}, Below B w w' → Ss w' G m d gl := fun h => hg.keep (by rw [hB]; exact h)
  have hbk2 : ∀ {w' : World}, Below B w w' → Sl w' A2 n2 c2 l2 := fun h => hb2.keep (by rw [hB]; exact h)
  have hl2 := hb2.rd.len
  have hcap := hb.le
  have s1 : w0.heap.size = B + 1 := by rw [← hw0, World.size_alloc, hB]
  have x0 := e1.cell 0 rfl
  have x1 := e1.cell 1 rfl
  have q0 : P - base = (f : Int) := by omega
  have hPb : P ≤ 4611686018427387904 := by omega
  have HP := Lib.hid hP; clear hP
  obtain ⟨T, hTT⟩ : ∃ T, f + n2 = T := ⟨_, rfl⟩
  obtain ⟨N, hNN⟩ : ∃ N, max n T = N := ⟨_, rfl⟩
  have hT : (f : Int) + (n2 : Int) = (T : Int) := by omega
  rw [hTT, hNN]
  have hT2 : T ≤ 65536 := by omega
  have hN2 : N ≤ 65536 := by omega
  have hnN : n ≤ N := by omega
  have hTN : T ≤ N := by omega
  have HTT := Lib.hid hTT; clear hTT
  have HC := Lib.hid hc; clear hc
  have HU := Lib.hid hU; clear hU
  have HS1 := Lib.hid s1; clear s1
  go_enter Try.func34, Try.ntmps34
  rw [hB]
  go_upto_region 1 with fail
  go_cut [7] (fun s7 wx => s7 = .slice (some ⟨B + 1, 0, none⟩) N N ∧ Rw wx (B + 1) (List.replicate N 0) ∧ Bx wx B 25 [.int .i64 base, .slice A n c, .slice G m d, .int .i64 cap, .int .i64 en] ∧ Below B w wx)
  case first =>
    by_cases hnT : n < T
    · have hNT : T = N := by omega
      have HNT := Lib.hid hNT; clear hNT hNN
      have hmake := run_makeB T (by omega)
      go_wp2_with fail
      go_meet
      case rel =>
        rw [← HNT.out, HS1.out]
        exact ⟨rfl, by have := Rw.new w0 (List.replicate T 0); rw [HS1.out] at this; exact this, e1.alloc _, b1.alloc (by rw [HS1.out]; omega) _⟩
    · have hNT : n = N := by omega
      have HNT := Lib.hid hNT; clear hNT hNN
      have hmake := run_makeB n (by omega)
      go_wp2_with fail
      go_meet
      case rel =>
        rw [← HNT.out, HS1.out]
        exact ⟨rfl, by have := Rw.new w0 (List.replicate n 0); rw [HS1.out] at this; exact this, e1.alloc _, b1.alloc (by rw [HS1.out]; omega) _⟩
  case rest =>
  obtain ⟨rfl, rw2, e2, b2⟩ := hcut
  rename World => w2
  clear x0 x1 hw0 e1 b1
  have x0 := e2.cell 0 rfl
  have x2 := e2.cell 2 rfl
  have hcut0 := fun w => run_cutC Try.prog 22 5 Try.underlying22 info_u8 (some ⟨B + 1, 0, none⟩) f N N w (by omega) (by omega) (Nat.le_refl _)
  have HNN := Lib.hid hNN; clear hNN
  have hTT := HTT.out
  have A1 := Lib.hid (show (lv l2).length = Nat.min n2 (N - f) by rw [lv_len, hl2]; show n2 = min n2 (N - f); omega)
  have A3 := Lib.hid (show 0 < (lv l2).length → cutA (some ⟨B + 1, 0, none⟩) f N = some ⟨B + 1, f, none⟩ ∧ ∃ ad, A2 = some ad ∧ ∀ j v, (lv l2)[j]? = some v → w2.cell? (ad.add j) = some v from fun hpos => by
    rw [lv_len, hl2] at hpos
    exact ⟨cutA_pos (by omega), src_of (hbk2 b2).rd hpos⟩)
  have A4 := Lib.hid (show f + (lv l2).length ≤ (lv (List.replicate N 0)).length by rw [lv_len, lv_len, List.length_replicate, hl2]; omega)
  clear hTT
  go_wp2_with ((refine wpList_copy_splice rfl (.tmp 27) (.tmp 28) 22 22 rfl 5 Try.underlying22 size_u8 _ _ _ _ _ _ rfl rfl (B + 1) f (lv (List.replicate N 0)) 5 rw2.eq (lv l2) A1.out A3.out A4.out (lv_one _) (B + 1) w2 (Below.refl _ _) (Nat.le_refl _) ?_); intro w3 HG3 hB3; have e3 := e2.below hB3 (show B < B + 1 by omega); have x2' := e3.cell 2 rfl)
  have rw3 : Rw w3 (B + 1) (wovB gl 0 base bl l2 f N) := by
    have := HG3.out
    rw [lv_splice, wov_zero gl base bl l2 f N (by rw [hl2, HTT.out]; exact hTN)] at this
    exact this
  have b3 := b2.trans (hB3.mono (by omega))
  clear HG3 hB3 rw2 e2 b2 x0 x2 hcut0 A1 A3 A4 x2'
  go_loopw [33] (fun i wr => ∃ k : Nat, k ≤ m ∧ i = .int .i64 (k : Int) ∧ Rw wr (B + 1) (wovB gl k base bl l2 f N) ∧ Bx wr B 25 [.int .i64 base, .slice A n c, .slice G m d, .int .i64 cap, .int .i64 en] ∧ Below B w wr) (fun i _ => m - (intOf i).toNat)
  case atStart => exact ⟨0, Nat.zero_le _, rfl, rw3, e3, b3⟩
  case round =>
    clear rw3 e3 b3
    obtain ⟨k, hk, rfl, rw4, e4, b4⟩ := hrel
    by_cases hlt : k < m
    · have hkl : k < gl.length := by omega
      obtain ⟨gb, go, hG', hgb, hgc⟩ := hg.rd.at_ (by omega)
      have c1 := (b4.cell (p := ⟨gb, go + k * 2, none⟩) (by rw [← hB]; exact hgb)).trans (hgc k hlt).1
      have d1 := (b4.cell (p := ⟨gb, go + k * 2 + 1, none⟩) (by rw [← hB]; exact hgb)).trans (hgc k hlt).2
      have hsp := (ch_split HC.out hkl).2
      have hge := last_base_ge HC.out k
      have hup : (sp gl k).2 ≤ base + n := by
        rw [← HU.out, show lastOf base gl = lastOf (base - 1) gl from last_any (fun e => by rw [e] at hkl; simp at hkl)]
        exact last_split HC.out hkl
      have hlo : base ≤ (sp gl k).1 := by
        have h3 := hsp.1
        have h4 := last_ge (chain_take HC.out k)
        omega
      have hs2 := hsp.2.1
      obtain ⟨p1, hp1⟩ : ∃ p1, (sp gl k).1 = p1 := ⟨_, rfl⟩
      obtain ⟨p2, hp2⟩ : ∃ p2, (sp gl k).2 = p2 := ⟨_, rfl⟩
      rw [hp1] at c1 hlo hs2
      rw [hp2] at d1 hup hs2
      obtain ⟨hs3, hs4, hs5⟩ := hs2
      obtain ⟨o, ho⟩ : ∃ o : Nat, p1 = base + (o : Int) := ⟨(p1 - base).toNat, by omega⟩
      obtain ⟨u, hu⟩ : ∃ u : Nat, p2 = base + (u : Int) := ⟨(p2 - base).toNat, by omega⟩
      have hou : o < u := by omega
      have hun : u ≤ n := by omega
      have q1 : IntKind.i64.wrap (p1 - base) = (o : Int) := by rw [IntWalk.i64_in _ (by omega)]; omega
      have q2 : IntKind.i64.wrap (p2 - base) = (u : Int) := by rw [IntWalk.i64_in _ (by omega)]; omega
      have hnext := wov_succ (bl := bl) (b := l2) (f := f) (N := N) HC.out hkl (o := o) (u := u) (by rw [hp1]; exact ho) (by rw [hp2]; exact hu) (by omega) (by omega)
      have hyl : ((bl.take u).drop o).length = u - o := by rw [List.length_drop, List.length_take]; omega
      obtain ⟨Y, hY⟩ : ∃ Y, (bl.take u).drop o = Y := ⟨_, rfl⟩
      obtain ⟨X, hX⟩ : ∃ X, wovB gl k base bl l2 f N = X := ⟨_, rfl⟩
      have hxl : X.length = N := by rw [← hX, wov_len]
      rw [hY] at hyl hnext
      rw [hX] at hnext rw4
      have HY := Lib.hid hY; clear hY
      have HXX := Lib.hid hX; clear hX
      have HYL := Lib.hid hyl; clear hyl
      have HXL := Lib.hid hxl; clear hxl
      have HN := Lib.hid hnext; clear hnext
      have HO := Lib.hid ho; clear ho
      have HUU := Lib.hid hu; clear hu
      have HP1 := Lib.hid hp1; clear hp1
      have HP2 := Lib.hid hp2; clear hp2
      clear hgc hsp hge
      have hcutR := fun w => run_cutC Try.prog 22 5 Try.underlying22 info_u8 (some ⟨B + 1, 0, none⟩) o N N w (by omega) (by omega) (Nat.le_refl _)
      have hcutS := fun w => run_cut2 Try.prog 22 5 Try.underlying22 info_u8 A n c o u (u - o) w (by omega) (by omega)
      obtain ⟨w6, hw6⟩ : ∃ w6, wr.alloc (.cells #[.int .i64 p1, .int .i64 p2] 52) = w6 := ⟨_, rfl⟩
      obtain ⟨Z, hZ⟩ : ∃ Z, wr.heap.size = Z := ⟨_, rfl⟩
      have e6 : Bx w6 B 25 [.int .i64 base, .slice A n c, .slice G m d, .int .i64 cap, .int .i64 en] := by rw [← hw6]; exact e4.alloc _
      have s6 : Boxed2 w6 Z 52 (.int .i64 p1) (.int .i64 p2) := by rw [← hw6, ← hZ]; exact Boxed2.new wr _ _ _
      have b6 : Below B w w6 := by rw [← hw6]; exact b4.alloc (Nat.le_of_lt e4.lt) _
      have rw6 : Rw w6 (B + 1) X := by rw [← hw6]; exact rw4.kept ((Below.refl _ _).alloc (Nat.le_refl _) _)
      have hgb' := hgb
      subst hG'
      clear rw4 e4 b4
      go_upto_region 6 with fail
      have e7 := e6.drew
      have b7 := b6.drew
      have s7 : Boxed2 w6.drew Z 52 (.int .i64 p1) (.int .i64 p2) := s6
      have rw7 : Rw w6.drew (B + 1) X := rw6
      have A1 := Lib.hid (show (lv Y).length = Nat.min (u - o) (N - o) by rw [lv_len, HYL.out]; show u - o = min (u - o) (N - o); omega)
      have A3 := Lib.hid (show 0 < (lv Y).length → cutA (some ⟨B + 1, 0, none⟩) o N = some ⟨B + 1, o, none⟩ ∧ ∃ ad, cutA A o c = some ad ∧ ∀ j v, (lv Y)[j]? = some v → w6.drew.cell? (ad.add j) = some v from fun hpos => ⟨cutA_pos (by omega), src_of (l := Y) (n := u - o) (by rw [← HY.out]; exact ((hbk b7).cut2 hun (by omega)).rd) (by omega)⟩)
      have A4 := Lib.hid (show o + (lv Y).length ≤ (lv X).length by rw [lv_len, lv_len, HXL.out, HYL.out]; omega)
      refine wp_region_tail 20 21 (fun w' : World => w'.cell? ⟨B, 0, none⟩ = some (.int .i64 base) ∧ w'.cell? ⟨B, 1, none⟩ = some (.slice A n c) ∧ w'.cell? ⟨Z, 0, none⟩ = some (.int .i64 p1) ∧ w'.cell? ⟨Z, 1, none⟩ = some (.int .i64 p2)) (by kernel_rfl) (by rfl) (by decide) ?_
      have HS : ((fun w' : World => w'.cell? ⟨B, 0, none⟩ = some (.int .i64 base) ∧ w'.cell? ⟨B, 1, none⟩ = some (.slice A n c) ∧ w'.cell? ⟨Z, 0, none⟩ = some (.int .i64 p1) ∧ w'.cell? ⟨Z, 1, none⟩ = some (.int .i64 p2))) _ := ⟨e7.cell 0 rfl, e7.cell 1 rfl, s7.fst, s7.snd⟩
      refine wpAnyT_take (i := 0) (v := ?vv8) rfl (by kernel_rfl) (fun _ _ _ h => h) (Or.inl ⟨by rfl, fun w hSw => ?yy8⟩) HS ?rr8
      case yy8 =>
        (try dsimp only at hSw); go_simp
        try with_reducible rfl
      try simp only [Act.put, List.setIfInBounds_toArray, List.set_cons_zero, List.set_cons_succ]
      refine wpAnyT_take (i := 1) (v := ?vv9) rfl (by kernel_rfl) (fun _ _ _ h => h) (Or.inl ⟨by rfl, fun w hSw => ?yy9⟩) HS ?rr9
      case yy9 =>
        (try dsimp only at hSw); go_simp
        try with_reducible rfl
      try simp only [Act.put, List.setIfInBounds_toArray, List.set_cons_zero, List.set_cons_succ]
      refine wpAnyT_take (i := 2) (v := ?vv10) rfl (by kernel_rfl) (fun _ _ _ h => h) (Or.inl ⟨by rfl, fun w hSw => ?yy10⟩) HS ?rr10
      case yy10 =>
        (try dsimp only at hSw); go_simp
        try with_reducible rfl
      try simp only [Act.put, List.setIfInBounds_toArray, List.set_cons_zero, List.set_cons_succ]
      refine wpAnyT_take (i := 3) (v := ?vv11) rfl (by kernel_rfl) (fun _ _ _ h => h) (Or.inl ⟨by rfl, fun w hSw => ?yy11⟩) HS ?rr11
      case yy11 =>
        (try dsimp only at hSw); go_simp
        try with_reducible rfl
      try simp only [Act.put, List.setIfInBounds_toArray, List.set_cons_zero, List.set_cons_succ]
      refine wpAnyT_take (i := 4) (v := ?vv12) rfl (by kernel_rfl) (fun _ _ _ h => h) (Or.inl ⟨by rfl, fun w hSw => ?yy12⟩) HS ?rr12
      case yy12 =>
        (try dsimp only at hSw); go_simp
        try with_reducible rfl
      try simp only [Act.put, List.setIfInBounds_toArray, List.set_cons_zero, List.set_cons_succ]
      refine wpAnyT_take (i := 5) (v := ?vv13) rfl (by kernel_rfl) (fun _ _ _ h => h) (Or.inl ⟨by rfl, fun w hSw => ?yy13⟩) HS ?rr13
      case yy13 =>
        (try dsimp only at hSw); go_simp
        try with_reducible rfl
      try simp only [Act.put, List.setIfInBounds_toArray, List.set_cons_zero, List.set_cons_succ]
      refine wpAnyT_take (i := 6) (v := ?vv14) rfl (by kernel_rfl) (fun _ _ _ h => h) (Or.inl ⟨by rfl, fun w hSw => ?yy14⟩) HS ?rr14
      case yy14 =>
        (try dsimp only at hSw); go_simp
        try with_reducible rfl
      try simp only [Act.put, List.setIfInBounds_toArray, List.set_cons_zero, List.set_cons_succ]
      refine wpAnyT_take (i := 7) (v := ?vv15) rfl (by kernel_rfl) (fun _ _ _ h => h) (Or.inl ⟨by rfl, fun w hSw => ?yy15⟩) HS ?rr15
      case yy15 =>
        (try dsimp only at hSw); go_simp
        try with_reducible rfl
      try simp only [Act.put, List.setIfInBounds_toArray, List.set_cons_zero, List.set_cons_succ]
      refine wpAnyT_take (i := 8) (v := ?vv16) rfl (by kernel_rfl) (fun _ _ _ h => h) (Or.inl ⟨by rfl, fun w hSw => ?yy16⟩) HS ?rr16
      case yy16 =>
        (try dsimp only at hSw); go_simp
        try with_reducible rfl
      try simp only [Act.put, List.setIfInBounds_toArray, List.set_cons_zero, List.set_cons_succ]
      refine wpAnyT_take (i := 9) (v := ?vv17) rfl (by kernel_rfl) (fun _ _ _ h => h) (Or.inl ⟨by rfl, fun w hSw => ?yy17⟩) HS ?rr17
      case yy17 =>
        (try dsimp only at hSw); go_simp
        try with_reducible rfl
      try simp only [Act.put, List.setIfInBounds_toArray, List.set_cons_zero, List.set_cons_succ]
      refine wpAnyT_take (i := 10) (v := ?vv18) rfl (by kernel_rfl) (fun _ _ _ h => h) (Or.inl ⟨by rfl, fun w hSw => ?yy18⟩) HS ?rr18
      case yy18 =>
        (try dsimp only at hSw); go_simp
        try with_reducible rfl
      try simp only [Act.put, List.setIfInBounds_toArray, List.set_cons_zero, List.set_cons_succ]
      refine wpAnyT_take (i := 11) (v := ?vv19) rfl (by kernel_rfl) (fun _ _ _ h => h) (Or.inl ⟨by rfl, fun w hSw => ?yy19⟩) HS ?rr19
      case yy19 =>
        (try dsimp only at hSw); go_simp
        try with_reducible rfl
      try simp only [Act.put, List.setIfInBounds_toArray, List.set_cons_zero, List.set_cons_succ]
      refine wpAnyT_take (i := 12) (v := ?vv20) rfl (by kernel_rfl) (fun _ _ _ h => h) (Or.inl ⟨by rfl, fun w hSw => ?yy20⟩) HS ?rr20
      case yy20 =>
        (try dsimp only at hSw); go_simp
        try with_reducible rfl
      try simp only [Act.put, List.setIfInBounds_toArray, List.set_cons_zero, List.set_cons_succ]
      refine wpAnyT_take (i := 13) (v := ?vv21) rfl (by kernel_rfl) (fun _ _ _ h => h) (Or.inl ⟨by rfl, fun w hSw => ?yy21⟩) HS ?rr21
      case yy21 =>
        (try dsimp only at hSw); go_simp
        try with_reducible rfl
      try simp only [Act.put, List.setIfInBounds_toArray, List.set_cons_zero, List.set_cons_succ]
      refine wpAnyT_take (i := 14) (v := ?vv22) rfl (by kernel_rfl) (fun _ _ _ h => h) (Or.inl ⟨by rfl, fun w hSw => ?yy22⟩) HS ?rr22
      case yy22 =>
        (try dsimp only at hSw); go_simp
        try with_reducible rfl
      try simp only [Act.put, List.setIfInBounds_toArray, List.set_cons_zero, List.set_cons_succ]
      refine wpAnyT_take (i := 15) (v := ?vv23) rfl (by kernel_rfl) (fun _ _ _ h => h) (Or.inl ⟨by rfl, fun w hSw => ?yy23⟩) HS ?rr23
      case yy23 =>
        (try dsimp only at hSw); go_simp
        try with_reducible rfl
      try simp only [Act.put, List.setIfInBounds_toArray, List.set_cons_zero, List.set_cons_succ]
      refine wpAnyT_take (i := 16) (v := ?vv24) rfl (by kernel_rfl) (fun _ _ _ h => h) (Or.inl ⟨by rfl, fun w hSw => ?yy24⟩) HS ?rr24
      case yy24 =>
        (try dsimp only at hSw); go_simp
        try with_reducible rfl
      try simp only [Act.put, List.setIfInBounds_toArray, List.set_cons_zero, List.set_cons_succ]
      refine wpAnyT_take (i := 17) (v := ?vv25) rfl (by kernel_rfl) (fun _ _ _ h => h) (Or.inl ⟨by rfl, fun w hSw => ?yy25⟩) HS ?rr25
      case yy25 =>
        (try dsimp only at hSw); go_simp
        try with_reducible rfl
      try simp only [Act.put, List.setIfInBounds_toArray, List.set_cons_zero, List.set_cons_succ]
      refine wpAnyT_take (i := 18) (v := ?vv26) rfl (by kernel_rfl) (fun _ _ _ h => h) (Or.inl ⟨by rfl, fun w hSw => ?yy26⟩) HS ?rr26
      case yy26 =>
        (try dsimp only at hSw); go_simp
        try with_reducible rfl
      try simp only [Act.put, List.setIfInBounds_toArray, List.set_cons_zero, List.set_cons_succ]
      refine wpAnyT_take (i := 19) (v := ?vv27) rfl (by kernel_rfl) (fun _ _ _ h => h) (Or.inl ⟨by rfl, fun w hSw => ?yy27⟩) HS ?rr27
      case yy27 =>
        (try dsimp only at hSw); go_simp
        try with_reducible rfl
      try simp only [Act.put, List.setIfInBounds_toArray, List.set_cons_zero, List.set_cons_succ]
      refine ⟨by kernel_rfl, ?_⟩
      simp only [List.drop_succ_cons, List.drop_zero]
      clear HS
      refine wpList_copy_splice rfl (.tmp 43) (.tmp 56) 22 22 rfl 5 Try.underlying22 size_u8 _ _ _ _ _ _ rfl rfl (B + 1) o (lv X) 5 rw7.eq (lv Y) A1.out A3.out A4.out (lv_one _) (B + 1) w6.drew (Below.refl _ _) (Nat.le_refl _) ?_
      intro w8 HG8 hB8
      have rw8 : Rw w8 (B + 1) (wovB gl (k + 1) base bl l2 f N) := by
        have := HG8.out
        rw [lv_splice, HN.out] at this
        exact this
      have e8 := e7.below hB8 (by omega)
      have b8 := b7.trans (hB8.mono (by omega))
      clear HG8 hB8 hcutR hcutS
      go_wp2_with fail
      go_roundw
      case rel => exact ⟨k + 1, by omega, by go_num, rw8, e8, b8⟩
      case measure => simp [intOf]; omega
    · obtain rfl : m = k := by omega
      go_wp2_with fail
      go_ret
      exact ⟨some ⟨B + 1, 0, none⟩, N, rfl, by rw [hgl]; exact rw4.sb (by omega) (wov_len _ _ _ _ _ _ _) (wov_small hb.rd.small hb2.rd.small) (by omega), b4⟩
end Go.Proofs.Ytgiknfmagmfniaa
