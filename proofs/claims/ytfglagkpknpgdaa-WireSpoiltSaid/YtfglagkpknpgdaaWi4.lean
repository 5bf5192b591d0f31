/- The landed package wire: structs of fifteen cells at once; segment as a contract of the call. -/
import Derived.Test.YtfglagkpknpgdaaProg
import Derived.Test.YtfglagkpknpgdaaWi3
import Derived.WalkKit
import Derived.WalkSpells
import Derived.WalkSmall
import Derived.Lib.Hide
import Derived.Below
import Derived.Outline
import Derived.Laws.Tables
import Derived.Laws.Rows
namespace Go.Proofs.Ytfglagkpknpgdaa
open Go.RowKit
set_option linter.unusedVariables false
set_option linter.unusedSimpArgs false

theorem info_seg : (Try.prog.info? 26).map (·.size) = some 15 := by kernel_rfl
theorem seg_struct : ∃ fs, Try.prog.underlying 26 = some (.struct fs) := ⟨_, Try.underlying26⟩
section
variable {W : World} {B : Nat} {t : TypeId} {cs : List Value}
theorem Bx.put (h : Bx W B t cs) (vs : List Value) : Bx (W.setRow B vs.toArray) B t vs := setRow_heap W B _ vs.toArray t (0, 0) h
theorem grown_put (W : World) (B : Nat) (vs : Array Value) : W.grownBy (W.setRow B vs) (some B) :=
  ⟨rfl, rfl, rfl, by simp [World.setRow], fun i _ hne => setRow_other W B i vs (fun e => hne (by rw [e]))⟩
/-- a whole segment is loaded, in a plain region -/
theorem Bx.stepLoad {ops : Array Oper} {rest : List Oper} {o : Oper} {a : Act} {Q : Exit → Act → World → Prop} (hgd : o.guard = none) (x : Operand) (ho : o.op = .load 26 x) (hx : a.eval x = .pointer (some ⟨B, 0, none⟩))
    (h : Bx W B t cs) (hl : cs.length = 15) (k : wpList Try.prog ops Q rest (a.put o.dst (.agg cs.toArray)) W) : wpList Try.prog ops Q (o :: rest) a W := by
  obtain ⟨fs, hu⟩ := seg_struct
  exact wpList_load_row hgd _ x ho B hx t cs.toArray (0, 0) _ h hu rfl (by rw [info_seg]; simp [hl]) k
/-- a whole segment is stored -/
theorem Bx.stepStore {ops : Array Oper} {rest : List Oper} {o : Oper} {a : Act} {Q : Exit → Act → World → Prop} (hgd : o.guard = none) (x y : Operand) (ho : o.op = .store 26 x y) (hx : a.eval x = .pointer (some ⟨B, 0, none⟩))
    (vs : List Value) (hy : a.eval y = .agg vs.toArray) (h : Bx W B t cs) (hl : cs.length = 15) (hv : vs.length = 15) (h1 : vs.all (·.oneCell') = true) (k : wpList Try.prog ops Q rest (a.put o.dst undef) (W.setRow B vs.toArray)) : wpList Try.prog ops Q (o :: rest) a W :=
  wpList_store_row hgd _ x y ho B vs.toArray hx hy t cs.toArray h (by rw [info_seg]; simp [hv]) (by simp [hl, hv]) (by simpa using h1) k
end

/-- a slice of bytes that lie below bs -/
structure Su (w : World) (bs : Nat) (A : Option Addr) (n c : Nat) (l : List Int) : Prop where
  sl : Sl w A n c l
  lo : 0 < n → ∀ b o, A = some ⟨b, o, none⟩ → b < bs
theorem Su.grown {w w' : World} {bs : Nat} {A : Option Addr} {n c : Nat} {l : List Int} {r : Option Nat} (h : Su w bs A n c l) (hf : w.grownBy w' r) (hr : ∀ k, r = some k → bs ≤ k) : Su w' bs A n c l := by
  refine ⟨⟨h.sl.le, h.sl.big, h.sl.nil, h.sl.rd.len, h.sl.rd.small, fun hn => ?_⟩, h.lo⟩
  obtain ⟨b, o, e, hl, hc⟩ := h.sl.rd.at_ hn
  refine ⟨b, o, e, Nat.lt_of_lt_of_le hl hf.size, fun i hi => ?_⟩
  rw [← hc i hi]
  exact World.cell?_of_block (hf.block b hl (fun hk => by have := hr b hk.symm; have := h.lo hn b o e; omega))
theorem Su.keep {w w' : World} {bs : Nat} {A : Option Addr} {n c : Nat} {l : List Int} (h : Su w bs A n c l) (hb : Below w.heap.size w w') : Su w' bs A n c l := ⟨h.sl.keep hb, h.lo⟩
theorem Sc.keep {w w' : World} {base : Nat} {R : Option Addr} {m d : Nat} {l : List Pr} (h : Sc w base R m d l) (hb : Below w.heap.size w w') : Sc w' base R m d l := ⟨h.sr.keep hb, h.hi⟩

theorem and1 (y : Int) : bits .and .i64 y 1 = y % 2 := by
  have h1 : (BitVec.ofInt 64 1).toNat = 2 ^ 1 - 1 := by decide
  have key : (BitVec.ofInt 64 y &&& BitVec.ofInt 64 1).toNat = (y % ((2 ^ 64 : Nat) : Int)).toNat % 2 ^ 1 := by
    rw [BitVec.toNat_and, BitVec.toNat_ofInt, h1, Nat.and_two_pow_sub_one_eq_mod]
  show IntKind.i64.wrap ((BitVec.ofInt 64 y &&& BitVec.ofInt 64 1).toNat : Nat) = y % 2
  rw [key, IntKind.wrap_i64]
  omega
theorem and2_all : ((List.range 256).all fun n => decide (bits .and .i64 (n : Int) 2 = 2 * ((n : Int) / 2 % 2))) = true := by kernel_rfl
theorem and2 {y : Int} (h0 : 0 ≤ y) (h1 : y < 256) : bits .and .i64 y 2 = 2 * (y / 2 % 2) := by
  obtain ⟨n, rfl⟩ := Int.eq_ofNat_of_zero_le h0
  have := List.all_eq_true.1 and2_all n (by simp; omega)
  exact of_decide_eq_true this
theorem ne1 (y : Int) : (y % 2 != 0) = decide (y % 2 = 1) := by
  by_cases h : y % 2 = 1
  · simp [h]
  · have : y % 2 = 0 := by omega
    simp [this]
theorem ne2 (y : Int) : (2 * (y / 2 % 2) != 0) = decide (y / 2 % 2 = 1) := by
  by_cases h : y / 2 % 2 = 1
  · simp [h]
  · have : y / 2 % 2 = 0 := by omega
    simp [this]


theorem nm1 (l : List Int) (k : Nat) : nm l k 1 = byt l k := by unfold nm nm; rw [Nat.add_zero]; omega
theorem many_cnt (l : List Int) : cntP (l.drop 31) = many l := by unfold cntP many; rw [byt_drop]
theorem nm_dropk (l : List Int) (j k : Nat) : ∀ q, nm (l.drop j) k q = nm l (j + k) q
  | 0 => rfl
  | q + 1 => by unfold nm; rw [nm_dropk l j k q, byt_drop, Nat.add_assoc]
theorem par_prs (l : List Int) : prsP (l.drop 31) (many l) = (parS l).sacks := by
  unfold prsP parS
  refine List.map_congr_left (fun i _ => ?_)
  rw [nm_dropk, nm_dropk, show 31 + (1 + 8 * i) = 32 + 8 * i by omega, show 31 + (5 + 8 * i) = 36 + 8 * i by omega]


set_option maxRecDepth 100000 in
set_option maxHeartbeats 4000000 in
theorem seg_any (B bs n : Nat) (l : List Int) (w : World) (h : Rr w B bs n l) (hbs : bs ≤ w.heap.size) (hn : n ≤ 1000000) :
    Calls Try.prog 33 #[.pointer (some ⟨B, 0, none⟩)] w fun e w' => w.grownBy w' (some B) ∧ ((¬ (32 ≤ n ∧ 32 + 8 * many l ≤ n) ∧ e = .panicked missC) ∨ ((32 ≤ n ∧ 32 + 8 * many l ≤ n) ∧ ∃ G m d A k c, e = .returned (.agg #[.int .i64 (parS l).kind, .int .i64 (parS l).sub, .bool (parS l).fin, .bool (parS l).ecn, .int .u32 (parS l).seq, .int .u32 (parS l).dsn, .int .u32 (parS l).got, .int .u32 (parS l).dgot, .int .i64 (parS l).win, .int .i64 (parS l).ace, .int .u32 (parS l).ce, .int .u32 (parS l).sent, .int .u32 (parS l).echo, .slice G m d, .slice A k c]) ∧ Sc w' w.heap.size G m d (parS l).sacks ∧ Su w' bs A k c (parS l).b)) := by
  have hsm := h.small
  have hln := h.len
  have hB := h.lt
  obtain ⟨Z, hZ⟩ : ∃ Z, w.heap.size = Z := ⟨_, rfl⟩
  rw [hZ] at hB hbs
  have hBZ : B ≠ Z := by omega
  have hBY : B ≠ Z + 1 := by omega
  have HS := Lib.hid hsm; have HL := Lib.hid hln; clear hsm hln
  have e0 : Bx ((w.alloc (.cells #[.int .i64 0, .int .i64 0, .bool false, .bool false, .int .u32 0, .int .u32 0, .int .u32 0, .int .u32 0, .int .i64 0, .int .i64 0, .int .u32 0, .int .u32 0, .int .u32 0, .slice none 0 0, .slice none 0 0] 26)).alloc (.cells #[.int .i64 0, .int .i64 0, .bool false, .bool false, .int .u32 0, .int .u32 0, .int .u32 0, .int .u32 0, .int .i64 0, .int .i64 0, .int .u32 0, .int .u32 0, .int .u32 0, .slice none 0 0, .slice none 0 0] 26)) Z 26 [.int .i64 0, .int .i64 0, .bool false, .bool false, .int .u32 0, .int .u32 0, .int .u32 0, .int .u32 0, .int .i64 0, .int .i64 0, .int .u32 0, .int .u32 0, .int .u32 0, .slice none 0 0, .slice none 0 0] := by rw [← hZ]; exact (Bx.new w 26 [.int .i64 0, .int .i64 0, .bool false, .bool false, .int .u32 0, .int .u32 0, .int .u32 0, .int .u32 0, .int .i64 0, .int .i64 0, .int .u32 0, .int .u32 0, .int .u32 0, .slice none 0 0, .slice none 0 0]).alloc _
  have y0 : Bx ((w.alloc (.cells #[.int .i64 0, .int .i64 0, .bool false, .bool false, .int .u32 0, .int .u32 0, .int .u32 0, .int .u32 0, .int .i64 0, .int .i64 0, .int .u32 0, .int .u32 0, .int .u32 0, .slice none 0 0, .slice none 0 0] 26)).alloc (.cells #[.int .i64 0, .int .i64 0, .bool false, .bool false, .int .u32 0, .int .u32 0, .int .u32 0, .int .u32 0, .int .i64 0, .int .i64 0, .int .u32 0, .int .u32 0, .int .u32 0, .slice none 0 0, .slice none 0 0] 26)) (Z + 1) 26 [.int .i64 0, .int .i64 0, .bool false, .bool false, .int .u32 0, .int .u32 0, .int .u32 0, .int .u32 0, .int .i64 0, .int .i64 0, .int .u32 0, .int .u32 0, .int .u32 0, .slice none 0 0, .slice none 0 0] := by
    have := Bx.new (w.alloc (.cells #[.int .i64 0, .int .i64 0, .bool false, .bool false, .int .u32 0, .int .u32 0, .int .u32 0, .int .u32 0, .int .i64 0, .int .i64 0, .int .u32 0, .int .u32 0, .int .u32 0, .slice none 0 0, .slice none 0 0] 26)) 26 [.int .i64 0, .int .i64 0, .bool false, .bool false, .int .u32 0, .int .u32 0, .int .u32 0, .int .u32 0, .int .i64 0, .int .i64 0, .int .u32 0, .int .u32 0, .int .u32 0, .slice none 0 0, .slice none 0 0]
    have hs : (w.alloc (.cells #[.int .i64 0, .int .i64 0, .bool false, .bool false, .int .u32 0, .int .u32 0, .int .u32 0, .int .u32 0, .int .i64 0, .int .i64 0, .int .u32 0, .int .u32 0, .int .u32 0, .slice none 0 0, .slice none 0 0] 26)).heap.size = Z + 1 := by simp [hZ]
    rw [hs] at this; exact this
  have r0 : Rr ((w.alloc (.cells #[.int .i64 0, .int .i64 0, .bool false, .bool false, .int .u32 0, .int .u32 0, .int .u32 0, .int .u32 0, .int .i64 0, .int .i64 0, .int .u32 0, .int .u32 0, .int .u32 0, .slice none 0 0, .slice none 0 0] 26)).alloc (.cells #[.int .i64 0, .int .i64 0, .bool false, .bool false, .int .u32 0, .int .u32 0, .int .u32 0, .int .u32 0, .int .i64 0, .int .i64 0, .int .u32 0, .int .u32 0, .int .u32 0, .slice none 0 0, .slice none 0 0] 26)) B bs n l := (h.alloc _).alloc _
  have g0 : w.grownBy ((w.alloc (.cells #[.int .i64 0, .int .i64 0, .bool false, .bool false, .int .u32 0, .int .u32 0, .int .u32 0, .int .u32 0, .int .i64 0, .int .i64 0, .int .u32 0, .int .u32 0, .int .u32 0, .slice none 0 0, .slice none 0 0] 26)).alloc (.cells #[.int .i64 0, .int .i64 0, .bool false, .bool false, .int .u32 0, .int .u32 0, .int .u32 0, .int .u32 0, .int .i64 0, .int .i64 0, .int .u32 0, .int .u32 0, .int .u32 0, .slice none 0 0, .slice none 0 0] 26)) (some B) := (World.grownBy_alloc _ _ _).trans (World.grownBy_alloc _ _ _)
  go_enter Try.func33, Try.ntmps33
  go_wp2_with fail
  obtain ⟨w0, hw0⟩ : ∃ w0, (w.alloc (.cells #[.int .i64 0, .int .i64 0, .bool false, .bool false, .int .u32 0, .int .u32 0, .int .u32 0, .int .u32 0, .int .i64 0, .int .i64 0, .int .u32 0, .int .u32 0, .int .u32 0, .slice none 0 0, .slice none 0 0] 26)).alloc (.cells #[.int .i64 0, .int .i64 0, .bool false, .bool false, .int .u32 0, .int .u32 0, .int .u32 0, .int .u32 0, .int .i64 0, .int .i64 0, .int .u32 0, .int .u32 0, .int .u32 0, .slice none 0 0, .slice none 0 0] 26) = w0 := ⟨_, rfl⟩

  rw [hw0] at e0 y0 r0 g0 ⊢
  clear hw0 h
  by_cases c1 : n < 1
  · refine (num_short B bs n 1 _ _ r0 c1).mono ?_
    rintro e w1 ⟨rfl, rfl⟩
    go_wp2_with fail
    exact ⟨rfl, g0, Or.inl ⟨by omega, rfl⟩⟩
  obtain ⟨m1, hm1⟩ : ∃ m, n = m + 1 := ⟨n - 1, by omega⟩
  rw [hm1] at r0
  refine (num_some B bs m1 1 _ _ r0 (by omega)).mono ?_
  rintro e w1 ⟨rfl, r1, g1⟩
  have e1 := e0.grown g1 (fun h => hBZ (by cases h; rfl))
  have y1 := y0.grown g1 (fun h => hBY (by cases h; rfl))
  have g1 := g0.trans g1
  have u1 := nm_small HS.out 0 (show 1 ≤ 4 by omega)
  obtain ⟨kd, hkd⟩ : ∃ x, nm l 0 1 = x := ⟨_, rfl⟩
  rw [hkd] at u1 ⊢
  obtain ⟨u1a, u1b⟩ := u1
  have v1 : kd < 256 := by rw [← hkd]; exact (nm_bd HS.out 0 1).2
  have Hkd := Lib.hid hkd; clear hkd e0 y0 r0 g0
  have z1_0 := y1.free 0; have t1_0 := y1.cell 0 rfl
  have z1_1 := y1.free 1; have t1_1 := y1.cell 1 rfl
  go_wp2_with fail
  clear z1_0 t1_0 z1_1 t1_1
  have e1 := ((e1.far (p := ⟨Z + 1, 0, none⟩) (by simp) (.int .i64 (kd / 16))).far (p := ⟨Z + 1, 1, none⟩) (by simp) (.int .i64 (kd % 16)))
  have y1 := ((y1.set 0 (.int .i64 (kd / 16))).set 1 (.int .i64 (kd % 16)))
  have r1 := ((r1.far (p := ⟨Z + 1, 0, none⟩) (by simpa using hBY) (by simp; omega) (.int .i64 (kd / 16))).far (p := ⟨Z + 1, 1, none⟩) (by simpa using hBY) (by simp; omega) (.int .i64 (kd % 16)))
  have g1 := ((g1.andThen (grown_set _ ⟨Z + 1, 0, none⟩ (.int .i64 (kd / 16))) (fun k hk => Or.inl (by cases hk; first | omega | (simp; omega)))).andThen (grown_set _ ⟨Z + 1, 1, none⟩ (.int .i64 (kd % 16))) (fun k hk => Or.inl (by cases hk; first | omega | (simp; omega))))
  simp only [List.set_cons_zero, List.set_cons_succ] at y1
  by_cases c2 : m1 < 1
  · refine (num_short B bs m1 1 _ _ r1 c2).mono ?_
    rintro e w2 ⟨rfl, rfl⟩
    go_wp2_with fail
    exact ⟨rfl, g1, Or.inl ⟨by omega, rfl⟩⟩
  obtain ⟨m2, hm2⟩ : ∃ m, m1 = m + 1 := ⟨m1 - 1, by omega⟩
  rw [hm2] at r1
  refine (num_some B bs m2 1 _ _ r1 (by omega)).mono ?_
  rintro e w2 ⟨rfl, r2, g2⟩
  rw [nm_drop]
  rw [List.drop_drop] at r2
  have e2 := e1.grown g2 (fun h => hBZ (by cases h; rfl))
  have y2 := y1.grown g2 (fun h => hBY (by cases h; rfl))
  have g2 := g1.trans g2
  have u2 := nm_small HS.out 1 (show 1 ≤ 4 by omega)
  obtain ⟨fl, hfl⟩ : ∃ x, nm l 1 1 = x := ⟨_, rfl⟩
  rw [hfl] at u2 ⊢
  obtain ⟨u2a, u2b⟩ := u2
  have v2 : fl < 256 := by rw [← hfl]; exact (nm_bd HS.out 1 1).2
  have an1 := and1 fl
  have an2 := and2 u2a v2
  have nn1 := ne1 fl
  have nn2 := ne2 fl
  obtain ⟨f1, hf1⟩ : ∃ f1, decide (fl % 2 = 1) = f1 := ⟨_, rfl⟩
  obtain ⟨f2, hf2⟩ : ∃ f2, decide (fl / 2 % 2 = 1) = f2 := ⟨_, rfl⟩
  rw [hf1] at nn1
  rw [hf2] at nn2
  have HF1 := Lib.hid hf1; have HF2 := Lib.hid hf2; clear hf1 hf2
  have Hfl := Lib.hid hfl; clear hfl e1 y1 r1 g1
  have z2_9 := y2.free 9; have t2_9 := y2.cell 9 rfl
  have z2_2 := y2.free 2; have t2_2 := y2.cell 2 rfl
  have z2_3 := y2.free 3; have t2_3 := y2.cell 3 rfl
  go_wp2_with fail
  clear z2_9 t2_9 z2_2 t2_2 z2_3 t2_3
  have e2 := (((e2.far (p := ⟨Z + 1, 9, none⟩) (by simp) (.int .i64 (fl / 4))).far (p := ⟨Z + 1, 2, none⟩) (by simp) (.bool f1)).far (p := ⟨Z + 1, 3, none⟩) (by simp) (.bool f2))
  have y2 := (((y2.set 9 (.int .i64 (fl / 4))).set 2 (.bool f1)).set 3 (.bool f2))
  have r2 := (((r2.far (p := ⟨Z + 1, 9, none⟩) (by simpa using hBY) (by simp; omega) (.int .i64 (fl / 4))).far (p := ⟨Z + 1, 2, none⟩) (by simpa using hBY) (by simp; omega) (.bool f1)).far (p := ⟨Z + 1, 3, none⟩) (by simpa using hBY) (by simp; omega) (.bool f2))
  have g2 := (((g2.andThen (grown_set _ ⟨Z + 1, 9, none⟩ (.int .i64 (fl / 4))) (fun k hk => Or.inl (by cases hk; first | omega | (simp; omega)))).andThen (grown_set _ ⟨Z + 1, 2, none⟩ (.bool f1)) (fun k hk => Or.inl (by cases hk; first | omega | (simp; omega)))).andThen (grown_set _ ⟨Z + 1, 3, none⟩ (.bool f2)) (fun k hk => Or.inl (by cases hk; first | omega | (simp; omega))))
  simp only [List.set_cons_zero, List.set_cons_succ] at y2
  clear an1 an2 nn1 nn2
  by_cases c3 : m2 < 2
  · refine (num_short B bs m2 2 _ _ r2 c3).mono ?_
    rintro e w3 ⟨rfl, rfl⟩
    go_wp2_with fail
    exact ⟨rfl, g2, Or.inl ⟨by omega, rfl⟩⟩
  obtain ⟨m3, hm3⟩ : ∃ m, m2 = m + 2 := ⟨m2 - 2, by omega⟩
  rw [hm3] at r2
  refine (num_some B bs m3 2 _ _ r2 (by omega)).mono ?_
  rintro e w3 ⟨rfl, r3, g3⟩
  rw [nm_drop]
  rw [List.drop_drop] at r3
  have e3 := e2.grown g3 (fun h => hBZ (by cases h; rfl))
  have y3 := y2.grown g3 (fun h => hBY (by cases h; rfl))
  have g3 := g2.trans g3
  have u3 := nm_small HS.out 2 (show 2 ≤ 4 by omega)
  obtain ⟨wi, hwi⟩ : ∃ x, nm l 2 2 = x := ⟨_, rfl⟩
  rw [hwi] at u3 ⊢
  obtain ⟨u3a, u3b⟩ := u3
  have Hwi := Lib.hid hwi; clear hwi e2 y2 r2 g2
  have z3_8 := y3.free 8; have t3_8 := y3.cell 8 rfl
  go_wp2_with fail
  clear z3_8 t3_8
  have e3 := (e3.far (p := ⟨Z + 1, 8, none⟩) (by simp) (.int .i64 wi))
  have y3 := (y3.set 8 (.int .i64 wi))
  have r3 := (r3.far (p := ⟨Z + 1, 8, none⟩) (by simpa using hBY) (by simp; omega) (.int .i64 wi))
  have g3 := (g3.andThen (grown_set _ ⟨Z + 1, 8, none⟩ (.int .i64 wi)) (fun k hk => Or.inl (by cases hk; first | omega | (simp; omega))))
  simp only [List.set_cons_zero, List.set_cons_succ] at y3
  by_cases c4 : m3 < 4
  · refine (num_short B bs m3 4 _ _ r3 c4).mono ?_
    rintro e w4 ⟨rfl, rfl⟩
    go_wp2_with fail
    exact ⟨rfl, g3, Or.inl ⟨by omega, rfl⟩⟩
  obtain ⟨m4, hm4⟩ : ∃ m, m3 = m + 4 := ⟨m3 - 4, by omega⟩
  rw [hm4] at r3
  refine (num_some B bs m4 4 _ _ r3 (by omega)).mono ?_
  rintro e w4 ⟨rfl, r4, g4⟩
  rw [nm_drop]
  rw [List.drop_drop] at r4
  have e4 := e3.grown g4 (fun h => hBZ (by cases h; rfl))
  have y4 := y3.grown g4 (fun h => hBY (by cases h; rfl))
  have g4 := g3.trans g4
  have u4 := nm_small HS.out 4 (show 4 ≤ 4 by omega)
  obtain ⟨sq, hsq⟩ : ∃ x, nm l 4 4 = x := ⟨_, rfl⟩
  rw [hsq] at u4 ⊢
  obtain ⟨u4a, u4b⟩ := u4
  have Hsq := Lib.hid hsq; clear hsq e3 y3 r3 g3
  have z4_4 := y4.free 4; have t4_4 := y4.cell 4 rfl
  go_wp2_with fail
  clear z4_4 t4_4
  have e4 := (e4.far (p := ⟨Z + 1, 4, none⟩) (by simp) (.int .u32 sq))
  have y4 := (y4.set 4 (.int .u32 sq))
  have r4 := (r4.far (p := ⟨Z + 1, 4, none⟩) (by simpa using hBY) (by simp; omega) (.int .u32 sq))
  have g4 := (g4.andThen (grown_set _ ⟨Z + 1, 4, none⟩ (.int .u32 sq)) (fun k hk => Or.inl (by cases hk; first | omega | (simp; omega))))
  simp only [List.set_cons_zero, List.set_cons_succ] at y4
  by_cases c5 : m4 < 4
  · refine (num_short B bs m4 4 _ _ r4 c5).mono ?_
    rintro e w5 ⟨rfl, rfl⟩
    go_wp2_with fail
    exact ⟨rfl, g4, Or.inl ⟨by omega, rfl⟩⟩
  obtain ⟨m5, hm5⟩ : ∃ m, m4 = m + 4 := ⟨m4 - 4, by omega⟩
  rw [hm5] at r4
  refine (num_some B bs m5 4 _ _ r4 (by omega)).mono ?_
  rintro e w5 ⟨rfl, r5, g5⟩
  rw [nm_drop]
  rw [List.drop_drop] at r5
  have e5 := e4.grown g5 (fun h => hBZ (by cases h; rfl))
  have y5 := y4.grown g5 (fun h => hBY (by cases h; rfl))
  have g5 := g4.trans g5
  have u5 := nm_small HS.out 8 (show 4 ≤ 4 by omega)
  obtain ⟨ds, hds⟩ : ∃ x, nm l 8 4 = x := ⟨_, rfl⟩
  rw [hds] at u5 ⊢
  obtain ⟨u5a, u5b⟩ := u5
  have Hds := Lib.hid hds; clear hds e4 y4 r4 g4
  have z5_5 := y5.free 5; have t5_5 := y5.cell 5 rfl
  go_wp2_with fail
  clear z5_5 t5_5
  have e5 := (e5.far (p := ⟨Z + 1, 5, none⟩) (by simp) (.int .u32 ds))
  have y5 := (y5.set 5 (.int .u32 ds))
  have r5 := (r5.far (p := ⟨Z + 1, 5, none⟩) (by simpa using hBY) (by simp; omega) (.int .u32 ds))
  have g5 := (g5.andThen (grown_set _ ⟨Z + 1, 5, none⟩ (.int .u32 ds)) (fun k hk => Or.inl (by cases hk; first | omega | (simp; omega))))
  simp only [List.set_cons_zero, List.set_cons_succ] at y5
  by_cases c6 : m5 < 4
  · refine (num_short B bs m5 4 _ _ r5 c6).mono ?_
    rintro e w6 ⟨rfl, rfl⟩
    go_wp2_with fail
    exact ⟨rfl, g5, Or.inl ⟨by omega, rfl⟩⟩
  obtain ⟨m6, hm6⟩ : ∃ m, m5 = m + 4 := ⟨m5 - 4, by omega⟩
  rw [hm6] at r5
  refine (num_some B bs m6 4 _ _ r5 (by omega)).mono ?_
  rintro e w6 ⟨rfl, r6, g6⟩
  rw [nm_drop]
  rw [List.drop_drop] at r6
  have e6 := e5.grown g6 (fun h => hBZ (by cases h; rfl))
  have y6 := y5.grown g6 (fun h => hBY (by cases h; rfl))
  have g6 := g5.trans g6
  have u6 := nm_small HS.out 12 (show 4 ≤ 4 by omega)
  obtain ⟨go, hgo⟩ : ∃ x, nm l 12 4 = x := ⟨_, rfl⟩
  rw [hgo] at u6 ⊢
  obtain ⟨u6a, u6b⟩ := u6
  have Hgo := Lib.hid hgo; clear hgo e5 y5 r5 g5
  have z6_6 := y6.free 6; have t6_6 := y6.cell 6 rfl
  go_wp2_with fail
  clear z6_6 t6_6
  have e6 := (e6.far (p := ⟨Z + 1, 6, none⟩) (by simp) (.int .u32 go))
  have y6 := (y6.set 6 (.int .u32 go))
  have r6 := (r6.far (p := ⟨Z + 1, 6, none⟩) (by simpa using hBY) (by simp; omega) (.int .u32 go))
  have g6 := (g6.andThen (grown_set _ ⟨Z + 1, 6, none⟩ (.int .u32 go)) (fun k hk => Or.inl (by cases hk; first | omega | (simp; omega))))
  simp only [List.set_cons_zero, List.set_cons_succ] at y6
  by_cases c7 : m6 < 4
  · refine (num_short B bs m6 4 _ _ r6 c7).mono ?_
    rintro e w7 ⟨rfl, rfl⟩
    go_wp2_with fail
    exact ⟨rfl, g6, Or.inl ⟨by omega, rfl⟩⟩
  obtain ⟨m7, hm7⟩ : ∃ m, m6 = m + 4 := ⟨m6 - 4, by omega⟩
  rw [hm7] at r6
  refine (num_some B bs m7 4 _ _ r6 (by omega)).mono ?_
  rintro e w7 ⟨rfl, r7, g7⟩
  rw [nm_drop]
  rw [List.drop_drop] at r7
  have e7 := e6.grown g7 (fun h => hBZ (by cases h; rfl))
  have y7 := y6.grown g7 (fun h => hBY (by cases h; rfl))
  have g7 := g6.trans g7
  have u7 := nm_small HS.out 16 (show 4 ≤ 4 by omega)
  obtain ⟨dg, hdg⟩ : ∃ x, nm l 16 4 = x := ⟨_, rfl⟩
  rw [hdg] at u7 ⊢
  obtain ⟨u7a, u7b⟩ := u7
  have Hdg := Lib.hid hdg; clear hdg e6 y6 r6 g6
  have z7_7 := y7.free 7; have t7_7 := y7.cell 7 rfl
  go_wp2_with fail
  clear z7_7 t7_7
  have e7 := (e7.far (p := ⟨Z + 1, 7, none⟩) (by simp) (.int .u32 dg))
  have y7 := (y7.set 7 (.int .u32 dg))
  have r7 := (r7.far (p := ⟨Z + 1, 7, none⟩) (by simpa using hBY) (by simp; omega) (.int .u32 dg))
  have g7 := (g7.andThen (grown_set _ ⟨Z + 1, 7, none⟩ (.int .u32 dg)) (fun k hk => Or.inl (by cases hk; first | omega | (simp; omega))))
  simp only [List.set_cons_zero, List.set_cons_succ] at y7
  by_cases c8 : m7 < 3
  · refine (num_short B bs m7 3 _ _ r7 c8).mono ?_
    rintro e w8 ⟨rfl, rfl⟩
    go_wp2_with fail
    exact ⟨rfl, g7, Or.inl ⟨by omega, rfl⟩⟩
  obtain ⟨m8, hm8⟩ : ∃ m, m7 = m + 3 := ⟨m7 - 3, by omega⟩
  rw [hm8] at r7
  refine (num_some B bs m8 3 _ _ r7 (by omega)).mono ?_
  rintro e w8 ⟨rfl, r8, g8⟩
  rw [nm_drop]
  rw [List.drop_drop] at r8
  have e8 := e7.grown g8 (fun h => hBZ (by cases h; rfl))
  have y8 := y7.grown g8 (fun h => hBY (by cases h; rfl))
  have g8 := g7.trans g8
  have u8 := nm_small HS.out 20 (show 3 ≤ 4 by omega)
  obtain ⟨ce, hce⟩ : ∃ x, nm l 20 3 = x := ⟨_, rfl⟩
  rw [hce] at u8 ⊢
  obtain ⟨u8a, u8b⟩ := u8
  have Hce := Lib.hid hce; clear hce e7 y7 r7 g7
  have z8_10 := y8.free 10; have t8_10 := y8.cell 10 rfl
  go_wp2_with fail
  clear z8_10 t8_10
  have e8 := (e8.far (p := ⟨Z + 1, 10, none⟩) (by simp) (.int .u32 ce))
  have y8 := (y8.set 10 (.int .u32 ce))
  have r8 := (r8.far (p := ⟨Z + 1, 10, none⟩) (by simpa using hBY) (by simp; omega) (.int .u32 ce))
  have g8 := (g8.andThen (grown_set _ ⟨Z + 1, 10, none⟩ (.int .u32 ce)) (fun k hk => Or.inl (by cases hk; first | omega | (simp; omega))))
  simp only [List.set_cons_zero, List.set_cons_succ] at y8
  by_cases c9 : m8 < 4
  · refine (num_short B bs m8 4 _ _ r8 c9).mono ?_
    rintro e w9 ⟨rfl, rfl⟩
    go_wp2_with fail
    exact ⟨rfl, g8, Or.inl ⟨by omega, rfl⟩⟩
  obtain ⟨m9, hm9⟩ : ∃ m, m8 = m + 4 := ⟨m8 - 4, by omega⟩
  rw [hm9] at r8
  refine (num_some B bs m9 4 _ _ r8 (by omega)).mono ?_
  rintro e w9 ⟨rfl, r9, g9⟩
  rw [nm_drop]
  rw [List.drop_drop] at r9
  have e9 := e8.grown g9 (fun h => hBZ (by cases h; rfl))
  have y9 := y8.grown g9 (fun h => hBY (by cases h; rfl))
  have g9 := g8.trans g9
  have u9 := nm_small HS.out 23 (show 4 ≤ 4 by omega)
  obtain ⟨at_, hat_⟩ : ∃ x, nm l 23 4 = x := ⟨_, rfl⟩
  rw [hat_] at u9 ⊢
  obtain ⟨u9a, u9b⟩ := u9
  have Hat_ := Lib.hid hat_; clear hat_ e8 y8 r8 g8
  have z9_11 := y9.free 11; have t9_11 := y9.cell 11 rfl
  go_wp2_with fail
  clear z9_11 t9_11
  have e9 := (e9.far (p := ⟨Z + 1, 11, none⟩) (by simp) (.int .u32 at_))
  have y9 := (y9.set 11 (.int .u32 at_))
  have r9 := (r9.far (p := ⟨Z + 1, 11, none⟩) (by simpa using hBY) (by simp; omega) (.int .u32 at_))
  have g9 := (g9.andThen (grown_set _ ⟨Z + 1, 11, none⟩ (.int .u32 at_)) (fun k hk => Or.inl (by cases hk; first | omega | (simp; omega))))
  simp only [List.set_cons_zero, List.set_cons_succ] at y9
  by_cases c10 : m9 < 4
  · refine (num_short B bs m9 4 _ _ r9 c10).mono ?_
    rintro e w10 ⟨rfl, rfl⟩
    go_wp2_with fail
    exact ⟨rfl, g9, Or.inl ⟨by omega, rfl⟩⟩
  obtain ⟨m10, hm10⟩ : ∃ m, m9 = m + 4 := ⟨m9 - 4, by omega⟩
  rw [hm10] at r9
  refine (num_some B bs m10 4 _ _ r9 (by omega)).mono ?_
  rintro e w10 ⟨rfl, r10, g10⟩
  rw [nm_drop]
  rw [List.drop_drop] at r10
  have e10 := e9.grown g10 (fun h => hBZ (by cases h; rfl))
  have y10 := y9.grown g10 (fun h => hBY (by cases h; rfl))
  have g10 := g9.trans g10
  have u10 := nm_small HS.out 27 (show 4 ≤ 4 by omega)
  obtain ⟨ec, hec⟩ : ∃ x, nm l 27 4 = x := ⟨_, rfl⟩
  rw [hec] at u10 ⊢
  obtain ⟨u10a, u10b⟩ := u10
  have Hec := Lib.hid hec; clear hec e9 y9 r9 g9
  have z10_12 := y10.free 12; have t10_12 := y10.cell 12 rfl
  go_wp2_with fail
  clear z10_12 t10_12
  have e10 := (e10.far (p := ⟨Z + 1, 12, none⟩) (by simp) (.int .u32 ec))
  have y10 := (y10.set 12 (.int .u32 ec))
  have r10 := (r10.far (p := ⟨Z + 1, 12, none⟩) (by simpa using hBY) (by simp; omega) (.int .u32 ec))
  have g10 := (g10.andThen (grown_set _ ⟨Z + 1, 12, none⟩ (.int .u32 ec)) (fun k hk => Or.inl (by cases hk; first | omega | (simp; omega))))
  simp only [List.set_cons_zero, List.set_cons_succ] at y10
  refine (pairs_any B bs m10 _ _ r10 (by have := e10.lt; omega) (by omega)).mono ?_
  rintro e w11 ⟨g11, hcase⟩
  rw [many_cnt] at hcase
  rcases hcase with ⟨hs, rfl⟩ | ⟨hs, G, mm, d, rfl, sp, r11⟩
  · clear e10 y10 r10
    go_wp2_with fail
    exact ⟨rfl, g10.trans g11, Or.inl ⟨by omega, rfl⟩⟩
  rw [par_prs] at sp
  rw [List.drop_drop] at r11
  have e11 := e10.grown g11 (fun h => hBZ (by cases h; rfl))
  have y11 := y10.grown g11 (fun h => hBY (by cases h; rfl))
  have sp := sp.mono (show Z + 2 ≤ _ by have := y10.lt; omega)
  have g11 := g10.trans g11
  have z13 := y11.free 13; have t13 := y11.cell 13 rfl
  have e12 := e11.far (p := ⟨Z + 1, 13, none⟩) (by simp) (.slice G mm d)
  have y12 := y11.set 13 (.slice G mm d)
  have r12 := r11.far (p := ⟨Z + 1, 13, none⟩) (by simpa using hBY) (by simp; omega) (.slice G mm d)
  have g12 := g11.andThen (grown_set _ ⟨Z + 1, 13, none⟩ (.slice G mm d)) (fun k hk => Or.inl (by cases hk; first | omega | (simp; omega)))
  have sp2 := sp.grown (grown_set _ ⟨Z + 1, 13, none⟩ (.slice G mm d)) (fun k hk => by cases hk; show Z + 1 < Z + 2; omega)
  simp only [List.set_cons_zero, List.set_cons_succ] at y12
  clear e10 y10 r10 g10 e11 y11 r11 g11 sp
  obtain ⟨M, hM⟩ : ∃ M, m10 - (1 + 8 * many l) = M := ⟨_, rfl⟩
  rw [hM] at r12
  obtain ⟨A, c, hA, sA, lA⟩ := r12
  have cB := hA.cell 0 rfl
  go_wp2_with fail
  clear z13 t13 cB
  obtain ⟨dd, rfl⟩ : ∃ dd, c = dd + M := ⟨c - M, by have := sA.le; omega⟩
  refine (take_some B A 0 dd M _ (by rw [Nat.zero_add]; exact hA) (Nat.zero_le _)).mono ?_
  rintro e w12 ⟨rfl, hw12⟩
  have e13 := e12.far (p := ⟨B, 0, none⟩) (Ne.symm hBZ) (.slice (cutA A M (dd + M)) 0 dd)
  have y13 := y12.far (p := ⟨B, 0, none⟩) (Ne.symm hBY) (.slice (cutA A M (dd + M)) 0 dd)
  have s13 := sA.setB hA (.slice (cutA A M (dd + M)) 0 dd)
  have g13 := g12.trans (grown_set _ ⟨B, 0, none⟩ (.slice (cutA A M (dd + M)) 0 dd))
  have sp3 := sp2.grown (grown_set _ ⟨B, 0, none⟩ (.slice (cutA A M (dd + M)) 0 dd)) (fun k hk => by cases hk; show B < Z + 2; omega)
  rw [hw12] at e13 y13 s13 g13 sp3
  clear hw12 e12 y12 g12 hA sA sp2
  have z14 := y13.free 14; have t14 := y13.cell 14 rfl
  have e14 := e13.far (p := ⟨Z + 1, 14, none⟩) (by simp) (.slice A M (dd + M))
  have y14 := y13.set 14 (.slice A M (dd + M))
  simp only [List.set_cons_zero, List.set_cons_succ] at y14
  have g14 := g13.andThen (grown_set _ ⟨Z + 1, 14, none⟩ (.slice A M (dd + M))) (fun k hk => Or.inl (by cases hk; first | omega | (simp; omega)))
  have g15 := g14.andThen (grown_put _ Z #[.int .i64 (kd / 16), .int .i64 (kd % 16), .bool f1, .bool f2, .int .u32 sq, .int .u32 ds, .int .u32 go, .int .u32 dg, .int .i64 wi, .int .i64 (fl / 4), .int .u32 ce, .int .u32 at_, .int .u32 ec, .slice G mm d, .slice A M (dd + M)]) (fun k hk => Or.inl (by cases hk; omega))
  have sp4 := (sp3.grown (grown_set _ ⟨Z + 1, 14, none⟩ (.slice A M (dd + M))) (fun k hk => by cases hk; show Z + 1 < Z + 2; omega)).grown (grown_put _ Z #[.int .i64 (kd / 16), .int .i64 (kd % 16), .bool f1, .bool f2, .int .u32 sq, .int .u32 ds, .int .u32 go, .int .u32 dg, .int .i64 wi, .int .i64 (fl / 4), .int .u32 ce, .int .u32 at_, .int .u32 ec, .slice G mm d, .slice A M (dd + M)]) (fun k hk => by cases hk; omega)
  have s15 : Sl (((w12.setCell ⟨Z + 1, 14, none⟩ (.slice A M (dd + M))).setRow Z #[.int .i64 (kd / 16), .int .i64 (kd % 16), .bool f1, .bool f2, .int .u32 sq, .int .u32 ds, .int .u32 go, .int .u32 dg, .int .i64 wi, .int .i64 (fl / 4), .int .u32 ce, .int .u32 at_, .int .u32 ec, .slice G mm d, .slice A M (dd + M)])) A M (dd + M) (l.drop (31 + (1 + 8 * many l))) := by
    refine ⟨s13.le, s13.big, s13.nil, s13.rd.len, s13.rd.small, fun hn => ?_⟩
    obtain ⟨b, o, e, hl, hc⟩ := s13.rd.at_ hn
    have hb := lA hn b o e
    refine ⟨b, o, e, by simpa [World.setRow] using hl, fun i hi => ?_⟩
    rw [← hc i hi]
    exact (World.cell?_of_block (setRow_other _ Z b _ (by omega))).trans (World.cell?_of_block (Below.heap_setCell _ _ _ b (show b ≠ Z + 1 by omega)))
  have o15 := e14.put [.int .i64 (kd / 16), .int .i64 (kd % 16), .bool f1, .bool f2, .int .u32 sq, .int .u32 ds, .int .u32 go, .int .u32 dg, .int .i64 wi, .int .i64 (fl / 4), .int .u32 ce, .int .u32 at_, .int .u32 ec, .slice G mm d, .slice A M (dd + M)]
  clear e13 y13 g13 g14 s13 sp3
  go_wp2_with (first | (refine Bx.stepLoad rfl (.tmp 3) rfl rfl y14 rfl ?_) | (refine Bx.stepStore rfl (.tmp 2) (.tmp 65) rfl rfl [.int .i64 (kd / 16), .int .i64 (kd % 16), .bool f1, .bool f2, .int .u32 sq, .int .u32 ds, .int .u32 go, .int .u32 dg, .int .i64 wi, .int .i64 (fl / 4), .int .u32 ce, .int .u32 at_, .int .u32 ec, .slice G mm d, .slice A M (dd + M)] rfl e14 rfl rfl rfl ?_))
  obtain ⟨fs, hfs⟩ := seg_struct
  refine bodyPost_ret (v := .agg #[.int .i64 (kd / 16), .int .i64 (kd % 16), .bool f1, .bool f2, .int .u32 sq, .int .u32 ds, .int .u32 go, .int .u32 dg, .int .i64 wi, .int .i64 (fl / 4), .int .u32 ce, .int .u32 at_, .int .u32 ec, .slice G mm d, .slice A M (dd + M)]) ?_ rfl ?_
  · exact results_cell_row (P := Try.prog) (fn := Try.f33) (p := 2) (ty := 26) (by rfl) _ _ Z _ _ (0, 0) _ (by rfl) o15 hfs rfl (by rw [info_seg]; rfl)
  refine ⟨g15, Or.inr ⟨by omega, G, mm, d, A, M, dd + M, ?_, sp4.mono (by omega), ?_, lA⟩⟩
  · have hk : kd = byt l 0 := by rw [← Hkd.out]; exact nm1 l 0
    have hf : fl = byt l 1 := by rw [← Hfl.out]; exact nm1 l 1
    rw [show (parS l).kind = kd / 16 by rw [hk]; rfl, show (parS l).sub = kd % 16 by rw [hk]; rfl, show (parS l).fin = f1 by rw [← HF1.out, hf]; rfl, show (parS l).ecn = f2 by rw [← HF2.out, hf]; rfl, show (parS l).seq = sq from Hsq.out, show (parS l).dsn = ds from Hds.out, show (parS l).got = go from Hgo.out, show (parS l).dgot = dg from Hdg.out, show (parS l).win = wi from Hwi.out, show (parS l).ace = fl / 4 by rw [hf]; rfl, show (parS l).ce = ce from Hce.out, show (parS l).sent = at_ from Hat_.out, show (parS l).echo = ec from Hec.out]
  · show Sl _ A M (dd + M) (l.drop (32 + 8 * many l))
    rw [show 32 + 8 * many l = 31 + (1 + 8 * many l) by omega]; exact s15
end Go.Proofs.Ytfglagkpknpgdaa
