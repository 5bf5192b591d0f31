/- Package wire: segments, when they are valid, their bytes, and what bytes are as a segment. No program. -/
import Derived.Test.YtfglagkpknpgdaaCk
namespace Go.Proofs.Ytfglagkpknpgdaa
set_option linter.unusedVariables false

/-- a number's bytes, the greatest first -/
def be4 (n : Int) : List Int := [n / 16777216 % 256, n / 65536 % 256, n / 256 % 256, n % 256]
def be3 (n : Int) : List Int := [n / 65536 % 256, n / 256 % 256, n % 256]
/-- a segment -/
structure Sg where
  kind : Int
  sub : Int
  fin : Bool
  ecn : Bool
  seq : Int
  dsn : Int
  got : Int
  dgot : Int
  win : Int
  ace : Int
  ce : Int
  sent : Int
  echo : Int
  sacks : List (Int × Int)
  b : List Int
def zs : Sg := ⟨0, 0, false, false, 0, 0, 0, 0, 0, 0, 0, 0, 0, [], []⟩
def smay (s : Sg) : Bool := decide (0 ≤ s.kind ∧ s.kind ≤ 4 ∧ 0 ≤ s.sub ∧ s.sub ≤ 3 ∧ 0 ≤ s.win ∧ s.win ≤ 65535 ∧ 0 ≤ s.ace ∧ s.ace ≤ 7 ∧ s.ce < 16777216 ∧ s.sacks.length ≤ 3 ∧ s.b.length ≤ 1460)
structure Sm (s : Sg) : Prop where
  kind0 : 0 ≤ s.kind
  kind1 : s.kind ≤ 4
  sub0 : 0 ≤ s.sub
  sub1 : s.sub ≤ 3
  win0 : 0 ≤ s.win
  win1 : s.win ≤ 65535
  ace0 : 0 ≤ s.ace
  ace1 : s.ace ≤ 7
  ce1 : s.ce < 16777216
  sacks : s.sacks.length ≤ 3
  bl : s.b.length ≤ 1460
theorem smay_iff (s : Sg) : smay s = true ↔ Sm s := by
  unfold smay
  rw [decide_eq_true_eq]
  exact ⟨fun ⟨a, b, c, d, e, f, g, h, i, j, k⟩ => ⟨a, b, c, d, e, f, g, h, i, j, k⟩, fun h => ⟨h.kind0, h.kind1, h.sub0, h.sub1, h.win0, h.win1, h.ace0, h.ace1, h.ce1, h.sacks, h.bl⟩⟩
theorem smay_false {s : Sg} (h : ¬ Sm s) : smay s = false := by
  cases hk : smay s with
  | false => rfl
  | true => exact absurd ((smay_iff s).1 hk) h
def U32 (n : Int) : Prop := 0 ≤ n ∧ n < 4294967296
/-- what its types say -/
structure SgW (s : Sg) : Prop where
  seq : U32 s.seq
  dsn : U32 s.dsn
  got : U32 s.got
  dgot : U32 s.dgot
  ce : U32 s.ce
  sent : U32 s.sent
  echo : U32 s.echo
  sacks : ∀ p ∈ s.sacks, U32 p.1 ∧ U32 p.2
  b : Small s.b
theorem zs_w : SgW zs :=
  have z : U32 0 := ⟨by decide, by decide⟩
  ⟨z, z, z, z, z, z, z, fun p h => absurd h (by simp [zs]), fun x h => absurd h (by simp [zs])⟩

/-! its bytes -/
def flagsS (s : Sg) : Int := 4 * s.ace + (if s.fin = true then 1 else 0) + (if s.ecn = true then 2 else 0)
def sackB (l : List (Int × Int)) : List Int := l.flatMap fun p => be4 p.1 ++ be4 p.2
def headS (s : Sg) : List Int := [16 * s.kind + s.sub, flagsS s, s.win / 256, s.win % 256] ++ (be4 s.seq ++ (be4 s.dsn ++ (be4 s.got ++ (be4 s.dgot ++ (be3 s.ce ++ (be4 s.sent ++ (be4 s.echo ++ [(s.sacks.length : Int)])))))))
def encS (s : Sg) : List Int := headS s ++ (sackB s.sacks ++ s.b)
theorem head_len (s : Sg) : (headS s).length = 32 := rfl
theorem sackB_cons (p : Int × Int) (t : List (Int × Int)) : sackB (p :: t) = be4 p.1 ++ (be4 p.2 ++ sackB t) := by unfold sackB; rw [List.flatMap_cons, List.append_assoc]
theorem sackB_len (l : List (Int × Int)) : (sackB l).length = 8 * l.length := by
  induction l with
  | nil => rfl
  | cons p t ih => rw [sackB_cons, List.length_append, List.length_append, ih, List.length_cons]; show 4 + (4 + 8 * t.length) = _; omega
theorem enc_len (s : Sg) : (encS s).length = 32 + 8 * s.sacks.length + s.b.length := by
  unfold encS; rw [List.length_append, List.length_append, head_len, sackB_len]; omega

/-! bytes as a segment -/
def nm (l : List Int) (k : Nat) : Nat → Int
  | 0 => 0
  | n + 1 => 256 * nm l k n + byt l (k + n)
theorem nm4 (l : List Int) (k : Nat) : nm l k 4 = 16777216 * byt l k + 65536 * byt l (k + 1) + 256 * byt l (k + 2) + byt l (k + 3) := by
  unfold nm nm nm nm nm; rw [Nat.add_zero]; omega
theorem nm3 (l : List Int) (k : Nat) : nm l k 3 = 65536 * byt l k + 256 * byt l (k + 1) + byt l (k + 2) := by
  unfold nm nm nm nm; rw [Nat.add_zero]; omega
theorem nm2 (l : List Int) (k : Nat) : nm l k 2 = 256 * byt l k + byt l (k + 1) := by
  unfold nm nm nm; rw [Nat.add_zero]; omega
def many (l : List Int) : Nat := (byt l 31).toNat
def parS (l : List Int) : Sg := ⟨byt l 0 / 16, byt l 0 % 16, decide (byt l 1 % 2 = 1), decide (byt l 1 / 2 % 2 = 1), nm l 4 4, nm l 8 4, nm l 12 4, nm l 16 4, nm l 2 2, byt l 1 / 4, nm l 20 3, nm l 23 4, nm l 27 4, (List.range (many l)).map fun i => (nm l (32 + 8 * i) 4, nm l (36 + 8 * i) 4), l.drop (32 + 8 * many l)⟩
def getS (l : List Int) : Sg × Int := if 32 ≤ l.length ∧ 32 + 8 * many l ≤ l.length ∧ smay (parS l) = true then (parS l, 0) else (zs, 7)
def getR (b : List Int) : Sg × Int := if 4 ≤ b.length then (if be4 (adler (b.drop 4)) = b.take 4 then getS (b.drop 4) else (zs, 8)) else (zs, 7)
def putS (s : Sg) : List Int × Int := if smay s = true then (be4 (adler (encS s)) ++ encS s, 0) else ([], 1)

theorem byt_le (a b : List Int) (i : Nat) (h : i < a.length) : byt (a ++ b) i = byt a i := by
  unfold byt; rw [List.getD_eq_getElem?_getD, List.getD_eq_getElem?_getD, List.getElem?_append_left h]
theorem byt_ge (a b : List Int) (i : Nat) : byt (a ++ b) (a.length + i) = byt b i := by
  unfold byt; rw [List.getD_eq_getElem?_getD, List.getD_eq_getElem?_getD, List.getElem?_append_right (by omega), Nat.add_sub_cancel_left]
theorem byt_sack (l : List (Int × Int)) (r : List Int) {i j : Nat} (hi : i < l.length) (hj : j < 8) : byt (sackB l ++ r) (8 * i + j) = byt (be4 (l.getD i (0, 0)).1 ++ be4 (l.getD i (0, 0)).2) j := by
  induction l generalizing i with
  | nil => simp at hi
  | cons p t ih =>
    rw [sackB_cons, List.append_assoc, List.append_assoc]
    cases i with
    | zero =>
      rw [Nat.mul_zero, Nat.zero_add, ← List.append_assoc, byt_le _ _ _ (by show j < 8; exact hj)]
      rfl
    | succ i' =>
      rw [← List.append_assoc, show 8 * (i' + 1) + j = (be4 p.1 ++ be4 p.2).length + (8 * i' + j) by show _ = 8 + (8 * i' + j); omega, byt_ge, ih (by simpa using hi)]
      rfl
theorem enc_head (s : Sg) {i : Nat} (h : i < 32) : byt (encS s) i = byt (headS s) i := byt_le _ _ _ h
theorem enc_sack (s : Sg) {i j : Nat} (hi : i < s.sacks.length) (hj : j < 8) : byt (encS s) (32 + (8 * i + j)) = byt (be4 (s.sacks.getD i (0, 0)).1 ++ be4 (s.sacks.getD i (0, 0)).2) j := by
  unfold encS
  rw [show 32 + (8 * i + j) = (headS s).length + (8 * i + j) from rfl, byt_ge, byt_sack _ _ hi hj]
theorem be4_back {n : Int} (h : U32 n) : 16777216 * (n / 16777216 % 256) + 65536 * (n / 65536 % 256) + 256 * (n / 256 % 256) + n % 256 = n := by
  unfold U32 at h; omega
theorem enc_many {s : Sg} : many (encS s) = s.sacks.length := by
  unfold many; rw [enc_head s (by omega)]; show ((s.sacks.length : Int)).toNat = _; omega
theorem par_enc {s : Sg} (hm : Sm s) (hw : SgW s) : parS (encS s) = s := by
  have e0 : byt (encS s) 0 = 16 * s.kind + s.sub := enc_head s (by omega)
  have e1 : byt (encS s) 1 = flagsS s := enc_head s (by omega)
  have k0 := hm.kind0; have k1 := hm.sub0; have k2 := hm.sub1; have k3 := hm.ace0; have k4 := hm.win0; have k5 := hm.win1
  have n4 : ∀ (k : Nat) (x : Int), U32 x → byt (encS s) k = x / 16777216 % 256 → byt (encS s) (k + 1) = x / 65536 % 256 → byt (encS s) (k + 2) = x / 256 % 256 → byt (encS s) (k + 3) = x % 256 → nm (encS s) k 4 = x := fun k x hx h0 h1 h2 h3 => by
    rw [nm4, h0, h1, h2, h3]; exact be4_back hx
  have hfin : decide (flagsS s % 2 = 1) = s.fin := by
    unfold flagsS
    cases s.fin <;> cases s.ecn <;> simp <;> omega
  have hecn : decide (flagsS s / 2 % 2 = 1) = s.ecn := by
    unfold flagsS
    cases s.fin <;> cases s.ecn <;> simp <;> omega
  have hace : flagsS s / 4 = s.ace := by
    unfold flagsS
    cases s.fin <;> cases s.ecn <;> simp <;> omega
  have hsk : ((List.range (many (encS s))).map fun i => (nm (encS s) (32 + 8 * i) 4, nm (encS s) (36 + 8 * i) 4)) = s.sacks := by
    rw [enc_many]
    refine List.ext_getElem (by simp) (fun i h1 h2 => ?_)
    rw [List.getElem_map, List.getElem_range]
    have hg : s.sacks.getD i (0, 0) = s.sacks[i] := by rw [List.getD_eq_getElem?_getD, List.getElem?_eq_getElem h2]; rfl
    have hu := hw.sacks _ (List.getElem_mem h2)
    have a := fun j (hj : j < 8) => enc_sack s h2 hj
    rw [hg] at a
    refine Prod.ext ?_ ?_
    · exact n4 _ _ hu.1 (a 0 (by omega)) (by rw [Nat.add_assoc]; exact a 1 (by omega)) (by rw [Nat.add_assoc]; exact a 2 (by omega)) (by rw [Nat.add_assoc]; exact a 3 (by omega))
    · show nm (encS s) (36 + 8 * i) 4 = _
      rw [show 36 + 8 * i = 32 + (8 * i + 4) by omega]
      exact n4 _ _ hu.2 (a 4 (by omega)) (by rw [Nat.add_assoc, Nat.add_assoc]; exact a 5 (by omega)) (by rw [Nat.add_assoc, Nat.add_assoc]; exact a 6 (by omega)) (by rw [Nat.add_assoc, Nat.add_assoc]; exact a 7 (by omega))
  have hb : (encS s).drop (32 + 8 * many (encS s)) = s.b := by
    rw [enc_many]
    unfold encS
    rw [← List.append_assoc, List.drop_append_of_le_length (by rw [List.length_append, head_len, sackB_len]; omega), List.drop_eq_nil_of_le (by rw [List.length_append, head_len, sackB_len]; omega)]
    rfl
  unfold parS
  rw [hsk, hb, e0, e1, hfin, hecn, hace, n4 4 s.seq hw.seq (enc_head s (by omega)) (enc_head s (by omega)) (enc_head s (by omega)) (enc_head s (by omega)),
    n4 8 s.dsn hw.dsn (enc_head s (by omega)) (enc_head s (by omega)) (enc_head s (by omega)) (enc_head s (by omega)),
    n4 12 s.got hw.got (enc_head s (by omega)) (enc_head s (by omega)) (enc_head s (by omega)) (enc_head s (by omega)),
    n4 16 s.dgot hw.dgot (enc_head s (by omega)) (enc_head s (by omega)) (enc_head s (by omega)) (enc_head s (by omega)),
    n4 23 s.sent hw.sent (enc_head s (by omega)) (enc_head s (by omega)) (enc_head s (by omega)) (enc_head s (by omega)),
    n4 27 s.echo hw.echo (enc_head s (by omega)) (enc_head s (by omega)) (enc_head s (by omega)) (enc_head s (by omega)),
    nm3, nm2, show byt (encS s) 20 = s.ce / 65536 % 256 from enc_head s (by omega), show byt (encS s) (20 + 1) = s.ce / 256 % 256 from enc_head s (by omega), show byt (encS s) (20 + 2) = s.ce % 256 from enc_head s (by omega), show byt (encS s) 2 = s.win / 256 from enc_head s (by omega), show byt (encS s) (2 + 1) = s.win % 256 from enc_head s (by omega)]
  have hce := hw.ce
  have hc1 := hm.ce1
  unfold U32 at hce
  rw [show (16 * s.kind + s.sub) / 16 = s.kind by omega, show (16 * s.kind + s.sub) % 16 = s.sub by omega, show 256 * (s.win / 256) + s.win % 256 = s.win by omega, show 65536 * (s.ce / 65536 % 256) + 256 * (s.ce / 256 % 256) + s.ce % 256 = s.ce by omega]
theorem get_enc {s : Sg} (hm : Sm s) (hw : SgW s) : getS (encS s) = (s, 0) := by
  unfold getS
  rw [par_enc hm hw, if_pos ⟨by rw [enc_len]; omega, by rw [enc_many, enc_len]; omega, (smay_iff s).2 hm⟩]
theorem par_len (l : List Int) : (parS l).sacks.length = many l := by unfold parS; simp
theorem head_par {l : List Int} (hs : Small l) (hm : Sm (parS l)) : ∀ i, i < 32 → byt (headS (parS l)) i = byt l i := by
  have hb := byt_bd hs
  have hfl : flagsS (parS l) = byt l 1 := by
    have h1 := hb 1
    have h2 : (parS l).ace = byt l 1 / 4 := rfl
    have h3 : (parS l).fin = decide (byt l 1 % 2 = 1) := rfl
    have h4 : (parS l).ecn = decide (byt l 1 / 2 % 2 = 1) := rfl
    unfold flagsS
    rw [h2, h3, h4]
    by_cases c1 : byt l 1 % 2 = 1 <;> by_cases c2 : byt l 1 / 2 % 2 = 1 <;> simp [c1, c2] <;> omega
  have hsl : ((parS l).sacks.length : Int) = byt l 31 := by
    have := hb 31
    rw [par_len]; unfold many; omega
  intro i hi
  match i, hi with
  | 0, _ =>
    show 16 * (byt l 0 / 16) + byt l 0 % 16 = byt l 0
    omega
  | 1, _ =>
    show flagsS (parS l) = byt l 1
    exact hfl
  | 2, _ =>
    show nm l 2 2 / 256 = byt l 2
    rw [nm2]; have := hb 2; have := hb (2 + 1); omega
  | 3, _ =>
    show nm l 2 2 % 256 = byt l (2 + 1)
    rw [nm2]; have := hb 2; have := hb (2 + 1); omega
  | 4, _ =>
    show nm l 4 4 / 16777216 % 256 = byt l 4
    rw [nm4]; have := hb 4; have := hb (4 + 1); have := hb (4 + 2); have := hb (4 + 3); omega
  | 5, _ =>
    show nm l 4 4 / 65536 % 256 = byt l (4 + 1)
    rw [nm4]; have := hb 4; have := hb (4 + 1); have := hb (4 + 2); have := hb (4 + 3); omega
  | 6, _ =>
    show nm l 4 4 / 256 % 256 = byt l (4 + 2)
    rw [nm4]; have := hb 4; have := hb (4 + 1); have := hb (4 + 2); have := hb (4 + 3); omega
  | 7, _ =>
    show nm l 4 4 % 256 = byt l (4 + 3)
    rw [nm4]; have := hb 4; have := hb (4 + 1); have := hb (4 + 2); have := hb (4 + 3); omega
  | 8, _ =>
    show nm l 8 4 / 16777216 % 256 = byt l 8
    rw [nm4]; have := hb 8; have := hb (8 + 1); have := hb (8 + 2); have := hb (8 + 3); omega
  | 9, _ =>
    show nm l 8 4 / 65536 % 256 = byt l (8 + 1)
    rw [nm4]; have := hb 8; have := hb (8 + 1); have := hb (8 + 2); have := hb (8 + 3); omega
  | 10, _ =>
    show nm l 8 4 / 256 % 256 = byt l (8 + 2)
    rw [nm4]; have := hb 8; have := hb (8 + 1); have := hb (8 + 2); have := hb (8 + 3); omega
  | 11, _ =>
    show nm l 8 4 % 256 = byt l (8 + 3)
    rw [nm4]; have := hb 8; have := hb (8 + 1); have := hb (8 + 2); have := hb (8 + 3); omega
  | 12, _ =>
    show nm l 12 4 / 16777216 % 256 = byt l 12
    rw [nm4]; have := hb 12; have := hb (12 + 1); have := hb (12 + 2); have := hb (12 + 3); omega
  | 13, _ =>
    show nm l 12 4 / 65536 % 256 = byt l (12 + 1)
    rw [nm4]; have := hb 12; have := hb (12 + 1); have := hb (12 + 2); have := hb (12 + 3); omega
  | 14, _ =>
    show nm l 12 4 / 256 % 256 = byt l (12 + 2)
    rw [nm4]; have := hb 12; have := hb (12 + 1); have := hb (12 + 2); have := hb (12 + 3); omega
  | 15, _ =>
    show nm l 12 4 % 256 = byt l (12 + 3)
    rw [nm4]; have := hb 12; have := hb (12 + 1); have := hb (12 + 2); have := hb (12 + 3); omega
  | 16, _ =>
    show nm l 16 4 / 16777216 % 256 = byt l 16
    rw [nm4]; have := hb 16; have := hb (16 + 1); have := hb (16 + 2); have := hb (16 + 3); omega
  | 17, _ =>
    show nm l 16 4 / 65536 % 256 = byt l (16 + 1)
    rw [nm4]; have := hb 16; have := hb (16 + 1); have := hb (16 + 2); have := hb (16 + 3); omega
  | 18, _ =>
    show nm l 16 4 / 256 % 256 = byt l (16 + 2)
    rw [nm4]; have := hb 16; have := hb (16 + 1); have := hb (16 + 2); have := hb (16 + 3); omega
  | 19, _ =>
    show nm l 16 4 % 256 = byt l (16 + 3)
    rw [nm4]; have := hb 16; have := hb (16 + 1); have := hb (16 + 2); have := hb (16 + 3); omega
  | 20, _ =>
    show nm l 20 3 / 65536 % 256 = byt l 20
    rw [nm3]; have := hb 20; have := hb (20 + 1); have := hb (20 + 2); omega
  | 21, _ =>
    show nm l 20 3 / 256 % 256 = byt l (20 + 1)
    rw [nm3]; have := hb 20; have := hb (20 + 1); have := hb (20 + 2); omega
  | 22, _ =>
    show nm l 20 3 % 256 = byt l (20 + 2)
    rw [nm3]; have := hb 20; have := hb (20 + 1); have := hb (20 + 2); omega
  | 23, _ =>
    show nm l 23 4 / 16777216 % 256 = byt l 23
    rw [nm4]; have := hb 23; have := hb (23 + 1); have := hb (23 + 2); have := hb (23 + 3); omega
  | 24, _ =>
    show nm l 23 4 / 65536 % 256 = byt l (23 + 1)
    rw [nm4]; have := hb 23; have := hb (23 + 1); have := hb (23 + 2); have := hb (23 + 3); omega
  | 25, _ =>
    show nm l 23 4 / 256 % 256 = byt l (23 + 2)
    rw [nm4]; have := hb 23; have := hb (23 + 1); have := hb (23 + 2); have := hb (23 + 3); omega
  | 26, _ =>
    show nm l 23 4 % 256 = byt l (23 + 3)
    rw [nm4]; have := hb 23; have := hb (23 + 1); have := hb (23 + 2); have := hb (23 + 3); omega
  | 27, _ =>
    show nm l 27 4 / 16777216 % 256 = byt l 27
    rw [nm4]; have := hb 27; have := hb (27 + 1); have := hb (27 + 2); have := hb (27 + 3); omega
  | 28, _ =>
    show nm l 27 4 / 65536 % 256 = byt l (27 + 1)
    rw [nm4]; have := hb 27; have := hb (27 + 1); have := hb (27 + 2); have := hb (27 + 3); omega
  | 29, _ =>
    show nm l 27 4 / 256 % 256 = byt l (27 + 2)
    rw [nm4]; have := hb 27; have := hb (27 + 1); have := hb (27 + 2); have := hb (27 + 3); omega
  | 30, _ =>
    show nm l 27 4 % 256 = byt l (27 + 3)
    rw [nm4]; have := hb 27; have := hb (27 + 1); have := hb (27 + 2); have := hb (27 + 3); omega
  | 31, _ =>
    show ((parS l).sacks.length : Int) = byt l 31
    exact hsl
  | n + 32, h => exact absurd h (by omega)
theorem be4_nm {l : List Int} (hs : Small l) (k : Nat) {j : Nat} (hj : j < 4) : byt (be4 (nm l k 4)) j = byt l (k + j) := by
  have hb := byt_bd hs
  have h0 := hb k; have h1 := hb (k + 1); have h2 := hb (k + 2); have h3 := hb (k + 3)
  rw [nm4]
  match j, hj with
  | 0, _ => show (16777216 * byt l k + 65536 * byt l (k + 1) + 256 * byt l (k + 2) + byt l (k + 3)) / 16777216 % 256 = byt l k; omega
  | 1, _ => show (16777216 * byt l k + 65536 * byt l (k + 1) + 256 * byt l (k + 2) + byt l (k + 3)) / 65536 % 256 = byt l (k + 1); omega
  | 2, _ => show (16777216 * byt l k + 65536 * byt l (k + 1) + 256 * byt l (k + 2) + byt l (k + 3)) / 256 % 256 = byt l (k + 2); omega
  | 3, _ => show (16777216 * byt l k + 65536 * byt l (k + 1) + 256 * byt l (k + 2) + byt l (k + 3)) % 256 = byt l (k + 3); omega
theorem enc_par {l : List Int} (hs : Small l) (h1 : 32 ≤ l.length) (h2 : 32 + 8 * many l ≤ l.length) (hm : Sm (parS l)) : encS (parS l) = l := by
  have hbl : (parS l).b.length = l.length - (32 + 8 * many l) := by show (l.drop _).length = _; rw [List.length_drop]
  refine byt_ext (by rw [enc_len, par_len, hbl]; omega) (fun i hi => ?_)
  rw [enc_len, par_len, hbl] at hi
  by_cases c1 : i < 32
  · rw [enc_head _ c1]; exact head_par hs hm i c1
  · by_cases c2 : i < 32 + 8 * many l
    · obtain ⟨q, hq⟩ : ∃ q, (i - 32) / 8 = q := ⟨_, rfl⟩
      obtain ⟨j, hj⟩ : ∃ j, (i - 32) % 8 = j := ⟨_, rfl⟩
      have hi2 : i = 32 + (8 * q + j) := by omega
      have hqm : q < (parS l).sacks.length := by rw [par_len]; omega
      have hj8 : j < 8 := by omega
      rw [hi2, enc_sack _ hqm hj8]
      have hg : (parS l).sacks.getD q (0, 0) = (nm l (32 + 8 * q) 4, nm l (36 + 8 * q) 4) := by
        rw [List.getD_eq_getElem?_getD, List.getElem?_eq_getElem hqm]
        show (((List.range (many l)).map _)[q]'(by have h9 := hqm; rw [par_len] at h9; simpa using h9)) = _
        rw [List.getElem_map, List.getElem_range]
      rw [hg]
      by_cases c3 : j < 4
      · rw [byt_le _ _ _ (by show j < 4; exact c3), be4_nm hs _ c3]
        congr 1; omega
      · obtain ⟨j', rfl⟩ : ∃ j', j = 4 + j' := ⟨j - 4, by omega⟩
        rw [show 4 + j' = (be4 (nm l (32 + 8 * q) 4)).length + j' from rfl, byt_ge]
        show byt (be4 (nm l (36 + 8 * q) 4)) j' = _
        rw [be4_nm hs _ (by omega)]
        congr 1
        show 36 + 8 * q + j' = 32 + (8 * q + (4 + j')); omega
    · obtain ⟨t, ht⟩ : ∃ t, i = 32 + 8 * many l + t := ⟨i - (32 + 8 * many l), by omega⟩
      unfold encS
      rw [← List.append_assoc, ht, show 32 + 8 * many l = (headS (parS l) ++ sackB (parS l).sacks).length by rw [List.length_append, head_len, sackB_len, par_len], byt_ge]
      show byt (l.drop (32 + 8 * many l)) t = _
      rw [byt_drop, List.length_append, head_len, sackB_len, par_len]
theorem nm4_u {l : List Int} (hs : Small l) (k : Nat) : U32 (nm l k 4) := by
  have hb := byt_bd hs
  have h0 := hb k; have h1 := hb (k + 1); have h2 := hb (k + 2); have h3 := hb (k + 3)
  rw [nm4]; unfold U32; omega
theorem par_w {l : List Int} (hs : Small l) : SgW (parS l) := by
  refine ⟨nm4_u hs 4, nm4_u hs 8, nm4_u hs 12, nm4_u hs 16, ?_, nm4_u hs 23, nm4_u hs 27, fun p hp => ?_, fun x hx => hs x (List.mem_of_mem_drop hx)⟩
  · have hb := byt_bd hs
    have h0 := hb 20; have h1 := hb (20 + 1); have h2 := hb (20 + 2)
    show U32 (nm l 20 3)
    rw [nm3]; unfold U32; omega
  · obtain ⟨i, _, rfl⟩ := List.mem_map.1 (show p ∈ (List.range (many l)).map _ from hp)
    exact ⟨nm4_u hs _, nm4_u hs _⟩
/-- what is got is valid, and its bytes are these -/
theorem get_cases (l : List Int) (hs : Small l) : (getS l = (zs, 7) ∧ ¬ (32 ≤ l.length ∧ 32 + 8 * many l ≤ l.length ∧ Sm (parS l))) ∨ (getS l = (parS l, 0) ∧ (32 ≤ l.length ∧ 32 + 8 * many l ≤ l.length ∧ Sm (parS l)) ∧ encS (parS l) = l) := by
  unfold getS
  by_cases h : 32 ≤ l.length ∧ 32 + 8 * many l ≤ l.length ∧ Sm (parS l)
  · right; exact ⟨if_pos ⟨h.1, h.2.1, (smay_iff _).2 h.2.2⟩, h, enc_par hs h.1 h.2.1 h.2.2⟩
  · left; exact ⟨if_neg (fun k => h ⟨k.1, k.2.1, (smay_iff _).1 k.2.2⟩), h⟩
theorem be_small {n : Int} : Small (be4 n) := by
  intro x hx
  unfold be4 at hx
  simp only [List.mem_cons, List.not_mem_nil, or_false] at hx
  rcases hx with rfl | rfl | rfl | rfl <;> omega
theorem enc_small {s : Sg} (hm : Sm s) (hw : SgW s) : Small (encS s) := by
  have hsk : ∀ l : List (Int × Int), Small (sackB l) := by
    intro l
    induction l with
    | nil => exact fun x hx => by cases hx
    | cons p t ih =>
      intro x hx
      rw [sackB_cons] at hx
      rcases List.mem_append.1 hx with h | h
      · exact be_small x h
      · rcases List.mem_append.1 h with h | h
        · exact be_small x h
        · exact ih x h
  have k0 := hm.kind0; have k1 := hm.kind1; have k2 := hm.sub0; have k3 := hm.sub1; have k4 := hm.win0; have k5 := hm.win1; have k6 := hm.ace0; have k7 := hm.ace1; have k8 := hm.sacks
  have hf : 0 ≤ flagsS s ∧ flagsS s < 256 := by unfold flagsS; split <;> split <;> omega
  intro x hx
  unfold encS at hx
  rcases List.mem_append.1 hx with h | h
  · unfold headS at h
    rcases List.mem_append.1 h with h | h
    · simp only [List.mem_cons, List.not_mem_nil, or_false] at h
      rcases h with rfl | rfl | rfl | rfl <;> omega
    · rcases List.mem_append.1 h with h | h
      · exact be_small x h
      · rcases List.mem_append.1 h with h | h
        · exact be_small x h
        · rcases List.mem_append.1 h with h | h
          · exact be_small x h
          · rcases List.mem_append.1 h with h | h
            · exact be_small x h
            · rcases List.mem_append.1 h with h | h
              · unfold be3 at h
                simp only [List.mem_cons, List.not_mem_nil, or_false] at h
                rcases h with rfl | rfl | rfl <;> omega
              · rcases List.mem_append.1 h with h | h
                · exact be_small x h
                · rcases List.mem_append.1 h with h | h
                  · exact be_small x h
                  · simp only [List.mem_cons, List.not_mem_nil, or_false] at h
                    subst h; omega
  · rcases List.mem_append.1 h with h | h
    · exact hsk _ x h
    · exact hw.b x h
/-- what was put is got -/
theorem get_put {s : Sg} (hm : Sm s) (hw : SgW s) : getR (be4 (adler (encS s)) ++ encS s) = (s, 0) := by
  unfold getR
  have e1 : (be4 (adler (encS s)) ++ encS s).drop 4 = encS s := rfl
  have e2 : (be4 (adler (encS s)) ++ encS s).take 4 = be4 (adler (encS s)) := rfl
  rw [e1, e2, if_pos (by rw [List.length_append, enc_len]; show 4 ≤ 4 + _; omega), if_pos rfl, get_enc hm hw]
end Go.Proofs.Ytfglagkpknpgdaa
