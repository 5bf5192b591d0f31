/- Package wire: light and awake as contracts of the calls. -/
import Derived.Test.YtfglagkpknpgdaaProg
import Derived.Test.YtfglagkpknpgdaaWi8
import Derived.Test.YtfglagkpknpgdaaWi12
import Derived.WalkKit
import Derived.WalkSpells
import Derived.WalkSmall
import Derived.Lib.Hide
import Derived.Below
import Derived.Outline
namespace Go.Proofs.Ytfglagkpknpgdaa
open Go.RowKit
set_option linter.unusedVariables false
set_option linter.unusedSimpArgs false

def lightB (n m : Nat) : Bool := decide (n ≤ 1600) && decide (m ≤ 50)
set_option maxHeartbeats 1000000 in
theorem light_any (kind sub : Int) (fin ecn : Bool) (seq dsn got dgot win ace ce sent echo : Int) (G : Option Addr) (m d : Nat) (A : Option Addr) (n c : Nat) (w : World) :
    Calls Try.prog 9 #[.agg #[.int .i64 kind, .int .i64 sub, .bool fin, .bool ecn, .int .u32 seq, .int .u32 dsn, .int .u32 got, .int .u32 dgot, .int .i64 win, .int .i64 ace, .int .u32 ce, .int .u32 sent, .int .u32 echo, .slice G m d, .slice A n c]] w fun e w' => e = .returned (.bool (lightB n m)) ∧ Below w.heap.size w w' := by
  have e0 := Bx.new w 26 [.int .i64 kind, .int .i64 sub, .bool fin, .bool ecn, .int .u32 seq, .int .u32 dsn, .int .u32 got, .int .u32 dgot, .int .i64 win, .int .i64 ace, .int .u32 ce, .int .u32 sent, .int .u32 echo, .slice G m d, .slice A n c]
  have hb0 : Below w.heap.size w (w.alloc (.cells #[.int .i64 kind, .int .i64 sub, .bool fin, .bool ecn, .int .u32 seq, .int .u32 dsn, .int .u32 got, .int .u32 dgot, .int .i64 win, .int .i64 ace, .int .u32 ce, .int .u32 sent, .int .u32 echo, .slice G m d, .slice A n c] 26)) := (Below.refl _ _).alloc (Nat.le_refl _) _
  have x13 := e0.cell 13 rfl
  have x14 := e0.cell 14 rfl
  clear e0
  unfold lightB
  by_cases h1 : n ≤ 1600
  · have h1' : (n : Int) ≤ 1600 := by omega
    have t1 : decide ((n : Int) ≤ 1600) = true := decide_eq_true h1'
    have hx : (decide (n ≤ 1600) && decide (m ≤ 50)) = decide ((m : Int) ≤ 50) := by
      rw [decide_eq_true h1, Bool.true_and]; exact decide_eq_decide.2 (by omega)
    rw [hx]; clear hx h1
    go_enter Try.func9, Try.ntmps9
    go_wp2
    go_ret
    exact ⟨rfl, hb0⟩
  · have h1' : ¬ ((n : Int) ≤ 1600) := by omega
    have t1 : decide ((n : Int) ≤ 1600) = false := decide_eq_false h1'
    have hx : (decide (n ≤ 1600) && decide (m ≤ 50)) = false := by
      rw [decide_eq_false h1, Bool.false_and]
    rw [hx]; clear hx h1
    go_enter Try.func9, Try.ntmps9
    go_wp2
    go_ret
    exact ⟨rfl, hb0⟩

theorem sm0 : Sm (⟨4, 1, false, false, 0, 0, 0, 0, 0, 0, 0, 0, 0, [], []⟩ : Sg) := ⟨by decide, by decide, by decide, by decide, by decide, by decide, by decide, by decide, by decide, by decide, by decide⟩
theorem w0S : SgW (⟨4, 1, false, false, 0, 0, 0, 0, 0, 0, 0, 0, 0, [], []⟩ : Sg) :=
  have z : U32 0 := ⟨by decide, by decide⟩
  ⟨z, z, z, z, z, z, z, fun p h => absurd h (by simp), fun x h => absurd h (by simp)⟩
theorem put_ok {s : Sg} (h : Sm s) : putS s = (seal4 (encS s), 0) := by unfold putS; rw [if_pos ((smay_iff _).2 h)]; rfl
theorem get_back {s : Sg} (hm : Sm s) (hw : SgW s) : getR (seal4 (encS s)) = (s, 0) := get_put hm hw
theorem seal_len (s : Sg) : (seal4 (encS s)).length = 36 + 8 * s.sacks.length + s.b.length := by rw [seal4_len, enc_len]; omega
theorem seal_head (s : Sg) : byt (seal4 (encS s)) 4 = 16 * s.kind + s.sub := rfl

set_option maxRecDepth 100000 in
set_option maxHeartbeats 4000000 in
theorem awake_any (w : World) :
    Calls Try.prog 8 #[] w fun e w' => e = .returned (.bool true) ∧ Below w.heap.size w w' := by
  have hp := put_ok sm0
  have hg := get_back sm0 w0S
  have hlen := seal_len (⟨4, 1, false, false, 0, 0, 0, 0, 0, 0, 0, 0, 0, [], []⟩ : Sg)
  have hhd := seal_head (⟨4, 1, false, false, 0, 0, 0, 0, 0, 0, 0, 0, 0, [], []⟩ : Sg)
  have hsm := (smay_iff _).2 sm0
  have z : U32 0 := ⟨by decide, by decide⟩
  obtain ⟨L, hL⟩ : ∃ L, seal4 (encS (⟨4, 1, false, false, 0, 0, 0, 0, 0, 0, 0, 0, 0, [], []⟩ : Sg)) = L := ⟨_, rfl⟩
  rw [hL] at hp hg hlen hhd
  have HP := Lib.hid hp; have HG := Lib.hid hg; have HS := Lib.hid hsm; clear hp hg hL hsm
  replace hlen : L.length = 36 := hlen
  replace hhd : byt L 4 = 65 := hhd
  go_enter Try.func8, Try.ntmps8
  go_wp2_with fail
  refine (lput_any 4 1 false false 0 0 0 0 0 0 0 0 0 none 0 0 none 0 0 [] [] _ (Sr.none _) (Sl.nil0 _) (by omega) (by omega) z z z z z z z).mono ?_
  rintro e w1 h1
  rw [HP.out] at h1
  obtain ⟨R, m1, d1, rfl, s1, b1⟩ := h1
  obtain rfl : m1 = 36 := by have := s1.rd.len; rw [hlen] at this; exact this.symm
  go_wp2_with fail
  refine (lget_any R 36 d1 L _ s1 (by omega)).mono ?_
  rintro e w2 h2
  rw [HG.out] at h2
  obtain ⟨G, m, d, R2, k, q, rfl, sg, sl, b2⟩ := h2
  dsimp only at sg sl
  obtain rfl : m = 0 := by have := sg.rd.len; simpa using this.symm
  obtain rfl : k = 0 := by have := sl.rd.len; simpa using this.symm
  have s2 := s1.keep b2
  obtain ⟨br, orr, rfl, hbl, hc⟩ := s2.rd.spot (by omega)
  have c4 := hc.out 4 (by omega)
  rw [hhd] at c4
  clear hc
  have e3 := Bx.new w2 26 [.int .i64 4, .int .i64 1, .bool false, .bool false, .int .u32 0, .int .u32 0, .int .u32 0, .int .u32 0, .int .i64 0, .int .i64 0, .int .u32 0, .int .u32 0, .int .u32 0, .slice G 0 d, .slice R2 0 q]
  have c4' : (w2.alloc (.cells #[.int .i64 4, .int .i64 1, .bool false, .bool false, .int .u32 0, .int .u32 0, .int .u32 0, .int .u32 0, .int .i64 0, .int .i64 0, .int .u32 0, .int .u32 0, .int .u32 0, .slice G 0 d, .slice R2 0 q] 26)).cell? ⟨br, orr + 4, none⟩ = some (.int .u8 65) := (World.cell?_of_block (Below.heap_alloc w2 _ br hbl)).trans c4
  have b3 := ((b1.trans (b2.mono b1.size)).alloc (by have := b1.size; have := b2.size; omega) (.cells #[.int .i64 4, .int .i64 1, .bool false, .bool false, .int .u32 0, .int .u32 0, .int .u32 0, .int .u32 0, .int .i64 0, .int .i64 0, .int .u32 0, .int .u32 0, .int .u32 0, .slice G 0 d, .slice R2 0 q] 26))
  go_wp2_with (first
    | (refine Bx.stepLoad rfl (.tmp 3) rfl rfl e3 rfl ?_)
    | (go_at_call 13; refine (lmay_any 4 1 false false 0 0 0 0 0 0 0 0 0 G 0 d R2 0 q [] [] _ rfl rfl (by omega) (by omega)).mono ?_; rintro e w4 ⟨he, hb4⟩; rw [HS.out] at he; subst he))
  go_ret
  exact ⟨rfl, b3.trans (hb4.mono b3.size)⟩
end Go.Proofs.Ytfglagkpknpgdaa
