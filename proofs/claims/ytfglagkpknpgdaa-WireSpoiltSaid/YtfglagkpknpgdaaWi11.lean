/- The landed package wire: parts as a contract of the call. -/
import Derived.Test.YtfglagkpknpgdaaProg
import Derived.Test.YtfglagkpknpgdaaWi7
import Derived.WalkKit
import Derived.WalkSpells
import Derived.WalkSmall
import Derived.Lib.Hide
import Derived.Below
import Derived.Outline
import Derived.OrdersHeld
namespace Go.Proofs.Ytfglagkpknpgdaa
open Go.RowKit
set_option linter.unusedVariables false
set_option linter.unusedSimpArgs false

/-- the parts of a segment, each with its kind -/
def partsV (fl kind sub : Int) (fin ecn : Bool) (seq dsn got dgot win ace ce sent echo : Int) (G : Option Addr) (m d : Nat) (A : Option Addr) (n c : Nat) : List Value := [.iface 5 (.int .u8 (16 * kind + sub)), .iface 5 (.int .u8 (fl)), .iface 56 (.int .u16 win), .iface 22 (.int .u32 seq), .iface 22 (.int .u32 dsn), .iface 22 (.int .u32 got), .iface 22 (.int .u32 dgot), .iface 57 (.int .u32 ce), .iface 22 (.int .u32 sent), .iface 22 (.int .u32 echo), .iface 23 (.slice G m d), .iface 24 (.slice A n c)]

set_option maxRecDepth 100000 in
set_option maxHeartbeats 4000000 in
theorem parts_any (kind sub : Int) (fin ecn : Bool) (seq dsn got dgot win ace ce sent echo : Int) (G : Option Addr) (m d : Nat) (A : Option Addr) (n c : Nat) (pl : List (Int × Int)) (bl : List Int) (w : World) (hk0 : 0 ≤ kind) (hk1 : kind ≤ 4) (hs0 : 0 ≤ sub) (hs1 : sub ≤ 3) (hw0 : 0 ≤ win) (hw1 : win ≤ 65535) (ha0 : 0 ≤ ace) (ha1 : ace ≤ 7) :
    Calls Try.prog 20 #[.agg #[.int .i64 kind, .int .i64 sub, .bool fin, .bool ecn, .int .u32 seq, .int .u32 dsn, .int .u32 got, .int .u32 dgot, .int .i64 win, .int .i64 ace, .int .u32 ce, .int .u32 sent, .int .u32 echo, .slice G m d, .slice A n c]] w fun e w' => ∃ K, e = .returned (.slice (some ⟨K, 0, none⟩) 12 12) ∧ Bx w' K 20 (partsV (flagsS ⟨kind, sub, fin, ecn, seq, dsn, got, dgot, win, ace, ce, sent, echo, pl, bl⟩) kind sub fin ecn seq dsn got dgot win ace ce sent echo G m d A n c) ∧ Below w.heap.size w w' := by
  obtain ⟨B, hB⟩ : ∃ B, w.heap.size = B := ⟨_, rfl⟩
  have e1 := (Bx.new w 26 [.int .i64 kind, .int .i64 sub, .bool fin, .bool ecn, .int .u32 seq, .int .u32 dsn, .int .u32 got, .int .u32 dgot, .int .i64 win, .int .i64 ace, .int .u32 ce, .int .u32 sent, .int .u32 echo, .slice G m d, .slice A n c]).drew
  rw [hB] at e1 ⊢
  have b1 : Below B w (w.alloc (.cells #[.int .i64 kind, .int .i64 sub, .bool fin, .bool ecn, .int .u32 seq, .int .u32 dsn, .int .u32 got, .int .u32 dgot, .int .i64 win, .int .i64 ace, .int .u32 ce, .int .u32 sent, .int .u32 echo, .slice G m d, .slice A n c] 26)).drew := ((Below.refl _ _).alloc (by omega) _).drew
  obtain ⟨X0, hX0⟩ : ∃ X0, 16 * kind + sub = X0 := ⟨_, rfl⟩
  have hX1 : 0 ≤ X0 := by omega
  have hX2 : X0 < 256 := by omega
  unfold partsV
  rw [hX0]
  go_enter Try.func20, Try.ntmps20
  go_wp2_with fail
  refine wp_region_tail 42 44 (fun (W : World) => W.cell? ⟨B, 0, none⟩ = some (Value.int .i64 kind) ∧ W.cell? ⟨B, 1, none⟩ = some (Value.int .i64 sub) ∧ W.cell? ⟨B, 4, none⟩ = some (Value.int .u32 seq) ∧ W.cell? ⟨B, 5, none⟩ = some (Value.int .u32 dsn) ∧ W.cell? ⟨B, 6, none⟩ = some (Value.int .u32 got) ∧ W.cell? ⟨B, 7, none⟩ = some (Value.int .u32 dgot) ∧ W.cell? ⟨B, 8, none⟩ = some (Value.int .i64 win) ∧ W.cell? ⟨B, 10, none⟩ = some (Value.int .u32 ce) ∧ W.cell? ⟨B, 11, none⟩ = some (Value.int .u32 sent) ∧ W.cell? ⟨B, 12, none⟩ = some (Value.int .u32 echo) ∧ W.cell? ⟨B, 13, none⟩ = some (Value.slice G m d) ∧ W.cell? ⟨B, 14, none⟩ = some (Value.slice A n c) ∧ Bx W B 26 [.int .i64 kind, .int .i64 sub, .bool fin, .bool ecn, .int .u32 seq, .int .u32 dsn, .int .u32 got, .int .u32 dgot, .int .i64 win, .int .i64 ace, .int .u32 ce, .int .u32 sent, .int .u32 echo, .slice G m d, .slice A n c]) (by kernel_rfl) (by rfl) (by decide) ?_
  have HS : ((fun (W : World) => W.cell? ⟨B, 0, none⟩ = some (Value.int .i64 kind) ∧ W.cell? ⟨B, 1, none⟩ = some (Value.int .i64 sub) ∧ W.cell? ⟨B, 4, none⟩ = some (Value.int .u32 seq) ∧ W.cell? ⟨B, 5, none⟩ = some (Value.int .u32 dsn) ∧ W.cell? ⟨B, 6, none⟩ = some (Value.int .u32 got) ∧ W.cell? ⟨B, 7, none⟩ = some (Value.int .u32 dgot) ∧ W.cell? ⟨B, 8, none⟩ = some (Value.int .i64 win) ∧ W.cell? ⟨B, 10, none⟩ = some (Value.int .u32 ce) ∧ W.cell? ⟨B, 11, none⟩ = some (Value.int .u32 sent) ∧ W.cell? ⟨B, 12, none⟩ = some (Value.int .u32 echo) ∧ W.cell? ⟨B, 13, none⟩ = some (Value.slice G m d) ∧ W.cell? ⟨B, 14, none⟩ = some (Value.slice A n c) ∧ Bx W B 26 [.int .i64 kind, .int .i64 sub, .bool fin, .bool ecn, .int .u32 seq, .int .u32 dsn, .int .u32 got, .int .u32 dgot, .int .i64 win, .int .i64 ace, .int .u32 ce, .int .u32 sent, .int .u32 echo, .slice G m d, .slice A n c])) _ := ⟨e1.cell 0 rfl, e1.cell 1 rfl, e1.cell 4 rfl, e1.cell 5 rfl, e1.cell 6 rfl, e1.cell 7 rfl, e1.cell 8 rfl, e1.cell 10 rfl, e1.cell 11 rfl, e1.cell 12 rfl, e1.cell 13 rfl, e1.cell 14 rfl, e1⟩
  refine wpAnyT_take (i := 0) (v := ?vv1) rfl (by kernel_rfl) (fun _ _ _ h => h) (Or.inl ⟨by rfl, fun w hSw => ?yy1⟩) HS ?rr1
  case yy1 =>
    (try dsimp only at hSw); go_simp
    try with_reducible rfl
  try simp only [Act.put, List.setIfInBounds_toArray, List.set_cons_zero, List.set_cons_succ]
  refine wpAnyT_take (i := 1) (v := ?vv2) rfl (by kernel_rfl) (fun _ _ _ h => h) (Or.inl ⟨by rfl, fun w hSw => ?yy2⟩) HS ?rr2
  case yy2 =>
    (try dsimp only at hSw); go_simp
    try with_reducible rfl
  try simp only [Act.put, List.setIfInBounds_toArray, List.set_cons_zero, List.set_cons_succ]
  refine wpAnyT_take (i := 2) (v := ?vv3) rfl (by kernel_rfl) (fun _ _ _ h => h) (Or.inl ⟨by rfl, fun w hSw => ?yy3⟩) HS ?rr3
  case yy3 =>
    (try dsimp only at hSw); go_simp
    try with_reducible rfl
  try simp only [Act.put, List.setIfInBounds_toArray, List.set_cons_zero, List.set_cons_succ]
  refine wpAnyT_take (i := 3) (v := ?vv4) rfl (by kernel_rfl) (fun _ _ _ h => h) (Or.inl ⟨by rfl, fun w hSw => ?yy4⟩) HS ?rr4
  case yy4 =>
    (try dsimp only at hSw); go_simp
    try with_reducible rfl
  try simp only [Act.put, List.setIfInBounds_toArray, List.set_cons_zero, List.set_cons_succ]
  refine wpAnyT_take (i := 4) (v := ?vv5) rfl (by kernel_rfl) (fun _ _ _ h => h) (Or.inl ⟨by rfl, fun w hSw => ?yy5⟩) HS ?rr5
  case yy5 =>
    (try dsimp only at hSw); go_simp
    try with_reducible rfl
  try simp only [Act.put, List.setIfInBounds_toArray, List.set_cons_zero, List.set_cons_succ]
  refine wpAnyT_take (i := 5) (v := ?vv6) rfl (by kernel_rfl) (fun _ _ _ h => h) (Or.inl ⟨by rfl, fun w hSw => ?yy6⟩) HS ?rr6
  case yy6 =>
    (try dsimp only at hSw); go_simp
    try with_reducible rfl
  try simp only [Act.put, List.setIfInBounds_toArray, List.set_cons_zero, List.set_cons_succ]
  refine wpAnyT_take (i := 6) (v := ?vv7) rfl (by kernel_rfl) (fun _ _ _ h => h) (Or.inl ⟨by rfl, fun w hSw => ?yy7⟩) HS ?rr7
  case yy7 =>
    (try dsimp only at hSw); go_simp
    try with_reducible rfl
  try simp only [Act.put, List.setIfInBounds_toArray, List.set_cons_zero, List.set_cons_succ]
  refine wpAnyT_take (i := 7) (v := ?vv8) rfl (by kernel_rfl) (fun _ _ _ h => h) (Or.inl ⟨by rfl, fun w hSw => ?yy8⟩) HS ?rr8
  case yy8 =>
    (try dsimp only at hSw); go_simp
    try with_reducible rfl
  try simp only [Act.put, List.setIfInBounds_toArray, List.set_cons_zero, List.set_cons_succ]
  refine wpAnyT_take (i := 8) (v := .agg #[.int .i64 kind, .int .i64 sub, .bool fin, .bool ecn, .int .u32 seq, .int .u32 dsn, .int .u32 got, .int .u32 dgot, .int .i64 win, .int .i64 ace, .int .u32 ce, .int .u32 sent, .int .u32 echo, .slice G m d, .slice A n c]) rfl (by kernel_rfl) (fun _ _ _ h => h) (Bx.yields (by rfl) (.tmp 1) rfl rfl [.int .i64 kind, .int .i64 sub, .bool fin, .bool ecn, .int .u32 seq, .int .u32 dsn, .int .u32 got, .int .u32 dgot, .int .i64 win, .int .i64 ace, .int .u32 ce, .int .u32 sent, .int .u32 echo, .slice G m d, .slice A n c] rfl 26 (fun W hW => hW.2.2.2.2.2.2.2.2.2.2.2.2)) HS ?_
  try simp only [Act.put, List.setIfInBounds_toArray, List.set_cons_zero, List.set_cons_succ]
  refine wpAnyT_take (i := 11) (v := ?vv9) rfl (by kernel_rfl) (fun _ _ _ h => h) (Or.inl ⟨by rfl, fun w hSw => ?yy9⟩) HS ?rr9
  case yy9 =>
    (try dsimp only at hSw); go_simp
    try with_reducible rfl
  try simp only [Act.put, List.setIfInBounds_toArray, List.set_cons_zero, List.set_cons_succ]
  refine wpAnyT_take (i := 12) (v := ?vv10) rfl (by kernel_rfl) (fun _ _ _ h => h) (Or.inl ⟨by rfl, fun w hSw => ?yy10⟩) HS ?rr10
  case yy10 =>
    (try dsimp only at hSw); go_simp
    try with_reducible rfl
  try simp only [Act.put, List.setIfInBounds_toArray, List.set_cons_zero, List.set_cons_succ]
  refine wpAnyT_take (i := 13) (v := ?vv11) rfl (by kernel_rfl) (fun _ _ _ h => h) (Or.inl ⟨by rfl, fun w hSw => ?yy11⟩) HS ?rr11
  case yy11 =>
    (try dsimp only at hSw); go_simp
    try with_reducible rfl
  try simp only [Act.put, List.setIfInBounds_toArray, List.set_cons_zero, List.set_cons_succ]
  refine wpAnyT_take (i := 14) (v := ?vv12) rfl (by kernel_rfl) (fun _ _ _ h => h) (Or.inl ⟨by rfl, fun w hSw => ?yy12⟩) HS ?rr12
  case yy12 =>
    (try dsimp only at hSw); go_simp
    try with_reducible rfl
  try simp only [Act.put, List.setIfInBounds_toArray, List.set_cons_zero, List.set_cons_succ]
  refine wpAnyT_take (i := 15) (v := ?vv13) rfl (by kernel_rfl) (fun _ _ _ h => h) (Or.inl ⟨by rfl, fun w hSw => ?yy13⟩) HS ?rr13
  case yy13 =>
    (try dsimp only at hSw); go_simp
    try with_reducible rfl
  try simp only [Act.put, List.setIfInBounds_toArray, List.set_cons_zero, List.set_cons_succ]
  refine wpAnyT_take (i := 16) (v := ?vv14) rfl (by kernel_rfl) (fun _ _ _ h => h) (Or.inl ⟨by rfl, fun w hSw => ?yy14⟩) HS ?rr14
  case yy14 =>
    (try dsimp only at hSw); go_simp
    try with_reducible rfl
  try simp only [Act.put, List.setIfInBounds_toArray, List.set_cons_zero, List.set_cons_succ]
  refine wpAnyT_take (i := 17) (v := ?vv15) rfl (by kernel_rfl) (fun _ _ _ h => h) (Or.inl ⟨by rfl, fun w hSw => ?yy15⟩) HS ?rr15
  case yy15 =>
    (try dsimp only at hSw); go_simp
    try with_reducible rfl
  try simp only [Act.put, List.setIfInBounds_toArray, List.set_cons_zero, List.set_cons_succ]
  refine wpAnyT_take (i := 18) (v := ?vv16) rfl (by kernel_rfl) (fun _ _ _ h => h) (Or.inl ⟨by rfl, fun w hSw => ?yy16⟩) HS ?rr16
  case yy16 =>
    (try dsimp only at hSw); go_simp
    try with_reducible rfl
  try simp only [Act.put, List.setIfInBounds_toArray, List.set_cons_zero, List.set_cons_succ]
  refine wpAnyT_take (i := 19) (v := ?vv17) rfl (by kernel_rfl) (fun _ _ _ h => h) (Or.inl ⟨by rfl, fun w hSw => ?yy17⟩) HS ?rr17
  case yy17 =>
    (try dsimp only at hSw); go_simp
    try with_reducible rfl
  try simp only [Act.put, List.setIfInBounds_toArray, List.set_cons_zero, List.set_cons_succ]
  refine wpAnyT_take (i := 20) (v := ?vv18) rfl (by kernel_rfl) (fun _ _ _ h => h) (Or.inl ⟨by rfl, fun w hSw => ?yy18⟩) HS ?rr18
  case yy18 =>
    (try dsimp only at hSw); go_simp
    try with_reducible rfl
  try simp only [Act.put, List.setIfInBounds_toArray, List.set_cons_zero, List.set_cons_succ]
  refine wpAnyT_take (i := 21) (v := ?vv19) rfl (by kernel_rfl) (fun _ _ _ h => h) (Or.inl ⟨by rfl, fun w hSw => ?yy19⟩) HS ?rr19
  case yy19 =>
    (try dsimp only at hSw); go_simp
    try with_reducible rfl
  try simp only [Act.put, List.setIfInBounds_toArray, List.set_cons_zero, List.set_cons_succ]
  refine wpAnyT_take (i := 22) (v := ?vv20) rfl (by kernel_rfl) (fun _ _ _ h => h) (Or.inl ⟨by rfl, fun w hSw => ?yy20⟩) HS ?rr20
  case yy20 =>
    (try dsimp only at hSw); go_simp
    try with_reducible rfl
  try simp only [Act.put, List.setIfInBounds_toArray, List.set_cons_zero, List.set_cons_succ]
  refine wpAnyT_take (i := 23) (v := ?vv21) rfl (by kernel_rfl) (fun _ _ _ h => h) (Or.inl ⟨by rfl, fun w hSw => ?yy21⟩) HS ?rr21
  case yy21 =>
    (try dsimp only at hSw); go_simp
    try with_reducible rfl
  try simp only [Act.put, List.setIfInBounds_toArray, List.set_cons_zero, List.set_cons_succ]
  refine wpAnyT_take (i := 24) (v := ?vv22) rfl (by kernel_rfl) (fun _ _ _ h => h) (Or.inl ⟨by rfl, fun w hSw => ?yy22⟩) HS ?rr22
  case yy22 =>
    (try dsimp only at hSw); go_simp
    try with_reducible rfl
  try simp only [Act.put, List.setIfInBounds_toArray, List.set_cons_zero, List.set_cons_succ]
  refine wpAnyT_take (i := 25) (v := ?vv23) rfl (by kernel_rfl) (fun _ _ _ h => h) (Or.inl ⟨by rfl, fun w hSw => ?yy23⟩) HS ?rr23
  case yy23 =>
    (try dsimp only at hSw); go_simp
    try with_reducible rfl
  try simp only [Act.put, List.setIfInBounds_toArray, List.set_cons_zero, List.set_cons_succ]
  refine wpAnyT_take (i := 26) (v := ?vv24) rfl (by kernel_rfl) (fun _ _ _ h => h) (Or.inl ⟨by rfl, fun w hSw => ?yy24⟩) HS ?rr24
  case yy24 =>
    (try dsimp only at hSw); go_simp
    try with_reducible rfl
  try simp only [Act.put, List.setIfInBounds_toArray, List.set_cons_zero, List.set_cons_succ]
  refine wpAnyT_take (i := 27) (v := ?vv25) rfl (by kernel_rfl) (fun _ _ _ h => h) (Or.inl ⟨by rfl, fun w hSw => ?yy25⟩) HS ?rr25
  case yy25 =>
    (try dsimp only at hSw); go_simp
    try with_reducible rfl
  try simp only [Act.put, List.setIfInBounds_toArray, List.set_cons_zero, List.set_cons_succ]
  refine wpAnyT_take (i := 28) (v := ?vv26) rfl (by kernel_rfl) (fun _ _ _ h => h) (Or.inl ⟨by rfl, fun w hSw => ?yy26⟩) HS ?rr26
  case yy26 =>
    (try dsimp only at hSw); go_simp
    try with_reducible rfl
  try simp only [Act.put, List.setIfInBounds_toArray, List.set_cons_zero, List.set_cons_succ]
  refine wpAnyT_take (i := 29) (v := ?vv27) rfl (by kernel_rfl) (fun _ _ _ h => h) (Or.inl ⟨by rfl, fun w hSw => ?yy27⟩) HS ?rr27
  case yy27 =>
    (try dsimp only at hSw); go_simp
    try with_reducible rfl
  try simp only [Act.put, List.setIfInBounds_toArray, List.set_cons_zero, List.set_cons_succ]
  refine wpAnyT_take (i := 30) (v := ?vv28) rfl (by kernel_rfl) (fun _ _ _ h => h) (Or.inl ⟨by rfl, fun w hSw => ?yy28⟩) HS ?rr28
  case yy28 =>
    (try dsimp only at hSw); go_simp
    try with_reducible rfl
  try simp only [Act.put, List.setIfInBounds_toArray, List.set_cons_zero, List.set_cons_succ]
  refine wpAnyT_take (i := 31) (v := ?vv29) rfl (by kernel_rfl) (fun _ _ _ h => h) (Or.inl ⟨by rfl, fun w hSw => ?yy29⟩) HS ?rr29
  case yy29 =>
    (try dsimp only at hSw); go_simp
    try with_reducible rfl
  try simp only [Act.put, List.setIfInBounds_toArray, List.set_cons_zero, List.set_cons_succ]
  refine wpAnyT_take (i := 32) (v := ?vv30) rfl (by kernel_rfl) (fun _ _ _ h => h) (Or.inl ⟨by rfl, fun w hSw => ?yy30⟩) HS ?rr30
  case yy30 =>
    (try dsimp only at hSw); go_simp
    try with_reducible rfl
  try simp only [Act.put, List.setIfInBounds_toArray, List.set_cons_zero, List.set_cons_succ]
  refine wpAnyT_take (i := 33) (v := ?vv31) rfl (by kernel_rfl) (fun _ _ _ h => h) (Or.inl ⟨by rfl, fun w hSw => ?yy31⟩) HS ?rr31
  case yy31 =>
    (try dsimp only at hSw); go_simp
    try with_reducible rfl
  try simp only [Act.put, List.setIfInBounds_toArray, List.set_cons_zero, List.set_cons_succ]
  refine wpAnyT_take (i := 34) (v := ?vv32) rfl (by kernel_rfl) (fun _ _ _ h => h) (Or.inl ⟨by rfl, fun w hSw => ?yy32⟩) HS ?rr32
  case yy32 =>
    (try dsimp only at hSw); go_simp
    try with_reducible rfl
  try simp only [Act.put, List.setIfInBounds_toArray, List.set_cons_zero, List.set_cons_succ]
  refine wpAnyT_take (i := 35) (v := ?vv33) rfl (by kernel_rfl) (fun _ _ _ h => h) (Or.inl ⟨by rfl, fun w hSw => ?yy33⟩) HS ?rr33
  case yy33 =>
    (try dsimp only at hSw); go_simp
    try with_reducible rfl
  try simp only [Act.put, List.setIfInBounds_toArray, List.set_cons_zero, List.set_cons_succ]
  refine wpAnyT_take (i := 36) (v := ?vv34) rfl (by kernel_rfl) (fun _ _ _ h => h) (Or.inl ⟨by rfl, fun w hSw => ?yy34⟩) HS ?rr34
  case yy34 =>
    (try dsimp only at hSw); go_simp
    try with_reducible rfl
  try simp only [Act.put, List.setIfInBounds_toArray, List.set_cons_zero, List.set_cons_succ]
  refine wpAnyT_take (i := 37) (v := ?vv35) rfl (by kernel_rfl) (fun _ _ _ h => h) (Or.inl ⟨by rfl, fun w hSw => ?yy35⟩) HS ?rr35
  case yy35 =>
    (try dsimp only at hSw); go_simp
    try with_reducible rfl
  try simp only [Act.put, List.setIfInBounds_toArray, List.set_cons_zero, List.set_cons_succ]
  refine wpAnyT_take (i := 38) (v := ?vv36) rfl (by kernel_rfl) (fun _ _ _ h => h) (Or.inl ⟨by rfl, fun w hSw => ?yy36⟩) HS ?rr36
  case yy36 =>
    (try dsimp only at hSw); go_simp
    try with_reducible rfl
  try simp only [Act.put, List.setIfInBounds_toArray, List.set_cons_zero, List.set_cons_succ]
  refine wpAnyT_take (i := 39) (v := ?vv37) rfl (by kernel_rfl) (fun _ _ _ h => h) (Or.inl ⟨by rfl, fun w hSw => ?yy37⟩) HS ?rr37
  case yy37 =>
    (try dsimp only at hSw); go_simp
    try with_reducible rfl
  try simp only [Act.put, List.setIfInBounds_toArray, List.set_cons_zero, List.set_cons_succ]
  refine wpAnyT_take (i := 40) (v := ?vv38) rfl (by kernel_rfl) (fun _ _ _ h => h) (Or.inl ⟨by rfl, fun w hSw => ?yy38⟩) HS ?rr38
  case yy38 =>
    (try dsimp only at hSw); go_simp
    try with_reducible rfl
  try simp only [Act.put, List.setIfInBounds_toArray, List.set_cons_zero, List.set_cons_succ]
  refine wpAnyT_take (i := 41) (v := ?vv39) rfl (by kernel_rfl) (fun _ _ _ h => h) (Or.inl ⟨by rfl, fun w hSw => ?yy39⟩) HS ?rr39
  case yy39 =>
    (try dsimp only at hSw); go_simp
    try with_reducible rfl
  try simp only [Act.put, List.setIfInBounds_toArray, List.set_cons_zero, List.set_cons_succ]
  refine wpAnyT_one (k := 9) rfl (by kernel_rfl) (by decide) (fun K hK => ?_)
  go_simp
  refine (flags_any kind sub fin ecn seq dsn got dgot win ace ce sent echo G m d A n c pl bl _ ha0 ha1).mono ?_; rintro e w4 ⟨rfl, hb4⟩; have e4 := e1.kept hb4
  have HS : ((fun (W : World) => W.cell? ⟨B, 0, none⟩ = some (Value.int .i64 kind) ∧ W.cell? ⟨B, 1, none⟩ = some (Value.int .i64 sub) ∧ W.cell? ⟨B, 4, none⟩ = some (Value.int .u32 seq) ∧ W.cell? ⟨B, 5, none⟩ = some (Value.int .u32 dsn) ∧ W.cell? ⟨B, 6, none⟩ = some (Value.int .u32 got) ∧ W.cell? ⟨B, 7, none⟩ = some (Value.int .u32 dgot) ∧ W.cell? ⟨B, 8, none⟩ = some (Value.int .i64 win) ∧ W.cell? ⟨B, 10, none⟩ = some (Value.int .u32 ce) ∧ W.cell? ⟨B, 11, none⟩ = some (Value.int .u32 sent) ∧ W.cell? ⟨B, 12, none⟩ = some (Value.int .u32 echo) ∧ W.cell? ⟨B, 13, none⟩ = some (Value.slice G m d) ∧ W.cell? ⟨B, 14, none⟩ = some (Value.slice A n c) ∧ Bx W B 26 [.int .i64 kind, .int .i64 sub, .bool fin, .bool ecn, .int .u32 seq, .int .u32 dsn, .int .u32 got, .int .u32 dgot, .int .i64 win, .int .i64 ace, .int .u32 ce, .int .u32 sent, .int .u32 echo, .slice G m d, .slice A n c])) _ := ⟨e4.cell 0 rfl, e4.cell 1 rfl, e4.cell 4 rfl, e4.cell 5 rfl, e4.cell 6 rfl, e4.cell 7 rfl, e4.cell 8 rfl, e4.cell 10 rfl, e4.cell 11 rfl, e4.cell 12 rfl, e4.cell 13 rfl, e4.cell 14 rfl, e4⟩
  refine hK _ _ HS ?_
  clear hK K
  try simp only [Act.put, List.setIfInBounds_toArray, List.set_cons_zero, List.set_cons_succ]
  refine wpAnyT_take (i := 10) (v := ?vv40) rfl (by kernel_rfl) (fun _ _ _ h => h) (Or.inl ⟨by rfl, fun w hSw => ?yy40⟩) HS ?rr40
  case yy40 =>
    (try dsimp only at hSw); go_simp
    try with_reducible rfl
  try simp only [Act.put, List.setIfInBounds_toArray, List.set_cons_zero, List.set_cons_succ]
  refine ⟨by kernel_rfl, ?_⟩
  simp only [List.drop_succ_cons, List.drop_zero]

  go_wp2_with fail
  go_ret
  exact ⟨_, rfl, Bx.new w4 _ _, (b1.trans (hb4.mono (Nat.le_of_lt e1.lt))).alloc (Nat.le_of_lt e4.lt) _⟩
end Go.Proofs.Ytfglagkpknpgdaa
