/- The landed package wire: written, for parts that are numbers or bytes. -/
import Derived.Test.YtfglagkpknpgdaaProg
import Derived.Test.YtfglagkpknpgdaaWi5
import Derived.WalkKit
import Derived.WalkSpells
import Derived.WalkSmall
import Derived.Lib.Hide
import Derived.Below
import Derived.Outline
namespace Go.Proofs.Ytfglagkpknpgdaa
open Go.RowKit
set_option linter.unusedVariables false
set_option linter.unusedSimpArgs false

/-- what a call that appends hands back: the row is longer by l -/
def TellA (w w' : World) (base : Nat) (bv : Value) (e : Ending) (n : Nat) (l : List Int) : Prop := ∃ v, e = .returned v ∧ Got w' base v n l ∧ w.grownBy w' bv.ownBlock ∧ (v.ownBlock = bv.ownBlock ∨ ∃ k, v.ownBlock = some k ∧ w.heap.size ≤ k)
theorem Got.lt {w : World} {base : Nat} {v : Value} {n : Nat} {l : List Int} (h : Got w base v n l) {k : Nat} (hk : v.ownBlock = some k) : base ≤ k ∧ k < w.heap.size := h.own.lt k hk
theorem no_byte {S : TypeId} {v : Value} (h : S ≠ 5) (w : World) : (Instr.typeAssert (.iface S v) 20 5 true).run Try.prog w = .ok (.tuple #[.int .u8 0, .bool false]) w :=
  assert_no _ h Try.underlying5 (fun _ h => by cases h) (by kernel_rfl)
theorem yes_byte {v : Value} (w : World) : (Instr.typeAssert (.iface 5 v) 20 5 true).run Try.prog w = .ok (.tuple #[v, .bool true]) w :=
  assert_yes _ Try.underlying5 (fun _ h => by cases h)
theorem no_u16 {S : TypeId} {v : Value} (h : S ≠ 56) (w : World) : (Instr.typeAssert (.iface S v) 20 56 true).run Try.prog w = .ok (.tuple #[.int .u16 0, .bool false]) w :=
  assert_no _ h Try.underlying56 (fun _ h => by cases h) (by kernel_rfl)
theorem yes_u16 {v : Value} (w : World) : (Instr.typeAssert (.iface 56 v) 20 56 true).run Try.prog w = .ok (.tuple #[v, .bool true]) w :=
  assert_yes _ Try.underlying56 (fun _ h => by cases h)
theorem no_triple {S : TypeId} {v : Value} (h : S ≠ 57) (w : World) : (Instr.typeAssert (.iface S v) 20 57 true).run Try.prog w = .ok (.tuple #[.int .u32 0, .bool false]) w :=
  assert_no _ h Try.underlying57 (fun _ h => by cases h) (by kernel_rfl)
theorem yes_triple {v : Value} (w : World) : (Instr.typeAssert (.iface 57 v) 20 57 true).run Try.prog w = .ok (.tuple #[v, .bool true]) w :=
  assert_yes _ Try.underlying57 (fun _ h => by cases h)
theorem no_u32 {S : TypeId} {v : Value} (h : S ≠ 22) (w : World) : (Instr.typeAssert (.iface S v) 20 22 true).run Try.prog w = .ok (.tuple #[.int .u32 0, .bool false]) w :=
  assert_no _ h Try.underlying22 (fun _ h => by cases h) (by kernel_rfl)
theorem yes_u32 {v : Value} (w : World) : (Instr.typeAssert (.iface 22 v) 20 22 true).run Try.prog w = .ok (.tuple #[v, .bool true]) w :=
  assert_yes _ Try.underlying22 (fun _ h => by cases h)
theorem no_pairs {S : TypeId} {v : Value} (h : S ≠ 23) (w : World) : (Instr.typeAssert (.iface S v) 20 23 true).run Try.prog w = .ok (.tuple #[.slice none 0 0, .bool false]) w :=
  assert_no _ h Try.underlying23 (fun _ h => by cases h) (by kernel_rfl)
theorem yes_pairs {v : Value} (w : World) : (Instr.typeAssert (.iface 23 v) 20 23 true).run Try.prog w = .ok (.tuple #[v, .bool true]) w :=
  assert_yes _ Try.underlying23 (fun _ h => by cases h)
theorem no_bytes {S : TypeId} {v : Value} (h : S ≠ 24) (w : World) : (Instr.typeAssert (.iface S v) 20 24 true).run Try.prog w = .ok (.tuple #[.slice none 0 0, .bool false]) w :=
  assert_no _ h Try.underlying24 (fun _ h => by cases h) (by kernel_rfl)
theorem yes_bytes {v : Value} (w : World) : (Instr.typeAssert (.iface 24 v) 20 24 true).run Try.prog w = .ok (.tuple #[v, .bool true]) w :=
  assert_yes _ Try.underlying24 (fun _ h => by cases h)

set_option maxRecDepth 100000 in
set_option maxHeartbeats 2000000 in
theorem wr_byte (x : Int) (base : Nat) (v : Value) (n : Nat) (xs : List Int) (w : World) (hg : Got w base v n xs) (hbase : base ≤ w.heap.size) (hn : n ≤ 1000000) (h0 : 0 ≤ x) (h1 : x < 256) :
    Calls Try.prog 21 #[v, .iface 5 (.int .u8 x)] w fun e w' => TellA w w' base v e (n + 1) (xs ++ [x]) := by
  have qy := fun w => yes_byte (v := .int .u8 x) w
  have hsm : Small ([x]) := by
    intro z hz
    simp only [be3, be4, List.mem_cons, List.not_mem_nil, or_false] at hz
    omega
  have hrd : Rd (w.alloc (.cells #[.int .u8 x] 5)) (some ⟨w.heap.size, 0, none⟩) ([x]).length ([x]) := by
    have h := Rd.block w hsm 5
    have e : (([x]).map (Value.int .u8)).toArray = #[.int .u8 x] := by simp [be3, be4]; try omega
    rwa [e] at h
  go_enter Try.func21, Try.ntmps21
  go_wp2_with (at_builtin; refine wpList_app _ rfl (.tmp 17) (.tmp 19) 24 rfl base 5 Try.underlying24 info_u8 _ n xs rfl (hg.own.alloc _) rfl (fun e => by cases e) hrd (by omega) (by simp; omega) ?_; intro v1 w1 ho1 hg1 ha1)
  go_ret
  exact ⟨v1, rfl, ⟨ho1, small_app hg.small hsm⟩, (World.grownBy_alloc _ _ _).trans hg1, ha1.imp id (fun h => ⟨_, h, by simp⟩)⟩

set_option maxRecDepth 100000 in
set_option maxHeartbeats 2000000 in
theorem wr_u16 (x : Int) (base : Nat) (v : Value) (n : Nat) (xs : List Int) (w : World) (hg : Got w base v n xs) (hbase : base ≤ w.heap.size) (hn : n ≤ 1000000) (h0 : 0 ≤ x) (h1 : x < 65536) :
    Calls Try.prog 21 #[v, .iface 56 (.int .u16 x)] w fun e w' => TellA w w' base v e (n + 2) (xs ++ [x / 256, x % 256]) := by
  have qbyte := fun w => no_byte (S := 56) (v := .int .u16 x) (by decide) w
  have qy := fun w => yes_u16 (v := .int .u16 x) w
  have hsm : Small ([x / 256, x % 256]) := by
    intro z hz
    simp only [be3, be4, List.mem_cons, List.not_mem_nil, or_false] at hz
    omega
  have hrd : Rd (w.alloc (.cells #[.int .u8 (x / 256), .int .u8 (x % 256)] 5)) (some ⟨w.heap.size, 0, none⟩) ([x / 256, x % 256]).length ([x / 256, x % 256]) := by
    have h := Rd.block w hsm 5
    have e : (([x / 256, x % 256]).map (Value.int .u8)).toArray = #[.int .u8 (x / 256), .int .u8 (x % 256)] := by simp [be3, be4]; try omega
    rwa [e] at h
  go_enter Try.func21, Try.ntmps21
  go_wp2_with (at_builtin; refine wpList_app _ rfl (.tmp 24) (.tmp 30) 24 rfl base 5 Try.underlying24 info_u8 _ n xs rfl (hg.own.alloc _) rfl (fun e => by cases e) hrd (by omega) (by simp; omega) ?_; intro v1 w1 ho1 hg1 ha1)
  go_ret
  exact ⟨v1, rfl, ⟨ho1, small_app hg.small hsm⟩, (World.grownBy_alloc _ _ _).trans hg1, ha1.imp id (fun h => ⟨_, h, by simp⟩)⟩

set_option maxRecDepth 100000 in
set_option maxHeartbeats 2000000 in
theorem wr_triple (x : Int) (base : Nat) (v : Value) (n : Nat) (xs : List Int) (w : World) (hg : Got w base v n xs) (hbase : base ≤ w.heap.size) (hn : n ≤ 1000000) (h0 : 0 ≤ x) (h1 : x < 16777216) :
    Calls Try.prog 21 #[v, .iface 57 (.int .u32 x)] w fun e w' => TellA w w' base v e (n + 3) (xs ++ be3 x) := by
  have qbyte := fun w => no_byte (S := 57) (v := .int .u32 x) (by decide) w
  have qu16 := fun w => no_u16 (S := 57) (v := .int .u32 x) (by decide) w
  have qy := fun w => yes_triple (v := .int .u32 x) w
  have hsm : Small (be3 x) := by
    intro z hz
    simp only [be3, be4, List.mem_cons, List.not_mem_nil, or_false] at hz
    omega
  have hrd : Rd (w.alloc (.cells #[.int .u8 (x / 65536), .int .u8 (x / 256 % 256), .int .u8 (x % 256)] 5)) (some ⟨w.heap.size, 0, none⟩) (be3 x).length (be3 x) := by
    have h := Rd.block w hsm 5
    have e : ((be3 x).map (Value.int .u8)).toArray = #[.int .u8 (x / 65536), .int .u8 (x / 256 % 256), .int .u8 (x % 256)] := by simp [be3, be4]; try omega
    rwa [e] at h
  go_enter Try.func21, Try.ntmps21
  go_wp2_with (at_builtin; refine wpList_app _ rfl (.tmp 35) (.tmp 44) 24 rfl base 5 Try.underlying24 info_u8 _ n xs rfl (hg.own.alloc _) rfl (fun e => by cases e) hrd (by omega) (by simp; omega) ?_; intro v1 w1 ho1 hg1 ha1)
  go_ret
  exact ⟨v1, rfl, ⟨ho1, small_app hg.small hsm⟩, (World.grownBy_alloc _ _ _).trans hg1, ha1.imp id (fun h => ⟨_, h, by simp⟩)⟩

set_option maxRecDepth 100000 in
set_option maxHeartbeats 2000000 in
theorem wr_u32 (x : Int) (base : Nat) (v : Value) (n : Nat) (xs : List Int) (w : World) (hg : Got w base v n xs) (hbase : base ≤ w.heap.size) (hn : n ≤ 1000000) (h0 : 0 ≤ x) (h1 : x < 4294967296) :
    Calls Try.prog 21 #[v, .iface 22 (.int .u32 x)] w fun e w' => TellA w w' base v e (n + 4) (xs ++ be4 x) := by
  have qbyte := fun w => no_byte (S := 22) (v := .int .u32 x) (by decide) w
  have qu16 := fun w => no_u16 (S := 22) (v := .int .u32 x) (by decide) w
  have qtriple := fun w => no_triple (S := 22) (v := .int .u32 x) (by decide) w
  have qy := fun w => yes_u32 (v := .int .u32 x) w
  have hsm : Small (be4 x) := by
    intro z hz
    simp only [be3, be4, List.mem_cons, List.not_mem_nil, or_false] at hz
    omega
  have hrd : Rd (w.alloc (.cells #[.int .u8 (x / 16777216), .int .u8 (x / 65536 % 256), .int .u8 (x / 256 % 256), .int .u8 (x % 256)] 5)) (some ⟨w.heap.size, 0, none⟩) (be4 x).length (be4 x) := by
    have h := Rd.block w hsm 5
    have e : ((be4 x).map (Value.int .u8)).toArray = #[.int .u8 (x / 16777216), .int .u8 (x / 65536 % 256), .int .u8 (x / 256 % 256), .int .u8 (x % 256)] := by simp [be3, be4]; try omega
    rwa [e] at h
  go_enter Try.func21, Try.ntmps21
  go_wp2_with (at_builtin; refine wpList_app _ rfl (.tmp 49) (.tmp 61) 24 rfl base 5 Try.underlying24 info_u8 _ n xs rfl (hg.own.alloc _) rfl (fun e => by cases e) hrd (by omega) (by simp; omega) ?_; intro v1 w1 ho1 hg1 ha1)
  go_ret
  exact ⟨v1, rfl, ⟨ho1, small_app hg.small hsm⟩, (World.grownBy_alloc _ _ _).trans hg1, ha1.imp id (fun h => ⟨_, h, by simp⟩)⟩

set_option maxRecDepth 100000 in
set_option maxHeartbeats 2000000 in
theorem wr_bytes (A : Option Addr) (m c : Nat) (bl : List Int) (base : Nat) (v : Value) (n : Nat) (xs : List Int) (w : World) (hg : Got w base v n xs) (hbase : base ≤ w.heap.size) (hn : n ≤ 1000000) (hs : Sl w A m c bl) (hm : m ≤ 1000000) :
    Calls Try.prog 21 #[v, .iface 24 (.slice A m c)] w fun e w' => TellA w w' base v e (n + m) (xs ++ bl) := by
  have qbyte := fun w => no_byte (S := 24) (v := .slice A m c) (by decide) w
  have qu16 := fun w => no_u16 (S := 24) (v := .slice A m c) (by decide) w
  have qtriple := fun w => no_triple (S := 24) (v := .slice A m c) (by decide) w
  have qu32 := fun w => no_u32 (S := 24) (v := .slice A m c) (by decide) w
  have qpairs := fun w => no_pairs (S := 24) (v := .slice A m c) (by decide) w
  have qy := fun w => yes_bytes (v := .slice A m c) w
  go_enter Try.func21, Try.ntmps21
  go_wp2_with (at_builtin; refine wpList_app _ rfl (.tmp 91) (.tmp 92) 24 rfl base 5 Try.underlying24 info_u8 _ n xs rfl hg.own rfl hs.nil hs.rd (by omega) hbase ?_; intro v1 w1 ho1 hg1 ha1)
  go_ret
  exact ⟨v1, rfl, ⟨ho1, small_app hg.small hs.rd.small⟩, hg1, ha1.imp id (fun h => ⟨_, h, Nat.le_refl _⟩)⟩
end Go.Proofs.Ytfglagkpknpgdaa
