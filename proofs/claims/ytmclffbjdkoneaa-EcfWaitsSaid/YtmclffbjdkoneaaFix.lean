/- Package fix: checked, with whatever it is given to run, and Add, as contracts of the calls: every number. -/
import Derived.Test.YtmclffbjdkoneaaProg
import Derived.Test.YtmclffbjdkoneaaLow
import Derived.WalkKit
import Derived.WalkSpells
import Derived.Deep.QuietTactic
import Derived.BigQuiet
import Derived.Lib.Hide
import Derived.WalkSmall
import Derived.Shelf.Abstract
namespace Go.Proofs.Ytmclffbjdkoneaa
open Go.RowKit


/-- what checked reads: the numbers that came, in a row -/
def RowOf (B : Nat) (zs : List Int) (w : World) : Prop := ∀ i (h : i < zs.length), w.cell? ⟨B, i, none⟩ = some (.int .i64 zs[i])

set_option maxHeartbeats 1000000 in
theorem checked_yes (n : Nat) (f : Nat) (hent : ∀ args w, (callFunc f args).run Try.prog w = .ok (.enter f args) w) (caps : Array Value) (B : Nat) (zs : List Int) (r : Int) (w : World) (hn : zs.length = n) (hz : zs.length ≤ 3) (hin : ∀ z ∈ zs, inB z = true) (hrow : RowOf B zs w)
    (hcall : Hid (Calls Try.prog f caps w fun e w' => e = .returned (.tuple #[.int .i64 r, .bool true]) ∧ Below w.heap.size w w')) (hr : inB r = true) :
    Calls Try.prog 27 #[.func (.func f) #[] caps, .slice (some ⟨B, 0, none⟩) n n] w fun e w' => e = .returned (.tuple #[.int .i64 r, .bool true]) ∧ Below w.heap.size w w' := by
  subst hn
  have Hin := Lib.hid hin; clear hin
  have Hrow := Lib.hid hrow; clear hrow
  go_enter Try.func27, Try.ntmps27
  go_wp2_with fail
  go_loop [12] (fun i => ∃ k : Nat, k ≤ zs.length ∧ i = .int .i64 k) (fun i => zs.length - (intOf i).toNat)
  case atStart => exact ⟨0, Nat.zero_le _, rfl⟩
  case round =>
    obtain ⟨k, hk, rfl⟩ := hrel
    by_cases hlt : k < zs.length
    · have hcell := Hrow.out k hlt
      have hi := Hin.out _ (List.getElem_mem hlt)
      go_wp2_with (go_at_call 32; refine (in_yes _ _ (by assumption)).mono ?_; rintro e w' ⟨rfl, rfl⟩)
      go_round
      case rel => exact ⟨k + 1, by omega, by go_num⟩
      case measure => simp [intOf]; omega
    · go_wp2_with (first | (go_at_fn f; refine hcall.out.mono ?_; rintro e w' ⟨rfl, hb⟩) | (go_at_call 32; refine (in_yes _ _ hr).mono ?_; rintro e w' ⟨rfl, rfl⟩))
      go_ret2
      exact ⟨rfl, hb⟩

set_option maxHeartbeats 1000000 in
theorem checked_no (n : Nat) (f : Nat) (hent : ∀ args w, (callFunc f args).run Try.prog w = .ok (.enter f args) w) (caps : Array Value) (B : Nat) (zs : List Int) (r : Int) (w : World) (hn : zs.length = n) (hz : zs.length ≤ 3) (hin : ∀ z ∈ zs, inB z = true) (hrow : RowOf B zs w)
    (ok : Bool) (hcall : Hid (Calls Try.prog f caps w fun e w' => e = .returned (.tuple #[.int .i64 r, .bool ok]) ∧ Below w.heap.size w w')) (hr : ok = false ∨ inB r = false) :
    Calls Try.prog 27 #[.func (.func f) #[] caps, .slice (some ⟨B, 0, none⟩) n n] w fun e w' => e = .returned (.tuple #[.int .i64 0, .bool false]) ∧ Below w.heap.size w w' := by
  subst hn
  have Hin := Lib.hid hin; clear hin
  have Hrow := Lib.hid hrow; clear hrow
  go_enter Try.func27, Try.ntmps27
  go_wp2_with fail
  go_loop [12] (fun i => ∃ k : Nat, k ≤ zs.length ∧ i = .int .i64 k) (fun i => zs.length - (intOf i).toNat)
  case atStart => exact ⟨0, Nat.zero_le _, rfl⟩
  case round =>
    obtain ⟨k, hk, rfl⟩ := hrel
    by_cases hlt : k < zs.length
    · have hcell := Hrow.out k hlt
      have hi := Hin.out _ (List.getElem_mem hlt)
      go_wp2_with (go_at_call 32; refine (in_yes _ _ (by assumption)).mono ?_; rintro e w' ⟨rfl, rfl⟩)
      go_round
      case rel => exact ⟨k + 1, by omega, by go_num⟩
      case measure => simp [intOf]; omega
    · cases ok with
      | false =>
        clear hr
        go_wp2_with (go_at_fn f; refine hcall.out.mono ?_; rintro e w' ⟨rfl, hb⟩)
        go_ret2
        exact ⟨rfl, hb⟩
      | true =>
        have hr' := hr.resolve_left (by decide)
        clear hr
        go_wp2_with (first | (go_at_fn f; refine hcall.out.mono ?_; rintro e w' ⟨rfl, hb⟩) | (go_at_call 32; refine (in_no _ _ hr').mono ?_; rintro e w' ⟨rfl, rfl⟩))
        go_ret2
        exact ⟨rfl, hb⟩

set_option maxHeartbeats 1000000 in
theorem checked_bad (n : Nat) (F : Value) (B : Nat) (zs : List Int) (w : World) (hn : zs.length = n) (hz : zs.length ≤ 3) (hin : ¬ ∀ z ∈ zs, inB z = true) (hrow : RowOf B zs w) :
    Calls Try.prog 27 #[F, .slice (some ⟨B, 0, none⟩) n n] w fun e w' => e = .returned (.tuple #[.int .i64 0, .bool false]) ∧ Below w.heap.size w w' := by
  subst hn
  have Hin := Lib.hid hin; clear hin
  have Hrow := Lib.hid hrow; clear hrow
  go_enter Try.func27, Try.ntmps27
  go_wp2_with fail
  go_loop [12] (fun i => ∃ k : Nat, k ≤ zs.length ∧ Hid (∀ j (h : j < zs.length), j < k → inB zs[j] = true) ∧ i = .int .i64 k) (fun i => zs.length - (intOf i).toNat)
  case atStart => exact ⟨0, Nat.zero_le _, fun _ _ h => absurd h (by omega), rfl⟩
  case round =>
    obtain ⟨k, hk, hkk, rfl⟩ := hrel
    by_cases hlt : k < zs.length
    · have hcell := Hrow.out k hlt
      by_cases hi : inB zs[k] = true
      · go_wp2_with (go_at_call 32; refine (in_yes _ _ (by assumption)).mono ?_; rintro e w' ⟨rfl, rfl⟩)
        go_round
        case rel =>
          refine ⟨k + 1, by omega, ?_, by go_num⟩
          intro j h hj
          by_cases e : j = k
          · subst e; exact hi
          · exact hkk.out j h (by omega)
        case measure => simp [intOf]; omega
      · have hi' : inB zs[k] = false := by simpa using hi
        clear hi
        go_wp2_with (go_at_call 32; refine (in_no _ _ (by assumption)).mono ?_; rintro e w' ⟨rfl, rfl⟩)
        go_ret2
        exact ⟨rfl, Below.refl _ _⟩
    · refine (Hin.out ?_).elim
      intro z hz'
      obtain ⟨j, hj, rfl⟩ := List.getElem_of_mem hz'
      exact hkk.out j hj (by omega)

theorem ent_mul : ∀ args w, (callFunc 28 args).run Try.prog w = .ok (.enter 28 args) w := enters_of Try.func28 (by kernel_rfl) rfl

theorem wrap_add (a b : Int) (ha : inB a = true) (hb : inB b = true) : inB (wrap64 (a + b)) = inB (a + b) ∧ (inB (a + b) = true → wrap64 (a + b) = a + b) := by
  rw [inB_iff] at ha hb
  by_cases h : a + b ≤ 9223372036854775807
  · have e : wrap64 (a + b) = a + b := IntWalk.wrap64_in _ ⟨by omega, by omega⟩
    rw [e]; exact ⟨rfl, fun _ => rfl⟩
  · have e : wrap64 (a + b) = -9223372036854775808 := by
      have : a + b = 9223372036854775808 := by omega
      simp only [wrap64]; omega
    have e2 : inB (a + b) = false := by rw [inB_not]; omega
    rw [e, e2]
    exact ⟨by decide, fun h => by cases h⟩

/-- the number that a call tells: 0 where there is none -/
def tell (r : Int) (ok : Bool) : Int := if ok then r else 0

def okAll (zs : List Int) (r : Int) (ok : Bool) : Bool := zs.all inB && ok && inB r

theorem checked_any (n : Nat) (f : Nat) (hent : ∀ args w, (callFunc f args).run Try.prog w = .ok (.enter f args) w) (caps : Array Value) (B : Nat) (zs : List Int) (r : Int) (ok : Bool) (w : World) (hn : zs.length = n) (hz : zs.length ≤ 3) (hrow : RowOf B zs w)
    (hcall : (∀ z ∈ zs, inB z = true) → Calls Try.prog f caps w fun e w' => e = .returned (.tuple #[.int .i64 r, .bool ok]) ∧ Below w.heap.size w w') :
    Calls Try.prog 27 #[.func (.func f) #[] caps, .slice (some ⟨B, 0, none⟩) n n] w fun e w' => e = .returned (.tuple #[.int .i64 (tell r (okAll zs r ok)), .bool (okAll zs r ok)]) ∧ Below w.heap.size w w' := by
  by_cases h : ∀ z ∈ zs, inB z = true
  · have hall : zs.all inB = true := by simpa using h
    by_cases h2 : ok = true ∧ inB r = true
    · obtain ⟨rfl, h3⟩ := h2
      have e : okAll zs r true = true := by simp [okAll, hall, h3]
      rw [e]
      exact checked_yes n f hent caps B zs r w hn hz h hrow (hcall h) h3
    · have h3 : ok = false ∨ inB r = false := by
        cases ok
        · exact .inl rfl
        · right; simpa using h2
      have e : okAll zs r ok = false := by
        rcases h3 with h3 | h3 <;> simp [okAll, h3]
      rw [e]
      exact checked_no n f hent caps B zs r w hn hz h hrow ok (hcall h) h3
  · have e : okAll zs r ok = false := by
      have : zs.all inB = false := by simpa using h
      simp [okAll, this]
    rw [e]
    exact checked_bad n (.func (.func f) #[] caps) B zs w hn hz h hrow

def addOk (a b : Int) : Bool := inB a && inB b && inB (a + b)

theorem add_eq (a b : Int) : okAll [a, b] (wrap64 (a + b)) true = addOk a b ∧ tell (wrap64 (a + b)) (addOk a b) = tell (a + b) (addOk a b) := by
  by_cases h1 : inB a = true
  · by_cases h2 : inB b = true
    · obtain ⟨e1, e2⟩ := wrap_add a b h1 h2
      refine ⟨by simp [okAll, addOk, h1, h2, e1], ?_⟩
      by_cases h3 : inB (a + b) = true
      · rw [e2 h3]
      · simp [tell, addOk, h3]
    · simp [okAll, addOk, h2, tell]
  · simp [okAll, addOk, h1, tell]

theorem row1 (a : Int) (w : World) (T B : Nat) (hB : B = w.heap.size) : RowOf B [a] (w.alloc (.cells #[.int .i64 a] T)) := by
  subst hB
  intro i h
  match i, h with
  | 0, _ => go_simp
theorem row2 (a b : Int) (w : World) (T B : Nat) (hB : B = w.heap.size) : RowOf B [a, b] (w.alloc (.cells #[.int .i64 a, .int .i64 b] T)) := by
  subst hB
  intro i h
  match i, h with
  | 0, _ => go_simp
  | 1, _ => go_simp
theorem row3 (a b c : Int) (w : World) (T B : Nat) (hB : B = w.heap.size) : RowOf B [a, b, c] (w.alloc (.cells #[.int .i64 a, .int .i64 b, .int .i64 c] T)) := by
  subst hB
  intro i h
  match i, h with
  | 0, _ => go_simp
  | 1, _ => go_simp
  | 2, _ => go_simp

end Go.Proofs.Ytmclffbjdkoneaa
