/- The reference's put: numbers that rise, with one more. -/
import Derived.Test.YtgiknfmagmfniaaSpRef1
import Derived.WalkSmall
namespace Go.Proofs.Ytgiknfmagmfniaa
open Go.RowKit

def it (l : List Int) (i : Nat) : Int := l.getD i 0
theorem it_eq {l : List Int} {i : Nat} (h : i < l.length) : it l i = l[i] := by unfold it; rw [List.getD_eq_getElem?_getD, List.getElem?_eq_getElem h]; rfl
theorem it_mem {l : List Int} {i : Nat} (h : i < l.length) : it l i ∈ l := by rw [it_eq h]; exact List.getElem_mem h
theorem it_drop (l : List Int) (k i : Nat) : it (l.drop k) i = it l (k + i) := by
  unfold it; rw [List.getD_eq_getElem?_getD, List.getElem?_drop, List.getD_eq_getElem?_getD]
theorem it_take {l : List Int} {k i : Nat} (h : i < k) : it (l.take k) i = it l i := by
  unfold it; rw [List.getD_eq_getElem?_getD, List.getElem?_take, if_pos h, List.getD_eq_getElem?_getD]
def WideI (l : List Int) : Prop := ∀ x ∈ l, W64 x
theorem it_wide {l : List Int} (h : WideI l) (i : Nat) : W64 (it l i) := by
  by_cases hi : i < l.length
  · exact h _ (it_mem hi)
  · unfold it; rw [List.getD_eq_getElem?_getD, List.getElem?_eq_none (by omega)]; unfold W64; simp
def Rise (l : List Int) : Prop := l.Pairwise (· < ·)
theorem rise_lt {l : List Int} (h : Rise l) {i j : Nat} (hij : i < j) (hj : j < l.length) : it l i < it l j := by
  rw [it_eq (by omega), it_eq hj]
  exact List.pairwise_iff_getElem.1 h i j (by omega) hj hij

structure Ri (w : World) (A : Option Addr) (n : Nat) (l : List Int) : Prop where
  len : l.length = n
  wide : WideI l
  at_ : 0 < n → ∃ b o, A = some ⟨b, o, none⟩ ∧ b < w.heap.size ∧ ∀ i, i < n → w.cell? ⟨b, o + i, none⟩ = some (.int .i64 (it l i))
structure Si (w : World) (A : Option Addr) (n c : Nat) (l : List Int) : Prop where
  le : n ≤ c
  max : c ≤ maxLen
  nil : A = none → c = 0
  rd : Ri w A n l
section
variable {w w' : World} {A : Option Addr} {n c : Nat} {l : List Int}
theorem Ri.keep (h : Ri w A n l) (hb : Below w.heap.size w w') : Ri w' A n l :=
  ⟨h.len, h.wide, fun hn => by
    obtain ⟨b, o, e, hl, hc⟩ := h.at_ hn
    exact ⟨b, o, e, Nat.lt_of_lt_of_le hl hb.size, fun i hi => (hb.cell (p := ⟨b, o + i, none⟩) hl).trans (hc i hi)⟩⟩
theorem Ri.empty (w : World) (A : Option Addr) : Ri w A 0 [] := ⟨rfl, fun _ hx => by simp at hx, fun hn => absurd hn (by omega)⟩
theorem Si.keep (h : Si w A n c l) (hb : Below w.heap.size w w') : Si w' A n c l := ⟨h.le, h.max, h.nil, h.rd.keep hb⟩
theorem Si.none (w : World) : Si w none 0 0 [] := ⟨Nat.le_refl _, Nat.zero_le _, fun _ => rfl, Ri.empty _ _⟩
theorem Si.head {k : Nat} (h : Si w A n c l) (hk : k ≤ n) : Si w A k c (l.take k) :=
  ⟨by have := h.le; omega, h.max, h.nil, by rw [List.length_take, h.rd.len]; omega, fun x hx => h.rd.wide x (List.mem_of_mem_take hx), fun h0 => by
    obtain ⟨b, o, e, hl, hc⟩ := h.rd.at_ (by omega)
    exact ⟨b, o, e, hl, fun i hi => by rw [it_take hi]; exact hc i (by omega)⟩⟩
def cutI (A : Option Addr) (k c : Nat) : Option Addr := if c = k then A else A.map (·.add k)
theorem Si.cut {k m d : Nat} (h : Si w A n c l) (hn : n = m + k) (hc : c = d + k) : Si w (cutI A k c) m d (l.drop k) := by
  have hn' := h.nil
  have hle := h.le
  have hmx := h.max
  refine ⟨by omega, by omega, ?_, by rw [List.length_drop, h.rd.len]; omega, fun x hx => h.rd.wide x (List.mem_of_mem_drop hx), fun h0 => ?_⟩
  · intro e
    unfold cutI at e
    split at e
    · have := hn' e; omega
    · cases A with
      | none => have := hn' rfl; omega
      | some a => cases e
  · obtain ⟨b, o, e, hl, hcl⟩ := h.rd.at_ (by omega)
    refine ⟨b, o + k, ?_, hl, fun i hi => ?_⟩
    · unfold cutI; rw [if_neg (by omega), e]; simp only [Option.map_some, Addr.add]
      split <;> simp_all
    · rw [Nat.add_assoc, hcl (k + i) (by omega), it_drop]
structure Goti (w : World) (base e : Nat) (v : Value) (n : Nat) (l : List Int) : Prop where
  row : w.ownsRow base e 1 v n (l.map (Value.int .i64))
  wide : WideI l
theorem Goti.si {base e : Nat} {v : Value} (h : Goti w base e v n l) : ∃ A c, v = .slice A n c ∧ Si w A n c l := by
  have hlen : l.length = n := by have := h.row.1; simpa using this
  rcases h.row.2 with ⟨rfl, rfl⟩ | ⟨g, cap, cur, rfl, hg, hh, hnc, hcm, hcs, htake⟩
  · exact ⟨_, 0, rfl, Nat.le_refl _, Nat.zero_le _, fun _ => rfl, hlen, h.wide, fun h0 => by omega⟩
  · refine ⟨some ⟨g, 0, .none⟩, cap, rfl, hnc, hcm, (fun e => by cases e), hlen, h.wide, fun h0 => ⟨g, 0, rfl, ?_, fun i hi => ?_⟩⟩
    · rcases Nat.lt_or_ge g w.heap.size with hlt | hge
      · exact hlt
      · rw [Array.getElem?_eq_none hge] at hh; cases hh
    · rw [Nat.zero_add, h.row.cellAt i (by omega), List.getElem?_map, List.getElem?_eq_getElem (by omega), it_eq (by omega)]
      rfl

theorem wpList_appi {P : Program} (w : World) {A : Option Addr} {m c : Nat} {l : List Int} {ops : Array Oper} {rest : List Oper} {o : Oper} {a : Act} {Q : Exit → Act → World → Prop} (hgd : o.guard = .none) (s x : Operand) (t : TypeId)
    (ho : o.op = .call { callee := .builtin .append, args := #[s, x], argTypes := #[t, t] })
    (base : Nat) (e : TypeId) (ht : P.underlying t = some (.slice e)) (hinfo : (P.info? e).map (fun i => (i.zero, i.size, i.bytes)) = some (some (.int .i64 0), 1, 8))
    (v : Value) (n : Nat) (xs : List Int) (hs : a.eval s = v) (hown : Goti w base e v n xs)
    (hx : a.eval x = .slice A m c) (hA : A = .none → c = 0) (hr : Ri w A m l) (hsum : (n + m) * 8 ≤ 140737488355328) (hbase : base ≤ w.heap.size)
    (h : ∀ v' w', Goti w' base e v' (n + m) (xs ++ l) → w.grownBy w' v.ownBlock → (v'.ownBlock = v.ownBlock ∨ v'.ownBlock = some w.heap.size) → wpList P ops Q rest (a.put o.dst v') w') :
    wpList P ops Q (o :: rest) a w := by
  obtain ⟨i0, hi, hz0, hz1, hz2⟩ := info_parts hinfo
  have hw : WideI (xs ++ l) := fun y hy => (List.mem_append.1 hy).elim (hown.wide y) (hr.wide y)
  cases A with
  | none =>
    have hc0 := hA rfl
    have hm0 : m = 0 := by
      rcases Nat.eq_zero_or_pos m with h0 | h0
      · exact h0
      · obtain ⟨b, o', e', _⟩ := hr.at_ h0; cases e'
    subst hm0 hc0
    have hl0 : l = [] := List.eq_nil_of_length_eq_zero hr.len
    subst hl0
    exact wpList_append_own_none hgd s x t ho base e i0 1 ht hi v n _ hs hown.row hx (h v w (by simpa using hown) (World.grownBy.refl w _) (.inl rfl))
  | some ad =>
    refine wpList_append_own_at w hgd s x t ho base e i0 (.int .i64 0) 1 8 ht hi hz0 hz1 hz2 rfl (by omega) v n _ hs hown.row ad m c (l.map (Value.int .i64)) hx (by simp [hr.len]) ?_ (ints_oneCell _ _) (by unfold maxLen; omega) (by omega) hbase (fun v' w' h1 h2 _ h4 => h v' w' ⟨by rw [List.map_append]; exact h1, hw⟩ h2 h4)
    intro j u hj
    have hjm : j < m := by
      have := (List.getElem?_eq_some_iff.1 hj).1
      rw [List.length_map, hr.len] at this
      exact this
    obtain ⟨b, o', e', _, hc⟩ := hr.at_ (by omega)
    cases e'
    have hcell := hc j hjm
    rw [List.getElem?_map, List.getElem?_eq_getElem (by rw [hr.len]; exact hjm)] at hj
    have hu : u = .int .i64 (it l j) := by
      simp only [Option.map_some, Option.some.injEq] at hj
      rw [← hj, it_eq (by rw [hr.len]; exact hjm)]
    rw [hu, ← hcell]
    unfold Addr.add
    split
    · next h => subst h; rfl
    · rfl
theorem Goti.alloc {base e : Nat} {v : Value} (h : Goti w base e v n l) (o : Obj) : Goti (w.alloc o) base e v n l := ⟨h.row.alloc o, h.wide⟩
theorem Goti.nil (w : World) (base e : Nat) : Goti w base e (.slice .none 0 0) 0 [] := ⟨World.ownsRow_nil _ _ _ _, fun _ hx => by simp at hx⟩
theorem ri_one (w : World) {x : Int} (hx : W64 x) (t : TypeId) : Ri (w.alloc (.cells #[.int .i64 x] t)) (some ⟨w.heap.size, 0, .none⟩) 1 [x] :=
  ⟨rfl, fun y hy => by rw [List.mem_singleton] at hy; subst hy; exact hx, fun _ => ⟨w.heap.size, 0, rfl, by simp, fun i hi => by
    obtain rfl : i = 0 := by omega
    rw [Nat.zero_add, World.cell?_alloc_new]; rfl⟩⟩
end

theorem run_cutI (P : Program) (t e : TypeId) (ht : P.underlying t = some (.slice e)) (hinfo : (P.info? e).map (fun i => (i.zero, i.size, i.bytes)) = some (some (.int .i64 0), 1, 8)) (A : Option Addr) (k m d : Nat) (w : World) (hk : k ≤ 1000000) (_ : m ≤ d) :
    (Instr.slice t (.slice A (m + k) (d + k)) (some (.int .i64 (k : Int))) none none).run P w = .ok (.slice (cutI A k (d + k)) m d) w := by
  obtain ⟨i0, hi, hz0, hz1, hz2⟩ := info_parts hinfo
  have ht' : P.underlying t = some (.slice (P.elem t)) := by simp [Program.elem, ht]
  have he : P.elem t = e := by simp [Program.elem, ht]
  have hz : ∀ w, (Go.sizeOf e).run P w = .ok 1 w := fun w => by simp [Go.sizeOf, typeInfo, hi, hz1]
  rw [run_slice_l w t _ _ _ ht' .i64 _ (by omega) (by omega), he, hz]
  simp [Result.andThen, sliced, cutI]
theorem run_headI (P : Program) (t e : TypeId) (ht : P.underlying t = some (.slice e)) (hinfo : (P.info? e).map (fun i => (i.zero, i.size, i.bytes)) = some (some (.int .i64 0), 1, 8)) (A : Option Addr) (k n c : Nat) (w : World) (hk : k ≤ c) :
    (Instr.slice t (.slice A n c) none (some (.int .i64 (k : Int))) none).run P w = .ok (.slice A k c) w := by
  obtain ⟨i0, hi, hz0, hz1, hz2⟩ := info_parts hinfo
  have ht' : P.underlying t = some (.slice (P.elem t)) := by simp [Program.elem, ht]
  have he : P.elem t = e := by simp [Program.elem, ht]
  have hz : ∀ w, (Go.sizeOf e).run P w = .ok 1 w := fun w => by simp [Go.sizeOf, typeInfo, hi, hz1]
  rw [run_slice_h w t _ _ _ ht' .i64 _ (by omega) (by omega), he, hz]
  have h0 : ∀ a : Addr, a.add 0 = a := fun a => by simp [Addr.add]
  simp [Result.andThen, sliced, h0]
theorem info_int : (Try.prog.info? 3).map (fun i => (i.zero, i.size, i.bytes)) = some (some (.int .i64 0), 1, 8) := by kernel_rfl

/-- all from k on are greater -/
def Over (l : List Int) (x : Int) (k : Nat) : Prop := ∀ i, k ≤ i → i < l.length → x < it l i
theorem over_len (l : List Int) (x : Int) : Over l x l.length := fun i h1 h2 => by omega
theorem over_less {l : List Int} {x : Int} {k : Nat} (h : Over l x (k + 1)) (hx : x < it l k) : Over l x k := fun i h1 h2 => by
  rcases Nat.eq_or_lt_of_le h1 with e | e
  · subst e; exact hx
  · exact h i e h2
theorem put_rise {l : List Int} {x : Int} {k : Nat} (hr : Rise l) (ho : Over l x k) (hk : k ≤ l.length) (hu : ∀ i, i < k → it l i < x) : Rise (l.take k ++ x :: l.drop k) := by
  unfold Rise at *
  rw [List.pairwise_append]
  refine ⟨hr.take, ?_, ?_⟩
  · rw [List.pairwise_cons]
    refine ⟨fun y hy => ?_, hr.drop⟩
    obtain ⟨i, hi, rfl⟩ := List.mem_iff_getElem.1 hy
    rw [List.length_drop] at hi
    rw [List.getElem_drop]
    have := ho (k + i) (by omega) (by omega)
    rwa [it_eq (by omega)] at this
  · intro y hy z hz
    obtain ⟨i, hi, rfl⟩ := List.mem_iff_getElem.1 hy
    rw [List.length_take] at hi
    rw [List.getElem_take]
    have h1 := hu i (by omega)
    rw [it_eq (by omega)] at h1
    rcases List.mem_cons.1 hz with rfl | hz
    · exact h1
    · obtain ⟨j, hj, rfl⟩ := List.mem_iff_getElem.1 hz
      rw [List.length_drop] at hj
      rw [List.getElem_drop]
      have := ho (k + j) (by omega) (by omega)
      rw [it_eq (by omega)] at this
      omega
theorem put_mem (l : List Int) (x : Int) (k : Nat) (y : Int) : y ∈ l.take k ++ x :: l.drop k ↔ y ∈ l ∨ y = x := by
  have e : y ∈ l ↔ y ∈ l.take k ∨ y ∈ l.drop k := by rw [← List.mem_append, List.take_append_drop]
  rw [e, List.mem_append, List.mem_cons]
  constructor
  · rintro (h | h | h)
    · exact .inl (.inl h)
    · exact .inr h
    · exact .inl (.inr h)
  · rintro ((h | h) | h)
    · exact .inl h
    · exact .inr (.inr h)
    · exact .inr (.inl h)

set_option maxRecDepth 100000 in
set_option maxHeartbeats 2000000 in
theorem put_any (A : Option Addr) (n c : Nat) (l : List Int) (x : Int) (w : World) (hs : Si w A n c l) (hx : W64 x) (hr : Rise l) (hn : n ≤ 100000) :
    Calls Try.prog 60 #[.slice A n c, .int .i64 x] w fun e w' => ∃ R m d, e = .returned (.slice R m d) ∧ ∃ r, Si w' R m d r ∧ Rise r ∧ (∀ y, y ∈ r ↔ y ∈ l ∨ y = x) ∧ m ≤ n + 1 ∧ Below w.heap.size w w' := by
  have hl := hs.rd.len
  have m1 := hs.le
  have HS := Lib.hid hs; clear hs
  have HR := Lib.hid hr; clear hr
  have HX := Lib.hid hx; clear hx
  go_enter Try.func60, Try.ntmps60
  go_wp2
  go_loopw [5] (fun i wr => ∃ k : Nat, k ≤ n ∧ i = .int .i64 k ∧ Over l x k ∧ w = wr) (fun i _ => (intOf i).toNat)
  case atStart => exact ⟨n, Nat.le_refl _, rfl, by rw [← hl]; exact over_len _ _, rfl⟩
  case round =>
    obtain ⟨k, hk, rfl, ho, rfl⟩ := hrel
    have hHO := Lib.hid ho; clear ho
    cases k with
    | zero =>
      have hcut := fun w => run_cutI Try.prog 42 3 Try.underlying42 info_int A 0 n c w (by omega) m1
      simp only [Nat.add_zero] at hcut
      have hcut' : ∀ w, (Instr.slice 42 (.slice A n c) (some (.int .i64 0)) none none).run Try.prog w = .ok (.slice (cutI A 0 c) n c) w := hcut
      clear hcut
      have HU := Lib.hid (show ∀ i, i < 0 → it l i < x from fun i hi => by omega)
      have hhd := HS.out.head (k := 0) (by omega)
      go_wp2_with (first | (at_builtin; refine wpList_appi _ rfl (.const (.slice none 0 0)) (.tmp 36) 42 rfl w.heap.size 3 Try.underlying42 info_int _ 0 [] rfl (Goti.nil _ _ _) rfl hhd.nil hhd.rd (by omega) (Nat.le_refl _) ?_; intro v1 w1 q1 r1 _; have b1 : Below w.heap.size w w1 := (Below.refl _ _).grown r1 (Nat.le_refl _) (fun k hk => by cases hk); simp only [Nat.zero_add, List.nil_append] at q1) | (at_builtin; refine wpList_appi _ rfl (.tmp 38) (.tmp 40) 42 rfl w.heap.size 3 Try.underlying42 info_int _ _ _ rfl (q1.alloc _) rfl (fun e => by cases e) (ri_one w1 HX.out 3) (by omega) (by have := b1.size; simp; omega) ?_; intro v2 w2 q2 r2 _; have b2 : Below w.heap.size w w2 := (b1.alloc b1.size _).grown r2 (by have := b1.size; simp; omega) (fun k hk => (q1.row.lt k hk).1)) | (at_builtin; refine wpList_appi _ rfl (.tmp 42) (.tmp 45) 42 rfl w.heap.size 3 Try.underlying42 info_int _ _ _ rfl q2 rfl ((HS.out.keep b2).cut (k := 0) (m := n) (d := c) rfl rfl).nil ((HS.out.keep b2).cut (k := 0) (m := n) (d := c) rfl rfl).rd (by omega) b2.size ?_; intro v3 w3 q3 r3 _; have b3 : Below w.heap.size w w3 := b2.grown r3 b2.size (fun k hk => (q2.row.lt k hk).1)))
      obtain ⟨R, e, rfl, s3⟩ := q3.si
      go_wp2_with fail
      go_ret
      have hlist : l.take 0 ++ [x] ++ l.drop 0 = l.take 0 ++ x :: l.drop 0 := by simp
      rw [hlist] at s3
      exact ⟨R, _, e, rfl, _, s3, put_rise HR.out hHO.out (by omega) HU.out, put_mem l x 0, by omega, b3⟩
    | succ j =>
      obtain ⟨b, o, rfl, hbl, hc⟩ := HS.out.rd.at_ (by omega)
      have z1 := hc j (by omega)
      clear hc
      obtain ⟨v, hv⟩ : ∃ v, it l j = v := ⟨_, rfl⟩
      rw [hv] at z1
      by_cases g1 : x < v
      · go_wp2
        go_roundw
        case rel => exact ⟨j, by omega, by go_num, over_less hHO.out (by rw [hv]; exact g1), by simp⟩
        case measure => simp [intOf]
      · by_cases g2 : v = x
        · subst g2
          have HV := Lib.hid hv; clear hv
          go_wp2
          go_ret
          exact ⟨_, n, c, rfl, l, HS.out, HR.out, fun y => ⟨.inl, fun h => h.elim id (fun e => by subst e; rw [← HV.out]; exact it_mem (by omega))⟩, by omega, Below.refl _ _⟩
        · have g3 : v < x := by omega
          have HU := Lib.hid (show ∀ i, i < j + 1 → it l i < x from fun i hi => by
            rcases Nat.lt_or_eq_of_le (Nat.le_of_lt_succ hi) with h | h
            · have := rise_lt HR.out h (by omega); omega
            · subst h; omega)
          obtain ⟨m, hm⟩ : ∃ m, n = m + (j + 1) := ⟨n - (j + 1), by omega⟩
          obtain ⟨d, hd⟩ : ∃ d, c = d + (j + 1) := ⟨c - (j + 1), by omega⟩
          subst hm hd
          have hcut := fun w => run_cutI Try.prog 42 3 Try.underlying42 info_int (some ⟨b, o, none⟩) (j + 1) m d w (by omega) (by omega)
          rw [show ((j + 1 : Nat) : Int) = (j : Int) + 1 from rfl] at hcut
          have hhd := HS.out.head (k := (j + 1)) (by omega)
          go_wp2_with (first | (at_builtin; refine wpList_appi _ rfl (.const (.slice none 0 0)) (.tmp 36) 42 rfl w.heap.size 3 Try.underlying42 info_int _ 0 [] rfl (Goti.nil _ _ _) rfl hhd.nil hhd.rd (by omega) (Nat.le_refl _) ?_; intro v1 w1 q1 r1 _; have b1 : Below w.heap.size w w1 := (Below.refl _ _).grown r1 (Nat.le_refl _) (fun k hk => by cases hk); simp only [Nat.zero_add, List.nil_append] at q1) | (at_builtin; refine wpList_appi _ rfl (.tmp 38) (.tmp 40) 42 rfl w.heap.size 3 Try.underlying42 info_int _ _ _ rfl (q1.alloc _) rfl (fun e => by cases e) (ri_one w1 HX.out 3) (by omega) (by have := b1.size; simp; omega) ?_; intro v2 w2 q2 r2 _; have b2 : Below w.heap.size w w2 := (b1.alloc b1.size _).grown r2 (by have := b1.size; simp; omega) (fun k hk => (q1.row.lt k hk).1)) | (at_builtin; refine wpList_appi _ rfl (.tmp 42) (.tmp 45) 42 rfl w.heap.size 3 Try.underlying42 info_int _ _ _ rfl q2 rfl ((HS.out.keep b2).cut (k := (j + 1)) (m := m) (d := d) rfl rfl).nil ((HS.out.keep b2).cut (k := (j + 1)) (m := m) (d := d) rfl rfl).rd (by omega) b2.size ?_; intro v3 w3 q3 r3 _; have b3 : Below w.heap.size w w3 := b2.grown r3 b2.size (fun k hk => (q2.row.lt k hk).1)))
          obtain ⟨R, e, rfl, s3⟩ := q3.si
          go_wp2_with fail
          go_ret
          have hlist : l.take (j + 1) ++ [x] ++ l.drop (j + 1) = l.take (j + 1) ++ x :: l.drop (j + 1) := by simp
          rw [hlist] at s3
          exact ⟨R, _, e, rfl, _, s3, put_rise HR.out hHO.out (by omega) HU.out, put_mem l x (j + 1), by omega, b3⟩
end Go.Proofs.Ytgiknfmagmfniaa
