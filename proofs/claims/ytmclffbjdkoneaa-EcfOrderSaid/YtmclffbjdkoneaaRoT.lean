/- Rows of elements of any kind: append in a region that draws its order. No program. -/
import Derived.Test.YtmclffbjdkoneaaRo
import Derived.Lib.SmallJoins
import Derived.Lib.AppendZeros
import Derived.Deep.SlicePairs
import Derived.Deep.AppendLies
namespace Go.Proofs.Ytmclffbjdkoneaa
open Go.RowKit
section
variable {α : Type} [El α]
theorem run_appe {P : Program} (w : World) {A : Option Addr} {m c : Nat} {l : List α} (t ty : TypeId) (base : Nat) (e : TypeId) (ht : P.underlying t = some (.slice e)) (z : Value) (bytes : Nat) (hinfo : (P.info? e).map (fun i => (i.zero, i.size, i.bytes)) = some (some z, El.k α, bytes)) (hzs : z.cells.size = El.k α)
    (v : Value) (n : Nat) (xs : List α) (hown : Goe w base e v n xs) (hA : A = none → c = 0) (hr : Re w A m l) (hmax : n + m ≤ maxLen) (hsum : (n + m) * bytes ≤ 140737488355328) (hbase : base ≤ w.heap.size) :
    ∃ v' w', (Builtin.append_ #[t, t] ty #[v, .slice A m c]).run P w = .ok v' w' ∧ Goe w' base e v' (n + m) (xs ++ l) ∧ w.grownBy w' v.ownBlock := by
  obtain ⟨i0, hi, hz0, hz1, hz2⟩ := info_parts hinfo
  cases A with
  | none =>
    have hc0 := hA rfl
    have hm0 : m = 0 := by
      rcases Nat.eq_zero_or_pos m with h0 | h0
      · exact h0
      · obtain ⟨b, o', e', _⟩ := hr.at_ h0; cases e'
    subst hm0 hc0
    have hl0 : l = [] := List.eq_nil_of_length_eq_zero hr.len
    subst hl0
    exact ⟨v, w, run_append_owned_none (P := P) (w := w) base t ty e i0 (El.k α) ht hi v n _ hown.row, by simpa using hown, World.grownBy.refl w _⟩
  | some ad =>
    have hnews : ∀ j u, (evals l)[j]? = some u → w.cell? (ad.add j) = some u := by
      rcases Nat.eq_zero_or_pos m with h0 | h0
      · subst h0
        have hl0 : l = [] := List.eq_nil_of_length_eq_zero hr.len
        subst hl0
        intro j u hj; simp [evals] at hj
      · obtain ⟨b, o', e', _, hc⟩ := hr.at_ h0
        cases e'
        exact news_of_re hr.len hc
    obtain ⟨v', w', hrun, h2, h3, h4, h5⟩ := run_append_own_at (P := P) w base t ty e i0 z (El.k α) bytes ht hi hz0 hz1 hz2 hzs (El.pos (α := α)) v n _ hown.row ad m c (evals l) (by rw [evals_length, hr.len]) hnews (evals_cell l) hmax hsum hbase
    exact ⟨v', w', hrun, ⟨by rw [evals_app]; exact h2, hown.ok.app hr.ok⟩, h3⟩
theorem step_appe {P : Program} (w : World) {A : Option Addr} {m c : Nat} {l : List α} {ops : Array Oper} {o : Oper} {a : Act} {K : Act → World → Prop} {Q : Exit → Act → World → Prop} {E : Prop} (hgd : o.guard = .none) (s x : Operand) (t : TypeId)
    (ho : o.op = .call { callee := .builtin .append, args := #[s, x], argTypes := #[t, t] })
    (base : Nat) (e : TypeId) (ht : P.underlying t = some (.slice e)) (z : Value) (bytes : Nat) (hinfo : (P.info? e).map (fun i => (i.zero, i.size, i.bytes)) = some (some z, El.k α, bytes)) (hzs : z.cells.size = El.k α)
    (v : Value) (n : Nat) (xs : List α) (hs : a.eval s = v) (hx : a.eval x = .slice A m c) (hown : Goe w base e v n xs) (hA : A = .none → c = 0) (hr : Re w A m l) (hmax : n + m ≤ maxLen) (hsum : (n + m) * bytes ≤ 140737488355328) (hbase : base ≤ w.heap.size)
    (h : ∀ v' w', Goe w' base e v' (n + m) (xs ++ l) → w.grownBy w' v.ownBlock → K (a.put o.dst v') w') :
    if Region.wanted o (yielded ops a.tmps) = true then Oper.wp P o a w K Q else E := by
  have hw : Region.wanted o (yielded ops a.tmps) = true := by simp [Region.wanted, hgd]
  rw [if_pos hw]
  obtain ⟨v', w', hrun, h1, h2⟩ := run_appe (P := P) w t o.type base e ht z bytes hinfo hzs v n xs hown hA hr hmax hsum hbase
  exact Lib.wp_append_run w s x t t ho v (.slice A m c) hs hx v' w' hrun (h v' w' h1 h2)
end
end Go.Proofs.Ytmclffbjdkoneaa
