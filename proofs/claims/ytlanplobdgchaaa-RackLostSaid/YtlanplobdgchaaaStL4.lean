/- Package sent as it landed: slices.Clone, Send as contracts of the calls. -/
import Derived.Test.YtlanplobdgchaaaStL2
import Derived.Test.YtlanplobdgchaaaStInfo
import Derived.Test.YtlanplobdgchaaaRoT
namespace Go.Proofs.Ytlanplobdgchaaa
open Go.RowKit
set_option linter.unusedVariables false
set_option linter.unusedSimpArgs false

set_option maxRecDepth 100000 in
set_option maxHeartbeats 8000000 in
theorem stclone_any (A : Option Addr) (n c : Nat) (l : List Prt) (w : World) (hr : Se w A n c l) (hn : n ≤ 1000000) :
    Calls Try.prog 29 #[.slice A n c] w fun e w' => ∃ R d, e = .returned (.slice R n d) ∧ Goe w' w.heap.size 26 (.slice R n d) n l ∧ Below w.heap.size w w' := by
  have qn := fun (w : World) (a : Option Addr) (n c n' c' : Nat) => Lib.run_eql_slice_nil (P := Try.prog) w _ _ a n c n' c' Try.underlying24
  cases A with
  | none =>
    have hc := hr.nil rfl
    have hle := hr.le
    obtain rfl : n = 0 := by omega
    have hz := hr.rd.len
    obtain rfl : l = [] := List.eq_nil_of_length_eq_zero hz
    clear hc hle hz
    go_enter Try.func29, Try.ntmps29
    go_wp2
    go_ret
    exact ⟨none, 0, rfl, Goe.none _ _ _, Below.refl _ _⟩
  | some a =>
    have hmade : (w.alloc (.cells #[] 26)).ownsRow w.heap.size 26 (El.k Prt) (.slice (some ⟨w.heap.size, 0, none⟩) 0 0) 0 (evals ([] : List Prt)) := World.ownsRow_made w #[] 0 (Nat.le_refl _) (Nat.zero_le _) rfl
    go_enter Try.func29, Try.ntmps29
    go_wp2_with (at_builtin; refine wpList_appe _ rfl (.tmp 5) (.tmp 6) 24 rfl w.heap.size 26 Try.underlying24 (.agg #[.int .i64 0, .int .i64 0, .int .i64 0, .int .i64 0, .int .i64 0, .bool false, .bool false, .int .i64 0, .int .i64 0]) 64 info_prt (by decide) _ 0 ([] : List Prt) rfl ⟨hmade, AllOk.nil⟩ rfl hr.nil (hr.rd.keep ((Below.refl _ _).alloc (Nat.le_refl _) _)) (by unfold maxLen; omega) (by omega) (by simp) ?_; intro v1 w1 hown1 hgrow1 hat1)
    have b1 : Below w.heap.size w w1 := ((Below.refl _ _).alloc (Nat.le_refl _) _).grown hgrow1 (by simp) (fun k hk => (hmade.lt k hk).1)
    simp only [Nat.zero_add, List.nil_append] at hown1
    obtain ⟨R, d, ev, hsl⟩ := hown1.se
    subst ev
    go_wp2
    go_ret
    exact ⟨R, d, rfl, hown1, b1⟩

theorem goe_mono {w : World} {base base' e : Nat} {v : Value} {n : Nat} {l : List Prt} (h : Goe w base e v n l) (hb : base' ≤ base) : Goe w base' e v n l := by
  refine ⟨⟨h.row.1, ?_⟩, h.ok⟩
  rcases h.row.2 with h1 | ⟨g, cap, cur, e1, e2, e3⟩
  · exact .inl h1
  · exact .inr ⟨g, cap, cur, e1, Nat.le_trans hb e2, e3⟩
theorem prts_app {l : List Prt} {x : Prt} : chainB (l ++ [x]) = true ↔ chainB l = true ∧ folB l x = true := by
  have hlen : (l ++ [x]).length = l.length + 1 := by simp
  have ht : (l ++ [x]).take l.length = l := by simp
  have hl : folB l x = true ↔ LinkOk (l ++ [x]) l.length := by
    have := fol_link (l := l ++ [x]) (k := l.length) (by rw [hlen]; omega)
    rwa [ht, ge_snoc] at this
  rw [chainB_iff, chainB_iff, hl, hlen]
  have hlk : ∀ i, i < l.length → (LinkOk (l ++ [x]) i ↔ LinkOk l i) := fun i hi => by
    unfold LinkOk
    rw [ge_app hi]
    refine and_congr_right fun _ => ⟨fun h h0 => ?_, fun h h0 => ?_⟩
    · rw [h h0, ge_app (by omega)]
    · rw [h h0, ge_app (by omega)]
  exact ⟨fun h => ⟨fun i hi => (hlk i hi).1 (h i (by omega)), h _ (by omega)⟩, fun ⟨h, k⟩ i hi => by
    by_cases e : i = l.length
    · subst e; exact k
    · exact (hlk i (by omega)).2 (h i (by omega))⟩
theorem send_bad {l : List Prt} {x : Prt} (h : ¬ (smayB l = true ∧ folB l x = true)) : sendR l x = ([], 1) := by
  unfold sendR
  rw [if_neg (fun k => h ⟨?_, ?_⟩)]
  · rw [smay_iff]; exact ⟨k.2, (chainB_iff l).1 (prts_app.1 k.1).1⟩
  · exact (prts_app.1 k.1).2
theorem send_full {l : List Prt} {x : Prt} (h : smayB l = true ∧ folB l x = true) (k : l.length = 500) : sendR l x = ([], 4) := by
  unfold sendR
  have := (smay_iff l).1 h.1
  rw [if_pos ⟨prts_app.2 ⟨(chainB_iff l).2 this.2, h.2⟩, this.1⟩, if_pos k]
theorem send_ok {l : List Prt} {x : Prt} (h : smayB l = true ∧ folB l x = true) (k : l.length ≠ 500) : sendR l x = (l ++ [x], 0) := by
  unfold sendR
  have := (smay_iff l).1 h.1
  rw [if_pos ⟨prts_app.2 ⟨(chainB_iff l).2 this.2, h.2⟩, this.1⟩, if_neg k]

end Go.Proofs.Ytlanplobdgchaaa
