/- FlL10. -/
import Derived.Test.YtbijhkhkigdddaaGreatN2
set_option linter.all false
set_option maxRecDepth 100000
set_option maxHeartbeats 32000000
namespace Go.Proofs.YtbijhkhkigdddaaGreat
open Go.RowKit Go.Shelf
attribute [local go_sem] Oper.semAt_some
theorem St.less {n₀ S P : Nat} {l : List Nat} {W : World} {s : Fs} {f : Fv} {c : Cf} {now e : Int} (h : St n₀ (P :: l) W S s f c now e) : St n₀ l W S s f c now e := by
 have k : ∀ b, Nw n₀ (S :: P :: l) b → Nw n₀ (S :: l) b := fun b hb => ⟨hb.1, fun hx => hb.2 (by rcases List.mem_cons.1 hx with hx | hx <;> simp [hx])⟩
 exact ⟨h.bx, ⟨h.fm.l, h.fm.b, h.fm.d, h.fm.g, h.fm.wide, h.fm.p1.imp k, h.fm.p2.imp k, h.fm.p3.imp k, h.fm.p4.imp k⟩, h.s0, fun hx => h.off (List.mem_cons_of_mem _ hx), fun b hb => h.old b (List.mem_cons_of_mem _ hb)⟩
theorem lastOut_find {l : List Prt} {n : Nat} (h : l.length = n) : lastOut l = ((revs n).find? (fun x : Fin n => toutB (ge l x))).map Fin.val := by
 unfold lastOut revs
 rw [h, List.getLast?_eq_head?_reverse, ← List.filter_reverse, List.head?_filter]
 have e : (List.range n).reverse = ((List.finRange n).reverse).map Fin.val := by rw [List.map_reverse]; congr 1; apply List.ext_getElem <;> simp
 rw [e, List.find?_map]
 rfl
theorem probeL_none {l : List Prt} {n : Nat} (h : l.length = n) (hn : ∀ x ∈ revs n, toutB (ge l x) = false) : probeL l = l := by
 have e : lastOut l = none := by rw [lastOut_find h, List.find?_eq_none.2 (fun x hx => by simp [hn x hx])]; rfl
 unfold probeL; rw [e]
theorem probeL_at {l : List Prt} {n : Nat} (h : l.length = n) {x : Fin n} {ini rest : List (Fin n)} (e : revs n = ini ++ [x] ++ rest) (ht : toutB (ge l x) = true) (hn : ∀ y ∈ ini, toutB (ge l y) = false) : probeL l = l.set x (allLost (ge l x)) := by
 have e2 : lastOut l = some x.1 := by
  rw [lastOut_find h, e, List.find?_append, List.find?_append, List.find?_eq_none.2 (fun y hy => by simp [hn y hy])]
  simp [ht]
 unfold probeL; rw [e2]
theorem flprobe_any (n₀ : Nat) (l : List Nat) (S : Nat) (s : Fs) (f : Fv) (c : Cf) (now e : Int) (w : World) (h : St n₀ l w S s f c now e) (hap : ApL s) (hth : Thaw w s) (hok : FvOk f c) : Calls Tryz.prog 92 #[.pointer (some ⟨S, 0, none⟩)] w fun e' w' => e' = .returned (.tuple #[]) ∧ (∃ s', St n₀ l w' S s' { f with l := probeL f.l, pb := true } c now e) ∧ Fr n₀ l w w' := by
 have hlen := h.fm.l.rd.len
 have hl5 := ((smay_iff _).1 hok.l).1
 obtain ⟨P, hP⟩ : ∃ P, w.heap.size = P := ⟨_, rfl⟩
 have al : Below w.heap.size w (w.alloc (.cells #[.pointer (some ⟨S, 0, none⟩)] 97)) := (Zb).alloc Zr _
 have p1 := Bx.new w 97 [.pointer (some ⟨S, 0, none⟩)]
 have T1 := h.more Zr al (by simp)
 have F1 := h.fr al
 have TH1 := hth.keep h al
 have HW0 := Zh (w_valid hok)
 rw [hP] at p1 T1
 obtain ⟨A, hA⟩ : ∃ A, s.a1 = A := ⟨_, rfl⟩
 have HA := Zh hA; have HAP := Zh hap; have HOK := Zh hok; have HLEN := Zh hlen; have HL5 := Zh hl5
 have hPS : P ≠ S := by rw [← hP]; have := h.bx.lt; omega
 clear hap hok hlen hl5 hA
 refine (callsIn_wide (n := 4)).1 ?_
 have h1 : 1 ≤ 4 := by omega
 refine callsIn_of_wp_marks Tryz.func92 rfl trivial ?_ rfl
 simp only [Tryz.ntmps92, List.size_toArray, List.length_cons, List.length_nil, Nat.reduceAdd, Nat.reduceSub, Array.replicate_succ, Array.replicate_zero, List.push_toArray, List.append_toArray, List.nil_append, List.cons_append]
 refine wpIn_wide.2 ?_
 go_upto_region 1 with fail
 try rw [hP]
 generalize w.alloc (.cells #[.pointer (some ⟨S, 0, none⟩)] 97) = w1 at p1 T1 F1 TH1 ⊢
 clear al hth
 have cp := p1.cell 0 rfl; have cc := T1.bx.cell 32 rfl; have fr := T1.bx.free 32
 have T2 := T1.set (s' := s) (f' := { f with pb := true }) 32 (.bool true) rfl (T1.fm.same rfl rfl rfl rfl ⟨HW0.out.next, HW0.out.r1, HW0.out.r2, HW0.out.r3, HW0.out.r4, HW0.out.b1, HW0.out.b2, HW0.out.m1, HW0.out.m2, HW0.out.m3, HW0.out.m4, HW0.out.m5, HW0.out.d1, HW0.out.d2, HW0.out.k1, HW0.out.k2, HW0.out.k3, HW0.out.k4, HW0.out.k5, HW0.out.cw, HW0.out.th, HW0.out.t1, HW0.out.t2, HW0.out.rd⟩)
 have F2 := F1.trans (T1.frs 32 (.bool true)).tail
 have TH2 := TH1.setCell ⟨S, 32, none⟩ (.bool true)
 have p2 := p1.far (p := ⟨S, 32, none⟩) (show P ≠ S from hPS) (.bool true)
 have H2 := Zh (And.intro T2 (And.intro F2 (And.intro TH2 p2)))
 clear T1 F1 TH1 T2 F2 TH2 p2
 go_upto_region 2 with fail
 clear cp cc fr p1
 generalize w1.setCell ⟨S, 32, none⟩ (.bool true) = w2 at H2 ⊢
 have cp := H2.out.2.2.2.cell 0 rfl
 have cl : w2.cell? ⟨S, 1, none⟩ = some (.slice A s.n1 s.c1) := by have := H2.out.1.bx.cell 1 (v := .slice s.a1 s.n1 s.c1) rfl; rw [HA.out] at this; exact this
 go_wp2_with (go_at_call 122; refine (callsIn_wide.1 (back_in Fence.wide 4 trivial rfl A s.n1 s.c1 _)).mono ?_; rintro e w' ⟨rfl, rfl⟩)
 refine (wpIn_wide (n := 4)).1 ?_
 obtain ⟨LB, hLB⟩ : ∃ LB, w2.heap.size = LB := ⟨_, rfl⟩
 have al3 : Below w2.heap.size w2 (w2.alloc (.cells #[.slice A s.n1 s.c1] 22)) := (Zb).alloc Zr _
 have bL := Bx.new w2 22 [.slice A s.n1 s.c1]
 have T3 := H2.out.1.call al3
 have F3 := H2.out.2.1.trans (H2.out.1.fr al3).tail
 have TH3 := H2.out.2.2.1.keep H2.out.1 al3
 have p3 := H2.out.2.2.2.kept al3
 have hsz : (w2.alloc (.cells #[.slice A s.n1 s.c1] 22)).heap.size = LB + 1 := by simp [hLB]
 rw [hLB] at bL ⊢
 clear al3 H2 cp cl hLB
 generalize w2.alloc (.cells #[.slice A s.n1 s.c1] 22) = w3 at bL T3 F3 TH3 p3 hsz ⊢
 have hse : Se w3 A s.n1 s.c1 f.l := by have := T3.fm.l; rw [HA.out] at this; exact this
 have hnsz : n₀ ≤ LB + 1 := by rw [← hsz]; exact T3.size
 have hold : ∀ b ∈ l, b < LB + 1 := fun b hb => by rw [← hsz]; exact T3.old b (List.mem_cons_of_mem _ hb)
 refine wpIn_rangeFunc_ownH rfl h1 (gf := 170) (lb := #[.pointer (some ⟨LB, 0, none⟩)]) rfl trivial (enters_of Tryz.func170 (by kernel_rfl) rfl)
  (back_stops Fence.wide (4 - 1) trivial rfl (by omega) LB (LB + 1) A s.n1 s.c1 f.l (by have := HLEN.out; have := HL5.out; omega) w3 (by omega) (by omega) bL hse (fun b o e h0 => by obtain ⟨b', o', e', hl, _⟩ := hse.rd.at_ h0; rw [e] at e'; cases e'; omega)) Below.trans (belowK_b (by omega)) (Zb) (fun _ => rfl)
  (fun pre W => (St n₀ (P :: l) W S s { f with pb := true } c now e ∧ Fr n₀ l w W ∧ Thaw W s ∧ (∀ x ∈ pre, toutB (ge f.l x) = false) ∧ Bx W P 97 [.pointer (some ⟨S, 0, none⟩)]) ∧ LB + 1 ≤ W.heap.size)
  (fun cd pre W => (cd = .ret ∧ ∃ (x : Fin s.n1) (ini : List (Fin s.n1)), pre = ini ++ [x] ∧ toutB (ge f.l x) = true ∧ (∀ y ∈ ini, toutB (ge f.l y) = false) ∧ St n₀ (P :: l) W S s { f with l := f.l.set x (allLost (ge f.l x)), pb := true } c now e ∧ Fr n₀ l w W) ∧ LB + 1 ≤ W.heap.size)
  (fun s' X Y row hs hg hr => ⟨⟨hs.1.1.own hg (fun r e => (hr r e).2), hs.1.2.1.trans ⟨(Zb).grown hg (by omega) (fun k hk => by have := (hr k hk).1; omega), fun b hb => hg.block b (by have := hold b hb; omega) (fun e => by have := (hr b e.symm).1; have := hold b hb; omega)⟩, hs.1.2.2.1.own hs.1.1 hg (fun r e => (hr r e).2), hs.1.2.2.2.1, bxs_own P _ (fun (_ : Unit) => [.pointer (some ⟨S, 0, none⟩)]) () X Y row hs.1.2.2.2.2 hg (fun r e => (hr r e).2)⟩, Zn hs.2 hg.size⟩)
  (fun cd s' X Y row hs hg hr => by
   obtain ⟨⟨hcd, x, ini, e1, e3, e4, e5, e6⟩, e7⟩ := hs
   exact ⟨⟨hcd, x, ini, e1, e3, e4, e5.own hg (fun r e => (hr r e).2), e6.trans ⟨(Zb).grown hg (by omega) (fun k hk => by have := (hr k hk).1; omega), fun b hb => hg.block b (by have := hold b hb; omega) (fun e => by have := (hr b e.symm).1; have := hold b hb; omega)⟩⟩, Zn e7 hg.size⟩)
  ⟨⟨T3, F3, TH3, (fun x hx => by cases hx), p3⟩, by omega⟩
  (fun (x : Fin s.n1) a' W => ∃ Pb, LB + 1 ≤ Pb ∧ Bx W Pb 57 [.int .i64 (ge f.l x).seq, .int .i64 (ge f.l x).len, .int .i64 (ge f.l x).dsn, .int .i64 (ge f.l x).at_, .int .i64 (ge f.l x).tries, .bool (ge f.l x).came, .bool (ge f.l x).lost, .int .i64 (ge f.l x).total, .int .i64 (ge f.l x).last] ∧ a' = { tmps := #[.pointer (some ⟨S, 0, none⟩), .pointer (some ⟨P, 0, none⟩), .int .i64 ((x : Nat) : Int), .pointer (some ⟨Pb, 0, none⟩), .pointer (some ⟨S, 0, none⟩), .pointer (some ⟨S, 0, none⟩), .pointer (some ⟨S, 0, none⟩), .pointer (some ⟨S, 32, none⟩), .pointer (some ⟨S, 0, none⟩), .pointer (some ⟨S, 0, none⟩), .pointer (some ⟨S, 0, none⟩), .pointer (some ⟨S, 1, none⟩), .slice A s.n1 s.c1, .func (.func 170) #[] #[.pointer (some ⟨LB, 0, none⟩)], .int .i64 ((x : Nat) : Int), .agg #[.int .i64 (ge f.l x).seq, .int .i64 (ge f.l x).len, .int .i64 (ge f.l x).dsn, .int .i64 (ge f.l x).at_, .int .i64 (ge f.l x).tries, .bool (ge f.l x).came, .bool (ge f.l x).lost, .int .i64 (ge f.l x).total, .int .i64 (ge f.l x).last], undef, undef, undef, undef, undef, undef, undef, undef, undef, undef], defers := [] })
  (fun x a' _ X Y row hs hg hr => by obtain ⟨Pb, e1, e2, e3⟩ := hs; exact ⟨Pb, e1, bxs_own Pb _ (fun (_ : Unit) => [.int .i64 (ge f.l x).seq, .int .i64 (ge f.l x).len, .int .i64 (ge f.l x).dsn, .int .i64 (ge f.l x).at_, .int .i64 (ge f.l x).tries, .bool (ge f.l x).came, .bool (ge f.l x).lost, .int .i64 (ge f.l x).total, .int .i64 (ge f.l x).last]) () X Y row e2 hg (fun r e => (hr r e).2), e3⟩)
  ?assign ?body ?done ?stop
 case assign =>
  rintro r pre x W K ⟨⟨t, fr, th, ho, bp⟩, hSz⟩ hK
  gi_wp2
  exact hK _ _ ((KeepsOthers.alloc _ _).from _) ((Zb).alloc hSz _) ⟨⟨t.call ((Zb).alloc Zr _), fr.trans (t.fr ((Zb).alloc Zr _)).tail, th.keep t ((Zb).alloc Zr _), ho, bp.kept ((Zb).alloc Zr _)⟩, by simp; omega⟩ ⟨W.heap.size, hSz, Bx.new W _ _, rfl⟩
 case body =>
  rintro r pre x a' W hl hr ⟨⟨t, fr, th, ho, bp⟩, hSz⟩ ⟨Pb, hPb, bx, rfl⟩ hlt
  have cp := bp.cell 0 rfl
  have b0 := bx.cell 0 rfl
  have b1 := bx.cell 1 rfl
  have b2 := bx.cell 2 rfl
  have b3 := bx.cell 3 rfl
  have b4 := bx.cell 4 rfl
  have b5 := bx.cell 5 rfl
  have b6 := bx.cell 6 rfl
  have b7 := bx.cell 7 rfl
  have b8 := bx.cell 8 rfl
  have H2 := Zh (And.intro t (And.intro fr (And.intro th (And.intro ho (And.intro bp bx)))))
  clear t fr th ho bp bx
  cases hto : toutB (ge f.l x) with
  | false =>
   have hcall : Calls Tryz.prog 154 #[.agg #[.int .i64 (ge f.l x).seq, .int .i64 (ge f.l x).len, .int .i64 (ge f.l x).dsn, .int .i64 (ge f.l x).at_, .int .i64 (ge f.l x).tries, .bool (ge f.l x).came, .bool (ge f.l x).lost, .int .i64 (ge f.l x).total, .int .i64 (ge f.l x).last]] W fun e w' => e = .returned (.bool false) ∧ Below W.heap.size W w' := by have := outst_any (ge f.l x) W; rw [hto] at this; exact this
   have HTO := Zh hto
   clear hto
   gi_wp2_with (refine ⟨trivial, ?_⟩; gi_at_call 154; refine (callsIn_wide.2 hcall).mono ?_; rintro e w' ⟨rfl, hb1⟩)
   refine ⟨(show KeepsOthers W w' from ⟨hb1.size, fun k o hk _ => (hb1.block k (Array.getElem?_eq_some_iff.1 hk).1).trans hk⟩).from _, hb1.mono hSz, ⟨H2.out.1.call hb1, H2.out.2.1.trans (H2.out.1.fr hb1).tail, H2.out.2.2.1.keep H2.out.1 hb1, fun y hy => ?_, H2.out.2.2.2.2.1.kept hb1⟩, Zn hSz hb1.size⟩
   rcases List.mem_append.1 hy with hy | hy
   ·exact H2.out.2.2.2.1 y hy
   ·rw [List.mem_singleton.1 hy]; exact HTO.out
  | true =>
   have hcall : Calls Tryz.prog 154 #[.agg #[.int .i64 (ge f.l x).seq, .int .i64 (ge f.l x).len, .int .i64 (ge f.l x).dsn, .int .i64 (ge f.l x).at_, .int .i64 (ge f.l x).tries, .bool (ge f.l x).came, .bool (ge f.l x).lost, .int .i64 (ge f.l x).total, .int .i64 (ge f.l x).last]] W fun e w' => e = .returned (.bool true) ∧ Below W.heap.size W w' := by have := outst_any (ge f.l x) W; rw [hto] at this; exact this
   have HTO := Zh hto
   clear hto
   obtain ⟨bb, oo, rfl, _, _⟩ := hse.rd.at_ (show 0 < s.n1 by have := x.2; omega)
   gi_wp2_with (refine ⟨trivial, ?_⟩; gi_at_call 154; refine (callsIn_wide.2 hcall).mono ?_; rintro e w' ⟨rfl, hb1⟩; have T5 := H2.out.1.call hb1; have c5 := (H2.out.2.2.2.2.1.kept hb1).cell 0 rfl; have cS : w'.cell? ⟨S, 1, none⟩ = some (.slice (some ⟨bb, oo, none⟩) s.n1 s.c1) := by { have := T5.bx.cell 1 (v := .slice s.a1 s.n1 s.c1) rfl; rw [HA.out] at this; exact this }; have c6 := T5.part HA.out x.2 6 (u := .bool (ge f.l x).lost) rfl; have hfr := (H2.out.2.2.1.keep H2.out.1 hb1) (by omega) bb oo none HA.out (oo + x * 9 + 6))
   have hw9 := (parts_bd HOK.out.l _ (ge_mem (show (x : Nat) < f.l.length by rw [HLEN.out]; exact x.2))).w
   have hal : allLost (ge f.l x) = { ge f.l x with lost := true } := by unfold allLost; rw [if_pos HTO.out]
   have hput := T5.put1 HAP.out (k := x) (j := 6) (u := .bool true) (y := { ge f.l x with lost := true }) HA.out x.2 (by omega) rfl ⟨hw9.seq, hw9.len, hw9.dsn, hw9.at_, hw9.tries, hw9.total, hw9.last⟩
   rw [← hal] at hput
   refine ⟨((show KeepsOthers W w' from ⟨hb1.size, fun k o hk _ => (hb1.block k (Array.getElem?_eq_some_iff.1 hk).1).trans hk⟩).trans (KeepsOthers.setCell _ _ _)).from _, ⟨rfl, x, pre, rfl, HTO.out, H2.out.2.2.2.1, hput.1, H2.out.2.1.trans ((H2.out.1.fr hb1).tail.trans hput.2.1.tail)⟩, by simp; exact Zn hSz hb1.size⟩
 case done =>
  rintro D ys W hD rfl ⟨⟨t, fr, th, ho, bp⟩, hSz⟩ hK
  have HPL := Zh (probeL_none HLEN.out ho)
  gi_wp2
  refine ⟨by simp, .inl ⟨_, _, rfl, run_takeDeferred hK, ?_⟩⟩
  have t9 := t.own (grownBy_putObj' _ D (.deferred none)) (fun r e => by cases e; exact ⟨_, hK, rfl⟩)
  have f9 := fr.trans ⟨(Zb).grown (grownBy_putObj' W D (.deferred none)) (by have := t.size; omega) (fun k hk => by cases hk; omega), fun b hb => (grownBy_putObj' W D (.deferred none)).block b (by have := hold b hb; omega) (fun e => by cases e; have := hold D hb; omega)⟩
  rw [HPL.out]
  exact ⟨.tuple #[], by simp [results, Tryz.f92, go_sem], rfl, ⟨s, t9.less⟩, f9⟩
 case stop =>
  rintro D cd pre W hD ⟨rest, hk⟩ ⟨⟨rfl, x, ini, rfl, ht, hi, t, fr⟩, hSz⟩ hK
  have HPL := Zh (probeL_at HLEN.out hk ht hi)
  refine wpIn_wide.2 ?_
  go_wp2_with fail
  refine ⟨by simp, .inl ⟨_, _, rfl, run_takeDeferred hK, ?_⟩⟩
  have t9 := t.own (grownBy_putObj' _ D (.deferred none)) (fun r e => by cases e; exact ⟨_, hK, rfl⟩)
  have f9 := fr.trans ⟨(Zb).grown (grownBy_putObj' W D (.deferred none)) (by have := t.size; omega) (fun k hk => by cases hk; omega), fun b hb => (grownBy_putObj' W D (.deferred none)).block b (by have := hold b hb; omega) (fun e => by cases e; have := hold D hb; omega)⟩
  rw [HPL.out]
  exact ⟨.tuple #[], by simp [results, Tryz.f92, go_sem], rfl, ⟨s, t9.less⟩, f9⟩
end Go.Proofs.YtbijhkhkigdddaaGreat
