/- FlL10 FlL18 VgL1 VgRef2. -/
import Derived.Test.YtbijhkhkigdddaaGreatP29
set_option linter.all false
set_option maxRecDepth 100000
set_option maxHeartbeats 32000000
namespace Go.Proofs.YtbijhkhkigdddaaGreat
open Go.RowKit Go.Shelf
attribute [local go_sem] Oper.semAt_some
theorem St.less {n₀ S P : Nat} {l : List Nat} {W : World} {s : Fs} {f : Fv} {c : Cf} {now e : Int} (h : St n₀ (P :: l) W S s f c now e) : St n₀ l W S s f c now e := by
 have k : ∀ b, Nw n₀ (S :: P :: l) b → Nw n₀ (S :: l) b := fun b hb => ⟨hb.1, fun hx => hb.2 (by rcases List.mem_cons.1 hx with hx | hx <;> simp [hx])⟩
 exact ⟨h.bx, ⟨h.fm.l, h.fm.b, h.fm.d, h.fm.g, h.fm.wide, h.fm.p1.imp k, h.fm.p2.imp k, h.fm.p3.imp k, h.fm.p4.imp k⟩, h.s0, fun hx => h.off (List.mem_cons_of_mem _ hx), fun b hb => h.old b (List.mem_cons_of_mem _ hb)⟩
theorem lastOut_find {l : List Prt} {n : Nat} (h : l.length = n) : lastOut l = ((revs n).find? (fun x : Fin n => toutB (ge l x))).map Fin.val := by
 unfold lastOut revs
 rw [h, List.getLast?_eq_head?_reverse, ← List.filter_reverse, List.head?_filter]
 have e : (List.range n).reverse = ((List.finRange n).reverse).map Fin.val := by rw [List.map_reverse]; congr 1; apply List.ext_getElem <;> simp
 rw [e, List.find?_map]
 rfl
theorem probeL_none {l : List Prt} {n : Nat} (h : l.length = n) (hn : ∀ x ∈ revs n, toutB (ge l x) = false) : probeL l = l := by
 have e : lastOut l = none := by rw [lastOut_find h, List.find?_eq_none.2 (fun x hx => by simp [hn x hx])]; rfl
 unfold probeL; rw [e]
theorem probeL_at {l : List Prt} {n : Nat} (h : l.length = n) {x : Fin n} {ini rest : List (Fin n)} (e : revs n = ini ++ [x] ++ rest) (ht : toutB (ge l x) = true) (hn : ∀ y ∈ ini, toutB (ge l y) = false) : probeL l = l.set x (allLost (ge l x)) := by
 have e2 : lastOut l = some x.1 := by
  rw [lastOut_find h, e, List.find?_append, List.find?_append, List.find?_eq_none.2 (fun y hy => by simp [hn y hy])]
  simp [ht]
 unfold probeL; rw [e2]
theorem flprobe_any (n₀ : Nat) (l : List Nat) (S : Nat) (s : Fs) (f : Fv) (c : Cf) (now e : Int) (w : World) (h : St n₀ l w S s f c now e) (hap : ApL s) (hth : Thaw w s) (hok : FvOk f c) : Calls Tryz.prog 92 #[.pointer (some ⟨S, 0, none⟩)] w fun e' w' => e' = .returned (.tuple #[]) ∧ (∃ s', St n₀ l w' S s' { f with l := probeL f.l, pb := true } c now e) ∧ Fr n₀ l w w' := by
 have hlen := h.fm.l.rd.len
 have hl5 := ((smay_iff _).1 hok.l).1
 obtain ⟨P, hP⟩ : ∃ P, w.heap.size = P := ⟨_, rfl⟩
 have al : Below w.heap.size w (w.alloc (.cells #[.pointer (some ⟨S, 0, none⟩)] 97)) := (Zb).alloc Zr _
 have p1 := Bx.new w 97 [.pointer (some ⟨S, 0, none⟩)]
 have T1 := h.more Zr al (by simp)
 have F1 := h.fr al
 have TH1 := hth.keep h al
 have HW0 := Zh (w_valid hok)
 rw [hP] at p1 T1
 obtain ⟨A, hA⟩ : ∃ A, s.a1 = A := ⟨_, rfl⟩
 have HA := Zh hA; have HAP := Zh hap; have HOK := Zh hok; have HLEN := Zh hlen; have HL5 := Zh hl5
 have hPS : P ≠ S := by rw [← hP]; have := h.bx.lt; omega
 clear hap hok hlen hl5 hA
 refine (callsIn_wide (n := 4)).1 ?_
 have h1 : 1 ≤ 4 := by omega
 refine callsIn_of_wp_marks Tryz.func92 rfl trivial ?_ rfl
 simp only [Tryz.ntmps92, List.size_toArray, List.length_cons, List.length_nil, Nat.reduceAdd, Nat.reduceSub, Array.replicate_succ, Array.replicate_zero, List.push_toArray, List.append_toArray, List.nil_append, List.cons_append]
 refine wpIn_wide.2 ?_
 go_upto_region 1 with fail
 try rw [hP]
 generalize w.alloc (.cells #[.pointer (some ⟨S, 0, none⟩)] 97) = w1 at p1 T1 F1 TH1 ⊢
 clear al hth
 have cp := p1.cell 0 rfl; have cc := T1.bx.cell 32 rfl; have fr := T1.bx.free 32
 have T2 := T1.set (s' := s) (f' := { f with pb := true }) 32 (.bool true) rfl (T1.fm.same rfl rfl rfl rfl ⟨HW0.out.next, HW0.out.r1, HW0.out.r2, HW0.out.r3, HW0.out.r4, HW0.out.b1, HW0.out.b2, HW0.out.m1, HW0.out.m2, HW0.out.m3, HW0.out.m4, HW0.out.m5, HW0.out.d1, HW0.out.d2, HW0.out.k1, HW0.out.k2, HW0.out.k3, HW0.out.k4, HW0.out.k5, HW0.out.cw, HW0.out.th, HW0.out.t1, HW0.out.t2, HW0.out.rd⟩)
 have F2 := F1.trans (T1.frs 32 (.bool true)).tail
 have TH2 := TH1.setCell ⟨S, 32, none⟩ (.bool true)
 have p2 := p1.far (p := ⟨S, 32, none⟩) (show P ≠ S from hPS) (.bool true)
 have H2 := Zh (And.intro T2 (And.intro F2 (And.intro TH2 p2)))
 clear T1 F1 TH1 T2 F2 TH2 p2
 go_upto_region 2 with fail
 clear cp cc fr p1
 generalize w1.setCell ⟨S, 32, none⟩ (.bool true) = w2 at H2 ⊢
 have cp := H2.out.2.2.2.cell 0 rfl
 have cl : w2.cell? ⟨S, 1, none⟩ = some (.slice A s.n1 s.c1) := by have := H2.out.1.bx.cell 1 (v := .slice s.a1 s.n1 s.c1) rfl; rw [HA.out] at this; exact this
 go_wp2_with (go_at_call 122; refine (callsIn_wide.1 (back_in Fence.wide 4 trivial rfl A s.n1 s.c1 _)).mono ?_; rintro e w' ⟨rfl, rfl⟩)
 refine (wpIn_wide (n := 4)).1 ?_
 obtain ⟨LB, hLB⟩ : ∃ LB, w2.heap.size = LB := ⟨_, rfl⟩
 have al3 : Below w2.heap.size w2 (w2.alloc (.cells #[.slice A s.n1 s.c1] 22)) := (Zb).alloc Zr _
 have bL := Bx.new w2 22 [.slice A s.n1 s.c1]
 have T3 := H2.out.1.call al3
 have F3 := H2.out.2.1.trans (H2.out.1.fr al3).tail
 have TH3 := H2.out.2.2.1.keep H2.out.1 al3
 have p3 := H2.out.2.2.2.kept al3
 have hsz : (w2.alloc (.cells #[.slice A s.n1 s.c1] 22)).heap.size = LB + 1 := by simp [hLB]
 rw [hLB] at bL ⊢
 clear al3 H2 cp cl hLB
 generalize w2.alloc (.cells #[.slice A s.n1 s.c1] 22) = w3 at bL T3 F3 TH3 p3 hsz ⊢
 have hse : Se w3 A s.n1 s.c1 f.l := by have := T3.fm.l; rw [HA.out] at this; exact this
 have hnsz : n₀ ≤ LB + 1 := by rw [← hsz]; exact T3.size
 have hold : ∀ b ∈ l, b < LB + 1 := fun b hb => by rw [← hsz]; exact T3.old b (List.mem_cons_of_mem _ hb)
 refine wpIn_rangeFunc_ownH rfl h1 (gf := 170) (lb := #[.pointer (some ⟨LB, 0, none⟩)]) rfl trivial (enters_of Tryz.func170 (by kernel_rfl) rfl)
  (back_stops Fence.wide (4 - 1) trivial rfl (by omega) LB (LB + 1) A s.n1 s.c1 f.l (by have := HLEN.out; have := HL5.out; omega) w3 (by omega) (by omega) bL hse (fun b o e h0 => by obtain ⟨b', o', e', hl, _⟩ := hse.rd.at_ h0; rw [e] at e'; cases e'; omega)) Below.trans (belowK_b (by omega)) (Zb) (fun _ => rfl)
  (fun pre W => (St n₀ (P :: l) W S s { f with pb := true } c now e ∧ Fr n₀ l w W ∧ Thaw W s ∧ (∀ x ∈ pre, toutB (ge f.l x) = false) ∧ Bx W P 97 [.pointer (some ⟨S, 0, none⟩)]) ∧ LB + 1 ≤ W.heap.size)
  (fun cd pre W => (cd = .ret ∧ ∃ (x : Fin s.n1) (ini : List (Fin s.n1)), pre = ini ++ [x] ∧ toutB (ge f.l x) = true ∧ (∀ y ∈ ini, toutB (ge f.l y) = false) ∧ St n₀ (P :: l) W S s { f with l := f.l.set x (allLost (ge f.l x)), pb := true } c now e ∧ Fr n₀ l w W) ∧ LB + 1 ≤ W.heap.size)
  (fun s' X Y row hs hg hr => ⟨⟨hs.1.1.own hg (fun r e => (hr r e).2), hs.1.2.1.trans ⟨(Zb).grown hg (by omega) (fun k hk => by have := (hr k hk).1; omega), fun b hb => hg.block b (by have := hold b hb; omega) (fun e => by have := (hr b e.symm).1; have := hold b hb; omega)⟩, hs.1.2.2.1.own hs.1.1 hg (fun r e => (hr r e).2), hs.1.2.2.2.1, bxs_own P _ (fun (_ : Unit) => [.pointer (some ⟨S, 0, none⟩)]) () X Y row hs.1.2.2.2.2 hg (fun r e => (hr r e).2)⟩, Zn hs.2 hg.size⟩)
  (fun cd s' X Y row hs hg hr => by
   obtain ⟨⟨hcd, x, ini, e1, e3, e4, e5, e6⟩, e7⟩ := hs
   exact ⟨⟨hcd, x, ini, e1, e3, e4, e5.own hg (fun r e => (hr r e).2), e6.trans ⟨(Zb).grown hg (by omega) (fun k hk => by have := (hr k hk).1; omega), fun b hb => hg.block b (by have := hold b hb; omega) (fun e => by have := (hr b e.symm).1; have := hold b hb; omega)⟩⟩, Zn e7 hg.size⟩)
  ⟨⟨T3, F3, TH3, (fun x hx => by cases hx), p3⟩, by omega⟩
  (fun (x : Fin s.n1) a' W => ∃ Pb, LB + 1 ≤ Pb ∧ Bx W Pb 57 [.int .i64 (ge f.l x).seq, .int .i64 (ge f.l x).len, .int .i64 (ge f.l x).dsn, .int .i64 (ge f.l x).at_, .int .i64 (ge f.l x).tries, .bool (ge f.l x).came, .bool (ge f.l x).lost, .int .i64 (ge f.l x).total, .int .i64 (ge f.l x).last] ∧ a' = { tmps := #[.pointer (some ⟨S, 0, none⟩), .pointer (some ⟨P, 0, none⟩), .int .i64 ((x : Nat) : Int), .pointer (some ⟨Pb, 0, none⟩), .pointer (some ⟨S, 0, none⟩), .pointer (some ⟨S, 0, none⟩), .pointer (some ⟨S, 0, none⟩), .pointer (some ⟨S, 32, none⟩), .pointer (some ⟨S, 0, none⟩), .pointer (some ⟨S, 0, none⟩), .pointer (some ⟨S, 0, none⟩), .pointer (some ⟨S, 1, none⟩), .slice A s.n1 s.c1, .func (.func 170) #[] #[.pointer (some ⟨LB, 0, none⟩)], .int .i64 ((x : Nat) : Int), .agg #[.int .i64 (ge f.l x).seq, .int .i64 (ge f.l x).len, .int .i64 (ge f.l x).dsn, .int .i64 (ge f.l x).at_, .int .i64 (ge f.l x).tries, .bool (ge f.l x).came, .bool (ge f.l x).lost, .int .i64 (ge f.l x).total, .int .i64 (ge f.l x).last], undef, undef, undef, undef, undef, undef, undef, undef, undef, undef], defers := [] })
  (fun x a' _ X Y row hs hg hr => by obtain ⟨Pb, e1, e2, e3⟩ := hs; exact ⟨Pb, e1, bxs_own Pb _ (fun (_ : Unit) => [.int .i64 (ge f.l x).seq, .int .i64 (ge f.l x).len, .int .i64 (ge f.l x).dsn, .int .i64 (ge f.l x).at_, .int .i64 (ge f.l x).tries, .bool (ge f.l x).came, .bool (ge f.l x).lost, .int .i64 (ge f.l x).total, .int .i64 (ge f.l x).last]) () X Y row e2 hg (fun r e => (hr r e).2), e3⟩)
  ?assign ?body ?done ?stop
 case assign =>
  rintro r pre x W K ⟨⟨t, fr, th, ho, bp⟩, hSz⟩ hK
  gi_wp2
  exact hK _ _ ((KeepsOthers.alloc _ _).from _) ((Zb).alloc hSz _) ⟨⟨t.call ((Zb).alloc Zr _), fr.trans (t.fr ((Zb).alloc Zr _)).tail, th.keep t ((Zb).alloc Zr _), ho, bp.kept ((Zb).alloc Zr _)⟩, by simp; omega⟩ ⟨W.heap.size, hSz, Bx.new W _ _, rfl⟩
 case body =>
  rintro r pre x a' W hl hr ⟨⟨t, fr, th, ho, bp⟩, hSz⟩ ⟨Pb, hPb, bx, rfl⟩ hlt
  have cp := bp.cell 0 rfl
  have b0 := bx.cell 0 rfl
  have b1 := bx.cell 1 rfl
  have b2 := bx.cell 2 rfl
  have b3 := bx.cell 3 rfl
  have b4 := bx.cell 4 rfl
  have b5 := bx.cell 5 rfl
  have b6 := bx.cell 6 rfl
  have b7 := bx.cell 7 rfl
  have b8 := bx.cell 8 rfl
  have H2 := Zh (And.intro t (And.intro fr (And.intro th (And.intro ho (And.intro bp bx)))))
  clear t fr th ho bp bx
  cases hto : toutB (ge f.l x) with
  | false =>
   have hcall : Calls Tryz.prog 154 #[.agg #[.int .i64 (ge f.l x).seq, .int .i64 (ge f.l x).len, .int .i64 (ge f.l x).dsn, .int .i64 (ge f.l x).at_, .int .i64 (ge f.l x).tries, .bool (ge f.l x).came, .bool (ge f.l x).lost, .int .i64 (ge f.l x).total, .int .i64 (ge f.l x).last]] W fun e w' => e = .returned (.bool false) ∧ Below W.heap.size W w' := by have := outst_any (ge f.l x) W; rw [hto] at this; exact this
   have HTO := Zh hto
   clear hto
   gi_wp2_with (refine ⟨trivial, ?_⟩; gi_at_call 154; refine (callsIn_wide.2 hcall).mono ?_; rintro e w' ⟨rfl, hb1⟩)
   refine ⟨(show KeepsOthers W w' from ⟨hb1.size, fun k o hk _ => (hb1.block k (Array.getElem?_eq_some_iff.1 hk).1).trans hk⟩).from _, hb1.mono hSz, ⟨H2.out.1.call hb1, H2.out.2.1.trans (H2.out.1.fr hb1).tail, H2.out.2.2.1.keep H2.out.1 hb1, fun y hy => ?_, H2.out.2.2.2.2.1.kept hb1⟩, Zn hSz hb1.size⟩
   rcases List.mem_append.1 hy with hy | hy
   ·exact H2.out.2.2.2.1 y hy
   ·rw [List.mem_singleton.1 hy]; exact HTO.out
  | true =>
   have hcall : Calls Tryz.prog 154 #[.agg #[.int .i64 (ge f.l x).seq, .int .i64 (ge f.l x).len, .int .i64 (ge f.l x).dsn, .int .i64 (ge f.l x).at_, .int .i64 (ge f.l x).tries, .bool (ge f.l x).came, .bool (ge f.l x).lost, .int .i64 (ge f.l x).total, .int .i64 (ge f.l x).last]] W fun e w' => e = .returned (.bool true) ∧ Below W.heap.size W w' := by have := outst_any (ge f.l x) W; rw [hto] at this; exact this
   have HTO := Zh hto
   clear hto
   obtain ⟨bb, oo, rfl, _, _⟩ := hse.rd.at_ (show 0 < s.n1 by have := x.2; omega)
   gi_wp2_with (refine ⟨trivial, ?_⟩; gi_at_call 154; refine (callsIn_wide.2 hcall).mono ?_; rintro e w' ⟨rfl, hb1⟩; have T5 := H2.out.1.call hb1; have c5 := (H2.out.2.2.2.2.1.kept hb1).cell 0 rfl; have cS : w'.cell? ⟨S, 1, none⟩ = some (.slice (some ⟨bb, oo, none⟩) s.n1 s.c1) := by { have := T5.bx.cell 1 (v := .slice s.a1 s.n1 s.c1) rfl; rw [HA.out] at this; exact this }; have c6 := T5.part HA.out x.2 6 (u := .bool (ge f.l x).lost) rfl; have hfr := (H2.out.2.2.1.keep H2.out.1 hb1) (by omega) bb oo none HA.out (oo + x * 9 + 6))
   have hw9 := (parts_bd HOK.out.l _ (ge_mem (show (x : Nat) < f.l.length by rw [HLEN.out]; exact x.2))).w
   have hal : allLost (ge f.l x) = { ge f.l x with lost := true } := by unfold allLost; rw [if_pos HTO.out]
   have hput := T5.put1 HAP.out (k := x) (j := 6) (u := .bool true) (y := { ge f.l x with lost := true }) HA.out x.2 (by omega) rfl ⟨hw9.seq, hw9.len, hw9.dsn, hw9.at_, hw9.tries, hw9.total, hw9.last⟩
   rw [← hal] at hput
   refine ⟨((show KeepsOthers W w' from ⟨hb1.size, fun k o hk _ => (hb1.block k (Array.getElem?_eq_some_iff.1 hk).1).trans hk⟩).trans (KeepsOthers.setCell _ _ _)).from _, ⟨rfl, x, pre, rfl, HTO.out, H2.out.2.2.2.1, hput.1, H2.out.2.1.trans ((H2.out.1.fr hb1).tail.trans hput.2.1.tail)⟩, by simp; exact Zn hSz hb1.size⟩
 case done =>
  rintro D ys W hD rfl ⟨⟨t, fr, th, ho, bp⟩, hSz⟩ hK
  have HPL := Zh (probeL_none HLEN.out ho)
  gi_wp2
  refine ⟨by simp, .inl ⟨_, _, rfl, run_takeDeferred hK, ?_⟩⟩
  have t9 := t.own (grownBy_putObj' _ D (.deferred none)) (fun r e => by cases e; exact ⟨_, hK, rfl⟩)
  have f9 := fr.trans ⟨(Zb).grown (grownBy_putObj' W D (.deferred none)) (by have := t.size; omega) (fun k hk => by cases hk; omega), fun b hb => (grownBy_putObj' W D (.deferred none)).block b (by have := hold b hb; omega) (fun e => by cases e; have := hold D hb; omega)⟩
  rw [HPL.out]
  exact ⟨.tuple #[], by simp [results, Tryz.f92, go_sem], rfl, ⟨s, t9.less⟩, f9⟩
 case stop =>
  rintro D cd pre W hD ⟨rest, hk⟩ ⟨⟨rfl, x, ini, rfl, ht, hi, t, fr⟩, hSz⟩ hK
  have HPL := Zh (probeL_at HLEN.out hk ht hi)
  refine wpIn_wide.2 ?_
  go_wp2_with fail
  refine ⟨by simp, .inl ⟨_, _, rfl, run_takeDeferred hK, ?_⟩⟩
  have t9 := t.own (grownBy_putObj' _ D (.deferred none)) (fun r e => by cases e; exact ⟨_, hK, rfl⟩)
  have f9 := fr.trans ⟨(Zb).grown (grownBy_putObj' W D (.deferred none)) (by have := t.size; omega) (fun k hk => by cases hk; omega), fun b hb => (grownBy_putObj' W D (.deferred none)).block b (by have := hold b hb; omega) (fun e => by cases e; have := hold D hb; omega)⟩
  rw [HPL.out]
  exact ⟨.tuple #[], by simp [results, Tryz.f92, go_sem], rfl, ⟨s, t9.less⟩, f9⟩
end Go.Proofs.YtbijhkhkigdddaaGreat
namespace Go.Proofs.YtbijhkhkigdddaaGreat
open Go.RowKit
theorem tk_no {f : Fv} {c : Cf} {now : Int} (h : ¬ (fmayB f c = true ∧ t60 now = true)) : tickF f c now = (zfv, 0, 1) := if_neg h
theorem tk_0 {f : Fv} {c : Cf} {now : Int} (h : fmayB f c = true ∧ t60 now = true) (hd : tdueR f.tm now = 0) : tickF f c now = (f, 0, 0) := by unfold tickF; rw [if_pos h, if_pos hd]
theorem tk_1 {f : Fv} {c : Cf} {now : Int} (h : fmayB f c = true ∧ t60 now = true) (hd : tdueR f.tm now = 1) : tickF f c now = (setF { f with l := probeL f.l, pb := true } c now, 1, 0) := by unfold tickF; rw [if_pos h, if_neg (by omega), if_pos hd]
theorem tk_2 {f : Fv} {c : Cf} {now : Int} (h : fmayB f c = true ∧ t60 now = true) (hd : tdueR f.tm now = 2) : tickF f c now = (setF { f with l := f.l.map allLost, r := (dbl f.r).1, cw := (lossR f.cw f.th true c.mss c.most).1, th := (lossR f.cw f.th true c.mss c.most).2.1, cut := true, pb := false } c now, 2, 0) := by unfold tickF; rw [if_pos h, if_neg (by omega), if_neg (by omega)]
theorem probeF_ok {f : Fv} {c : Cf} (h : FvOk f c) : FvOk { f with l := probeL f.l, pb := true } c := by
 obtain ⟨p1, p2, p3, p4⟩ := probe_may h.l
 refine ⟨h.fine, p1, h.r, h.b, h.m, h.d, h.k, h.w, h.t, h.g, h.next, h.rd, fun h0 => ?_⟩
 show (spanR (probeL f.l)).2 = f.next
 rw [p2 h0]; exact h.link (by rw [← p4]; exact h0)
theorem resendF_ok {f : Fv} {c : Cf} (h : FvOk f c) : FvOk { f with l := f.l.map allLost, r := (dbl f.r).1, cw := (lossR f.cw f.th true c.mss c.most).1, th := (lossR f.cw f.th true c.mss c.most).2.1, cut := true, pb := false } c := by
 obtain ⟨m1, m2⟩ := map_may allLost allLost_seq allLost_end (fun x hx => allLost_ok hx) h.l
 obtain ⟨z, m, hz, h1, h3, h4⟩ := loss_facts (all := true) h.w
 rw [hz]
 refine ⟨h.fine, m1, dbl_ok h.r, h.b, h.m, h.d, h.k, h4, h.t, h.g, h.next, h.rd, fun h0 => ?_⟩
 have h0' : 0 < f.l.length := by rw [← List.length_map (f := allLost)]; exact h0
 show (spanR (f.l.map allLost)).2 = f.next
 rw [m2 h0']; exact h.link h0'
theorem ent_probe : ∀ args w, (callFunc 92 args).run Tryz.prog w = .ok (.enter 92 args) w := enters_of Tryz.func92 (by kernel_rfl) rfl
theorem ent_resend : ∀ args w, (callFunc 93 args).run Tryz.prog w = .ok (.enter 93 args) w := enters_of Tryz.func93 (by kernel_rfl) rfl
theorem fltick_any (p : Nat → Prop) (s : Fs) (f : Fv) (c : Cf) (now : Int) (w : World) (hp : NewP w p) (h : FlM w p s f) (hc : CfW c) (h3 : i64 now) : Calls Tryz.prog 27 #[.agg (fcs s f).toArray, .agg (ccs c).toArray, now] w fun e w' => TellFI p w w' e (tickF f c now) := by
 unfold TellFI
 obtain ⟨B, hB⟩ : ∃ B, w.heap.size = B := ⟨_, rfl⟩
 have y0 := ((Bx.new w 40 (fcs s f)).alloc (.cells (ccs c).toArray 42)).alloc (.cells (fcs zfs zfv).toArray 40)
 have k0 := (Bx.new (w.alloc (.cells (fcs s f).toArray 40)) 42 (ccs c)).alloc (.cells (fcs zfs zfv).toArray 40)
 have r0 := Bx.new ((w.alloc (.cells (fcs s f).toArray 40)).alloc (.cells (ccs c).toArray 42)) 40 (fcs zfs zfv)
 have b0 : Below w.heap.size w (((w.alloc (.cells (fcs s f).toArray 40)).alloc (.cells (ccs c).toArray 42)).alloc (.cells (fcs zfs zfv).toArray 40)) := (((Zb).alloc Zr _).alloc (by simp) _).alloc (by simp; omega) _
 simp only [World.size_alloc] at y0 k0 r0
 have f0 := ((h.alloc (.cells (fcs s f).toArray 40)).alloc (.cells (ccs c).toArray 42)).alloc (.cells (fcs zfs zfv).toArray 40)
 rw [hB] at y0 k0 r0 b0 ⊢
 have HC := Zh hc; have HP := Zh hp; have HBB := Zh hB
 obtain ⟨X, hX⟩ : ∃ X, tickF f c now = X := ⟨_, rfl⟩
 rw [hX]
 have HX := Zh hX
 clear h hc hp h3 hX
 go_enter Tryz.func27, Tryz.ntmps27
 go_upto_region 1 with fail
 change Code.wp _ _ _ _ (((w.alloc (.cells (fcs s f).toArray 40)).alloc (.cells (ccs c).toArray 42)).alloc (.cells (fcs zfs zfv).toArray 40))
 generalize (((w.alloc (.cells (fcs s f).toArray 40)).alloc (.cells (ccs c).toArray 42)).alloc (.cells (fcs zfs zfv).toArray 40)) = w1 at y0 k0 r0 b0 f0 ⊢
 clear hB
 have z1 : B ≤ w1.heap.size := Zl y0.lt
 go_wp2_with (first | (refine fl_load rfl (.tmp 3) rfl rfl y0 rfl ?_) | (refine cf_load rfl (.tmp 4) rfl rfl k0 rfl ?_))
 refine (flbegin_any p s f c now w1 f0 HC.out).mono ?_
 rintro e w2 ⟨hb, hcase⟩
 have r2 := r0.kept hb; have b2 := b0.trans (hb.mono z1); have z2 : B ≤ w2.heap.size := Zn z1 hb.size
 have hn0 : B + 3 ≤ w1.heap.size := r0.lt
 clear y0 k0 r0 b0 f0 hb
 obtain ⟨m0, hm0⟩ : ∃ m, w1.heap.size = m := ⟨_, rfl⟩
 rw [hm0] at hcase hn0
 clear hm0
 rcases hcase with ⟨hm, S, s', rfl, hst, hap, hth⟩ | ⟨hm, rfl⟩
 case inr =>
  have hF : X = (zfv, 0, 1) := by rw [← HX.out]; refine tk_no (fun h => ?_); rw [h.1, h.2] at hm; cases hm
  clear hm
  subst hF
  clear HX hn0
  go_wp2_with (refine fl_store rfl (.tmp 6) (.tmp 21) rfl rfl (fcs zfs zfv) rfl r2 rfl rfl rfl ?_)
  refine fl_end3 (by rfl) (by rfl) (by rfl) (by rfl) (fl_put r2 (fcs zfs zfv)) rfl rfl ?_
  exact ⟨zfs, rfl, FlM.zero _ _, b2.grown (fl_grown _ (B + 1 + 1) _) z2 (fun k hk => by cases hk; omega)⟩
 case inl =>
 have hok := (fmay_iff f c).1 (by simp only [Bool.and_eq_true] at hm; exact hm.1)
 have ht : t60 now = true := by simp only [Bool.and_eq_true] at hm; exact hm.2
 have hms : fmayB f c = true ∧ t60 now = true := ⟨(fmay_iff f c).2 hok, ht⟩
 clear hm
 have hdb := tdue_bd hok.t now
 obtain ⟨du, hdu⟩ : ∃ du, tdueR f.tm now = du := ⟨_, rfl⟩
 rw [hdu] at hdb
 have HD := Zh hdu; have HOK := Zh hok; have HT := Zh ht; have HMS := Zh hms
 have T2 := Zh (And.intro hst (And.intro hap hth))
 clear hok ht hms hdu hst hap hth
 go_upto_region 4 with fail
 go_wp2_with (refine sub_load (vs := [f.tm.kd, f.tm.at_]) is_timer rfl (.tmp 25) rfl rfl T2.out.1.bx rfl rfl ?_)
 refine (tidue_any f.tm now _).mono ?_
 rintro e w3 ⟨he, hb⟩
 rw [HD.out] at he
 subst he
 have T3 := Zh (And.intro (T2.out.1.call hb) (And.intro T2.out.2.1 (T2.out.2.2.keep T2.out.1 hb)))
 have r3 := r2.kept hb; have b3 := b2.trans (hb.mono z2); have z3 : B ≤ w3.heap.size := Zn z2 hb.size
 clear T2 r2 b2 z2 hb
 have TS := Zh T3.out.1
 obtain rfl | rfl | rfl : du = 0 ∨ du = 1 ∨ du = 2 := by omega
 ·have HF := Zh (show X = (f, 0, 0) by rw [← HX.out]; exact tk_0 HMS.out HD.out)
  clear hdb
  go_upto_region 10 with fail
  go_wp2_with (first | (refine sub_load (vs := fcs s' f) is_flow rfl (.tmp 50) rfl rfl TS.out.bx rfl rfl ?_) | (refine fl_store rfl (.tmp 6) (.tmp 51) rfl rfl (fcs s' f) rfl r3 rfl rfl (fcs_one _ _) ?_))
  refine fl_end3 (by rfl) (by rfl) (by rfl) (by rfl) (fl_put r3 (fcs s' f)) rfl rfl ?_
  have hX := HF.out
  subst hX
  exact ⟨s', rfl, (((TS.out.fm.imp (fun b hb => hb.1)).grown (fl_grown _ (B + 1 + 1) _) (fun b hb e => by have := Zo e; omega)).imp (fun b hb => HP.out b (by rw [HBB.out]; omega))), b3.grown (fl_grown _ (B + 1 + 1) _) z3 (fun k hk => by cases hk; omega)⟩
 ·have HF := Zh (show X = (setF { f with l := probeL f.l, pb := true } c now, 1, 0) by rw [← HX.out]; exact tk_1 HMS.out HD.out)
  clear hdb
  go_upto_region 7 with fail
  go_wp2_with fail
  obtain ⟨R, hR⟩ : ∃ R, w3.heap.size = R := ⟨_, rfl⟩
  have alR : Below w3.heap.size w3 (w3.alloc (.cells #[.func (.func 92) #[.pointer (some ⟨S, 0, none⟩)] #[], .func (.func 65) #[.pointer (some ⟨S, 0, none⟩)] #[]] 1)) := (Zb).alloc Zr _
  have bR := Bx.new w3 1 [.func (.func 92) #[.pointer (some ⟨S, 0, none⟩)] #[], .func (.func 65) #[.pointer (some ⟨S, 0, none⟩)] #[]]
  have T7 := T3.out.1.more Zr alR (by simp)
  have H7 := T3.out.2.2.keep T3.out.1 alR
  have HAP := T3.out.2.1
  have r7 := r3.kept alR; have b7 := b3.trans (alR.mono z3)
  rw [hR] at bR T7 ⊢
  clear T3 TS r3 b3 alR hR z3
  generalize w3.alloc (.cells #[.func (.func 92) #[.pointer (some ⟨S, 0, none⟩)] #[], .func (.func 65) #[.pointer (some ⟨S, 0, none⟩)] #[]] 1) = w7 at bR T7 H7 r7 b7 ⊢
  have hok2 := probeF_ok HOK.out
  have hrun := flrun_two m0 [R] S R 92 #[.pointer (some ⟨S, 0, none⟩)] #[] s' f _ c now w7 ent_probe T7 (List.mem_cons_self ..) bR hok2 HT.out (flprobe_any m0 [R] S s' f c now 0 w7 T7 HAP H7 HOK.out)
  refine hrun.mono ?_
  rintro e w8 ⟨rfl, ⟨s8, t8⟩, hf⟩
  have r8 := r7.below hf.below (by omega); have b8 := b7.trans (hf.below.mono (by omega))
  have z8 : B ≤ w8.heap.size := Zn (Zl (Nat.lt_of_le_of_lt (by omega) r8.lt)) Zr
  have T8 := Zh t8
  clear hrun bR T7 H7 HAP r7 b7 hf t8 hok2
  obtain ⟨g, hg⟩ : ∃ g, setF { f with l := probeL f.l, pb := true } c now = g := ⟨_, rfl⟩
  rw [hg] at T8 HF
  clear hg
  go_upto_region 10 with fail
  go_wp2_with (first | (refine sub_load (vs := fcs s8 g) is_flow rfl (.tmp 50) rfl rfl T8.out.bx rfl rfl ?_) | (refine fl_store rfl (.tmp 6) (.tmp 51) rfl rfl (fcs s8 g) rfl r8 rfl rfl (fcs_one _ _) ?_))
  refine fl_end3 (by rfl) (by rfl) (by rfl) (by rfl) (fl_put r8 (fcs s8 g)) rfl rfl ?_
  have hX := HF.out
  subst hX
  exact ⟨s8, rfl, (((T8.out.fm.imp (fun b hb => hb.1)).grown (fl_grown _ (B + 1 + 1) _) (fun b hb e => by have := Zo e; omega)).imp (fun b hb => HP.out b (by rw [HBB.out]; omega))), b8.grown (fl_grown _ (B + 1 + 1) _) z8 (fun k hk => by cases hk; omega)⟩
 ·have HF := Zh (show X = (setF { f with l := f.l.map allLost, r := (dbl f.r).1, cw := (lossR f.cw f.th true c.mss c.most).1, th := (lossR f.cw f.th true c.mss c.most).2.1, cut := true, pb := false } c now, 2, 0) by rw [← HX.out]; exact tk_2 HMS.out HD.out)
  clear hdb
  go_upto_region 9 with fail
  go_wp2_with fail
  obtain ⟨R, hR⟩ : ∃ R, w3.heap.size = R := ⟨_, rfl⟩
  have alR : Below w3.heap.size w3 (w3.alloc (.cells #[.func (.func 93) #[.pointer (some ⟨S, 0, none⟩)] #[], .func (.func 65) #[.pointer (some ⟨S, 0, none⟩)] #[]] 1)) := (Zb).alloc Zr _
  have bR := Bx.new w3 1 [.func (.func 93) #[.pointer (some ⟨S, 0, none⟩)] #[], .func (.func 65) #[.pointer (some ⟨S, 0, none⟩)] #[]]
  have T7 := T3.out.1.more Zr alR (by simp)
  have H7 := T3.out.2.2.keep T3.out.1 alR
  have HAP := T3.out.2.1
  have r7 := r3.kept alR; have b7 := b3.trans (alR.mono z3)
  rw [hR] at bR T7 ⊢
  clear T3 TS r3 b3 alR hR z3
  generalize w3.alloc (.cells #[.func (.func 93) #[.pointer (some ⟨S, 0, none⟩)] #[], .func (.func 65) #[.pointer (some ⟨S, 0, none⟩)] #[]] 1) = w7 at bR T7 H7 r7 b7 ⊢
  have hok2 := resendF_ok HOK.out
  have hrun := flrun_two m0 [R] S R 93 #[.pointer (some ⟨S, 0, none⟩)] #[] s' f _ c now w7 ent_resend T7 (List.mem_cons_self ..) bR hok2 HT.out (flresend_any m0 [R] S s' f c now 0 w7 T7 HAP H7 HOK.out (w_valid hok2))
  refine hrun.mono ?_
  rintro e w8 ⟨rfl, ⟨s8, t8⟩, hf⟩
  have r8 := r7.below hf.below (by omega); have b8 := b7.trans (hf.below.mono (by omega))
  have z8 : B ≤ w8.heap.size := Zn (Zl (Nat.lt_of_le_of_lt (by omega) r8.lt)) Zr
  have T8 := Zh t8
  clear hrun bR T7 H7 HAP r7 b7 hf t8 hok2
  obtain ⟨g, hg⟩ : ∃ g, setF { f with l := f.l.map allLost, r := (dbl f.r).1, cw := (lossR f.cw f.th true c.mss c.most).1, th := (lossR f.cw f.th true c.mss c.most).2.1, cut := true, pb := false } c now = g := ⟨_, rfl⟩
  rw [hg] at T8 HF
  clear hg
  go_upto_region 10 with fail
  go_wp2_with (first | (refine sub_load (vs := fcs s8 g) is_flow rfl (.tmp 50) rfl rfl T8.out.bx rfl rfl ?_) | (refine fl_store rfl (.tmp 6) (.tmp 51) rfl rfl (fcs s8 g) rfl r8 rfl rfl (fcs_one _ _) ?_))
  refine fl_end3 (by rfl) (by rfl) (by rfl) (by rfl) (fl_put r8 (fcs s8 g)) rfl rfl ?_
  have hX := HF.out
  subst hX
  exact ⟨s8, rfl, (((T8.out.fm.imp (fun b hb => hb.1)).grown (fl_grown _ (B + 1 + 1) _) (fun b hb e => by have := Zo e; omega)).imp (fun b hb => HP.out b (by rw [HBB.out]; omega))), b8.grown (fl_grown _ (B + 1 + 1) _) z8 (fun k hk => by cases hk; omega)⟩
def vinB (n lo hi : Int) : Bool := decide (lo ≤ n) && decide (n ≤ hi)
theorem vin_iff (n lo hi : Int) : vinB n lo hi = true ↔ lo ≤ n ∧ n ≤ hi := by unfold vinB; simp
theorem vin_any (n lo hi : Int) (w : World) :
  Calls Tryz.prog 217 #[n, lo, hi] w fun e w' => e = .returned (.bool (vinB n lo hi)) ∧ w = w' := by
 by_cases h1 : lo ≤ n
 ·have e1 : vinB n lo hi = decide (n ≤ hi) := by unfold vinB; rw [Zt h1]; rfl
  rw [e1]
  clear e1
  have d1 : decide (lo ≤ n) = true := Zt h1
  go_enter Tryz.func217, Tryz.ntmps217
  go_wp2
  go_ret
  exact ⟨rfl, rfl⟩
 ·have e1 : vinB n lo hi = false := by unfold vinB; rw [Zf h1]; rfl
  rw [e1]
  clear e1
  have d1 : decide (lo ≤ n) = false := Zf h1
  go_enter Tryz.func217, Tryz.ntmps217
  go_wp2
  go_ret
  exact ⟨rfl, rfl⟩
theorem vverd_same (q a : Int) (slow : Bool) (w : World) : Calls Tryz.prog 218 #[q, a, slow] w fun e w' => e = .returned (.int .i64 (verdR q a slow)) ∧ w = w' := by
 by_cases h1 : a < q
 ·have d1 : decide (a < q) = true := Zt h1
  have d2 : decide (q < a) = false := Zf (by omega)
  have d3 : decide (q = a) = false := Zf (by omega)
  have d4 : (q == a) = false := by simp; omega
  cases slow with
  | true =>
   rw [show verdR q a true = 3 from by unfold verdR; rw [if_pos rfl, if_pos h1]]
   go_enter Tryz.func218, Tryz.ntmps218
   go_wp2
   go_ret
   exact ⟨rfl, rfl⟩
  | false =>
   rw [show verdR q a false = 2 from by unfold verdR; rw [if_neg (by simp), if_neg (by omega), if_pos h1]]
   go_enter Tryz.func218, Tryz.ntmps218
   go_wp2
   go_ret
   exact ⟨rfl, rfl⟩
 ·have d1 : decide (a < q) = false := Zf h1
  cases slow with
  | true =>
   rw [show verdR q a true = 0 from by unfold verdR; rw [if_pos rfl, if_neg h1]]
   go_enter Tryz.func218, Tryz.ntmps218
   go_wp2
   go_ret
   exact ⟨rfl, rfl⟩
  | false =>
   by_cases h2 : q < a
   ·have d2 : decide (q < a) = true := Zt h2
    have d3 : decide (q = a) = false := Zf (by omega)
    have d4 : (q == a) = false := by simp; omega
    rw [show verdR q a false = 1 from by unfold verdR; rw [if_neg (by simp), if_pos h2]]
    go_enter Tryz.func218, Tryz.ntmps218
    go_wp2
    go_ret
    exact ⟨rfl, rfl⟩
   ·have d2 : decide (q < a) = false := Zf h2
    have d3 : decide (q = a) = true := Zt (by omega)
    have d4 : (q == a) = true := by simp; omega
    rw [show verdR q a false = 0 from by unfold verdR; rw [if_neg (by simp), if_neg h2, if_neg h1]]
    go_enter Tryz.func218, Tryz.ntmps218
    go_wp2
    go_ret
    exact ⟨rfl, rfl⟩
theorem vgqueue_any (cwnd srtt base mss : Int) (w : World) : Calls Tryz.prog 187 #[cwnd, srtt, base, mss] w fun e w' => e = .returned (.int .i64 (queueR cwnd srtt base mss)) ∧ Below w.heap.size w w' := by
 obtain ⟨q, hq⟩ : ∃ q, queueR cwnd srtt base mss = q := ⟨_, rfl⟩
 rw [hq]
 have HQ := Zh hq; clear hq
 cases h0 : vinB srtt 1 1099511627776 with
 | false =>
  have hF : q = 0 := by rw [← HQ.out]; exact queue_no (fun h => by rw [(vin_iff _ _ _).2 ⟨h.2.2.1, h.2.2.2.1⟩] at h0; cases h0)
  subst hF
  clear HQ
  go_enter Tryz.func187, Tryz.ntmps187
  go_wp2_with (go_at_call 217; refine (vin_any _ _ _ _).mono ?_; rintro e wx ⟨rfl, rfl⟩)
  go_ret
  exact ⟨rfl, Below.refl _ _⟩
 | true =>
 cases h1 : vinB base 1 srtt with
 | false =>
  have hF : q = 0 := by rw [← HQ.out]; exact queue_no (fun h => by rw [(vin_iff _ _ _).2 ⟨h.2.2.2.2.1, h.2.2.2.2.2.1⟩] at h1; cases h1)
  subst hF
  clear HQ
  go_enter Tryz.func187, Tryz.ntmps187
  go_wp2_with (go_at_call 217; refine (vin_any _ _ _ _).mono ?_; rintro e wx ⟨rfl, rfl⟩)
  go_ret
  exact ⟨rfl, Below.refl _ _⟩
 | true =>
 cases h2 : vinB cwnd 1 1073741824 with
 | false =>
  have hF : q = 0 := by rw [← HQ.out]; exact queue_no (fun h => by rw [(vin_iff _ _ _).2 ⟨h.1, h.2.1⟩] at h2; cases h2)
  subst hF
  clear HQ
  go_enter Tryz.func187, Tryz.ntmps187
  go_wp2_with (go_at_call 217; refine (vin_any _ _ _ _).mono ?_; rintro e wx ⟨rfl, rfl⟩)
  go_ret
  exact ⟨rfl, Below.refl _ _⟩
 | true =>
 cases h3 : vinB mss 1 1460 with
 | false =>
  have hF : q = 0 := by rw [← HQ.out]; exact queue_no (fun h => by rw [(vin_iff _ _ _).2 h.2.2.2.2.2.2] at h3; cases h3)
  subst hF
  clear HQ
  go_enter Tryz.func187, Tryz.ntmps187
  go_wp2_with (go_at_call 217; refine (vin_any _ _ _ _).mono ?_; rintro e wx ⟨rfl, rfl⟩)
  go_ret
  exact ⟨rfl, Below.refl _ _⟩
 | true =>
 have g0 := (vin_iff _ _ _).1 h0; have g1 := (vin_iff _ _ _).1 h1; have g2 := (vin_iff _ _ _).1 h2; have g3 := (vin_iff _ _ _).1 h3
 have hok : QuOk cwnd srtt base mss := ⟨g2.1, g2.2, g0.1, g0.2, g1.1, g1.2, g3.1, g3.2⟩
 have hF := HQ.out
 rw [queue_ok hok] at hF
 obtain ⟨u0, u1⟩ := qb_bd hok
 rw [Int.mul_comm] at hF u0 u1
 have m1 : mdOk cwnd (srtt - base) srtt = true := by
  unfold mdOk
  rw [(inB_iff (srtt - base)).2 (by omega), (inB_iff cwnd).2 (by omega), (inB_iff srtt).2 (by omega), Zt (by omega : 1 ≤ srtt), (inB_iff _).2 (by omega)]
  rfl
 have p1 := fun w => md_any cwnd (srtt - base) srtt w
 rw [m1] at p1
 obtain ⟨y, hy⟩ : ∃ y, cwnd * (srtt - base) / srtt = y := ⟨_, rfl⟩
 rw [hy] at p1 hF u0 u1
 have ht : tell y true = y := rfl
 rw [ht] at p1
 have v0 : 0 ≤ y / mss := Int.ediv_nonneg u0 (by omega)
 have v1 : y / mss ≤ y := Int.ediv_le_self _ u0
 have i1 : IntKind.i64.wrap (srtt - base) = srtt - base := IntWalk.i64_in _ (by omega)
 have a3 : y.tdiv mss = q := by rw [Int.tdiv_eq_ediv_of_nonneg u0]; exact hF
 have i2 : IntKind.i64.wrap q = q := IntWalk.i64_in _ (by omega)
 have hn0 : ¬ mss = 0 := by omega
 have hne : (mss == 0) = false := by simpa using hn0
 clear hok hF m1 hy ht v0 v1 HQ u0 u1 g0 g1 g2 g3
 go_enter Tryz.func187, Tryz.ntmps187
 go_wp2_with (first | (go_at_call 217; refine (vin_any _ _ _ _).mono ?_; rintro e wx ⟨rfl, rfl⟩) | (go_at_call 184; refine (p1 _).mono ?_; rintro e wm ⟨rfl, hbm⟩))
 go_ret
 exact ⟨rfl, hbm⟩
def TellV (w w' : World) (e : Ending) (x : Int × Int × Int) : Prop := e = .returned (.tuple #[.agg #[x.1, x.2.1], x.2.2]) ∧ Below w.heap.size w w'
end Go.Proofs.YtbijhkhkigdddaaGreat
