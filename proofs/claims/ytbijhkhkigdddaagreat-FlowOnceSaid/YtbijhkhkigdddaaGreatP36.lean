/- FlL16 FlL17. -/
import Derived.Test.YtbijhkhkigdddaaGreatP18
import Derived.Test.YtbijhkhkigdddaaGreatP19
import Derived.Test.YtbijhkhkigdddaaGreatP35
set_option linter.all false
set_option maxRecDepth 100000
set_option maxHeartbeats 32000000
namespace Go.Proofs.YtbijhkhkigdddaaGreat
open Go.RowKit
theorem flfollow_any (n₀ : Nat) (l : List Nat) (S H : Nat) (s : Fs) (f : Fv) (c : Cf) (e : Int) (A : Option Addr) (n k : Nat) (t : Tv) (G : Option Addr) (m d : Nat) (told : List Prt) (bs mk : Int) (w : World) (h : Hg n₀ l w S H s f c e A n k t G m d told bs mk) (hok : FvOk f c) : Calls Tryz.prog 75 #[.pointer (some ⟨H, 0, none⟩)] w fun e' w' => e' = .returned (.tuple #[]) ∧ Hg n₀ l w' S H s (cameF f told t.now) c e A n k t G m d told bs mk ∧ Fr n₀ l w w' := by
 have hlen := h.fr.rd.len
 have hmx := h.fr.max; have hle := h.fr.le
 unfold maxLen at hmx
 obtain ⟨y0, hy0⟩ : ∃ y0, (ofR f.b t.now).1 = y0 := ⟨_, rfl⟩
 obtain ⟨b0, hb0⟩ : ∃ b0, b40 y0 = b0 := ⟨_, rfl⟩
 have hF : cameF f told t.now = { f with k := told.foldl (cameK t.now b0) f.k } := by unfold cameF; rw [hy0, hb0]
 rw [hF]
 have m1 : min y0 1099511627776 = b0 := hb0
 have HB0 := Zh hy0; have HLEN := Zh hlen; have HOK := Zh hok
 have H0 := Zh h
 have c7 := h.bx.cell 7 rfl
 have m3 : m ≤ 9223372036854775807 := by omega
 clear hok hlen hle hmx hF hy0 hb0 h
 go_enter Tryz.func75, Tryz.ntmps75
 go_upto_region 0 with fail
 go_wp2_with fail
 clear c7
 go_loopw [11] (fun i wr => ∃ kk : Nat, kk ≤ m ∧ i = .int .i64 (kk : Int) ∧ Hid (Hg n₀ l wr S H s { f with k := ((told.take kk).foldl (cameK t.now b0) f.k) } c e A n k t G m d told bs mk ∧ Fr n₀ l w wr)) (fun i _ => m - (intOf i).toNat)
 case atStart => exact ⟨0, Nat.zero_le _, rfl, Zh ⟨H0.out, Fr.refl _ _ _⟩⟩
 case round =>
  obtain ⟨kk, hk, rfl, HK⟩ := hrel
  by_cases hlt : kk < m
  case pos =>
   have dlt : decide (kk < m) = true := Zt hlt
   have hsn : ((told.take (kk + 1)).foldl (cameK t.now b0) f.k) = cameK t.now b0 ((told.take kk).foldl (cameK t.now b0) f.k) (ge told kk) := by rw [take_ge (by rw [HLEN.out]; exact hlt), List.foldl_append]; rfl
   have hvm : rkmay ((told.take kk).foldl (cameK t.now b0) f.k) = true := cameKs_ok _ HOK.out.k
   obtain ⟨v, hv⟩ : ∃ v, ((told.take kk).foldl (cameK t.now b0) f.k) = v := ⟨_, rfl⟩
   obtain ⟨v2, hv2⟩ : ∃ v2, ((told.take (kk + 1)).foldl (cameK t.now b0) f.k) = v2 := ⟨_, rfl⟩
   rw [hv] at HK hsn hvm
   rw [hv2] at hsn
   have HV2 := Zh hv2; have HSN := Zh hsn; have HVM := Zh hvm
   clear hv hv2 hsn hvm
   have hkl : kk < (told).length := by rw [HLEN.out]; exact hlt
   obtain ⟨bb, oo, ha, hbl, hcl⟩ := HK.out.1.fr.rd.at_ (by omega)
   have hcc := hcl kk hlt
   obtain ⟨y', hy⟩ : ∃ y', ge (told) kk = y' := ⟨_, rfl⟩
   rw [hy] at hcc
   have hyw : PrtW y' := by rw [← hy]; exact HK.out.1.fr.rd.ok _ (ge_mem hkl)
   have c0 : wr.cell? ⟨bb, oo + kk * 9, none⟩ = some (.int .i64 y'.seq) := hcc 0 _ rfl
   have c1 : wr.cell? ⟨bb, oo + kk * 9 + 1, none⟩ = some (.int .i64 y'.len) := hcc 1 _ rfl
   have c2 : wr.cell? ⟨bb, oo + kk * 9 + 2, none⟩ = some (.int .i64 y'.dsn) := hcc 2 _ rfl
   have c3 : wr.cell? ⟨bb, oo + kk * 9 + 3, none⟩ = some (.int .i64 y'.at_) := hcc 3 _ rfl
   have c4 : wr.cell? ⟨bb, oo + kk * 9 + 4, none⟩ = some (.int .i64 y'.tries) := hcc 4 _ rfl
   have c5 : wr.cell? ⟨bb, oo + kk * 9 + 5, none⟩ = some (.bool y'.came) := hcc 5 _ rfl
   have c6 : wr.cell? ⟨bb, oo + kk * 9 + 6, none⟩ = some (.bool y'.lost) := hcc 6 _ rfl
   have c7 : wr.cell? ⟨bb, oo + kk * 9 + 7, none⟩ = some (.int .i64 y'.total) := hcc 7 _ rfl
   have c8 : wr.cell? ⟨bb, oo + kk * 9 + 8, none⟩ = some (.int .i64 y'.last) := hcc 8 _ rfl
   have HYW := Zh hyw; have HY := Zh hy; have HKL := Zh hkl
   obtain ⟨X9, hX9⟩ : ∃ X, wr.heap.size = X := ⟨_, rfl⟩
   have al : Below wr.heap.size wr (wr.alloc (.cells #[y'.seq, y'.len, y'.dsn, y'.at_, y'.tries, y'.came, y'.lost, y'.total, y'.last] 57)) := (Zb).alloc Zr _
   have x1 := Bx.new wr 57 [y'.seq, y'.len, y'.dsn, y'.at_, y'.tries, y'.came, y'.lost, y'.total, y'.last]
   have HP := Zh (And.intro (HK.out.1.call al) (And.intro (HK.out.2.trans (HK.out.1.frm al)) x1))
   clear hcl hcc hbl hyw hy hkl x1 al
   subst ha
   go_upto_region 3 with fail
   rw [hX9] at HP
   try rw [hX9]
   generalize wr.alloc (.cells #[y'.seq, y'.len, y'.dsn, y'.at_, y'.tries, y'.came, y'.lost, y'.total, y'.last] 57) = w1 at HP ⊢
   clear c0 c1 c2 c3 c4 c5 c6 c7 c8 hX9
   obtain ⟨z, hz⟩ : ∃ z, rkcameR v y' t.now b0 = z := ⟨_, rfl⟩
   have hck : v2 = if z.2 = 0 then z.1 else v := by
    have h1 := HSN.out
    rw [HY.out] at h1
    rw [h1]; unfold cameK; rw [hz]
   have hwz : z.2 = 0 → FvW { f with k := z.1 } := fun hh => by
    have h2 := cameK_ok (x := y') (now := t.now) (bs := b0) HVM.out
    unfold cameK at h2
    rw [hz, if_pos hh] at h2
    have hok := HOK.out
    exact w_valid (c := c) ⟨hok.fine, hok.l, hok.r, hok.b, hok.m, hok.d, h2, hok.w, hok.t, hok.g, hok.next, hok.rd, hok.link⟩
   have HZ := Zh hz; have HCK := Zh hck; have HWZ := Zh hwz
   clear hz hck hwz
   apply cutP
   ·intro hP
    refine kB [27] 29 (fun (W : World) => Hg n₀ l W S H s { f with k := v } c e A n k t (some ⟨bb, oo, none⟩) m d told bs mk ∧ Fr n₀ l w W ∧ Bx W X9 57 [y'.seq, y'.len, y'.dsn, y'.at_, y'.tries, y'.came, y'.lost, y'.total, y'.last]) ⟨HP.out.1.drew, HP.out.2.1.trans (HP.out.1.frm (Zb).drew), HP.out.2.2.drew⟩ (fun HS => ?_)
    generalize w1.drew = wd3 at HS  ⊢
    refine kU 0 HS ?_
    refine kU 1 HS ?_
    refine kU 2 HS ?_
    refine kC 3 (fun w hSw => hSw.1.bx.cell 0 rfl) HS ?_
    refine kU 4 HS ?_
    refine kU 5 HS ?_
    refine kU 6 HS ?_
    refine kS 7 rfl (sub_y (cs := (scs s { f with k := v } c t.now e)) (vs := [v.at_, v.end_, v.took, v.far, v.mixed, v.quarters]) is_rack (by rfl) (.tmp 22) rfl rfl (fun w hSw => hSw.1.st.bx) rfl rfl) HS ?_
    refine kS 8 rfl (sub_y (cs := [y'.seq, y'.len, y'.dsn, y'.at_, y'.tries, y'.came, y'.lost, y'.total, y'.last]) (vs := [y'.seq, y'.len, y'.dsn, y'.at_, y'.tries, y'.came, y'.lost, y'.total, y'.last]) is_sent (by rfl) (.tmp 3) rfl rfl (fun w hSw => hSw.2.2) rfl rfl) HS ?_
    refine kU 9 HS ?_
    refine kU 10 HS ?_
    refine kU 11 HS ?_
    refine kC 12 (fun w hSw => hSw.1.bx.cell 0 rfl) HS ?_
    refine kU 13 HS ?_
    refine kU 14 HS ?_
    refine kC 15 (v := .int .i64 t.now) (fun w hSw => hSw.1.st.bx.cell 42 rfl) HS ?_
    refine kU 16 HS ?_
    refine kU 17 HS ?_
    refine kU 18 HS ?_
    refine kC 19 (fun w hSw => hSw.1.bx.cell 0 rfl) HS ?_
    refine wpAnyV_two (k1 := 20) (k2 := 26) rfl rfl (by kernel_rfl) (fun K hK => ?_) (fun K hK => ?_)
    ·go_simp
     refine (flbase_any _ _ _ _ _ _ _ _ _ HS.1.st).mono ?_
     rintro e7 w7 ⟨he, hb⟩
     rw [HB0.out] at he
     subst he
     refine kK hK ⟨HS.1.call hb, HS.2.1.trans (HS.1.frm hb), HS.2.2.kept hb⟩ (fun HS => ?_)
     clear hK K
     refine kUv 21 (.int .i64 b0) HS ?_
     refine wpAnyV_two (k1 := 22) (k2 := 26) rfl rfl (by kernel_rfl) (fun K hK => ?_) (fun K hK => ?_)
     ·go_simp
      refine (rakcame_any v y' _ _ _ HYW.out).mono ?_
      rintro e8 w8 ⟨he, hb⟩
      rw [HZ.out] at he
      subst he
      refine kK hK ⟨HS.1.call hb, HS.2.1.trans (HS.1.frm hb), HS.2.2.kept hb⟩ (fun HS => ?_)
      clear hK K
      refine kU 23 HS ?_
      refine kU 24 HS ?_
      refine kUv 25 (.int .i64 z.2) HS ?_
      refine wpAnyV_one (k := 26) rfl (by kernel_rfl) (fun K hK => ?_)
      go_simp
      obtain ⟨D9, hD9⟩ : ∃ x, w8.heap.size = x := ⟨_, rfl⟩
      have hb : Below w8.heap.size w8 (w8.alloc (.cells #[.int .i64 0, .int .i64 0, .int .i64 0, .int .i64 0, .bool false, .int .i64 0] 34)) := (Zb).alloc Zr _
      have TX := Zh (Xb.new HS.1 (.cells #[.int .i64 0, .int .i64 0, .int .i64 0, .int .i64 0, .bool false, .int .i64 0] 34))
      have bX := Zh (Bx.new w8 34 [.int .i64 0, .int .i64 0, .int .i64 0, .int .i64 0, .bool false, .int .i64 0])
      have hLX : Hid (X9 ≠ D9) := Zh (by have := HS.2.2.lt; omega)
      have HSn : ((fun (W : World) => Hg n₀ l W S H s { f with k := v } c e A n k t (some ⟨bb, oo, none⟩) m d told bs mk ∧ Fr n₀ l w W ∧ Bx W X9 57 [y'.seq, y'.len, y'.dsn, y'.at_, y'.tries, y'.came, y'.lost, y'.total, y'.last])) _ := ⟨HS.1.call hb, HS.2.1.trans (HS.1.frm hb), HS.2.2.kept hb⟩
      clear HS hb
      rw [hD9] at TX bX
      try rw [hD9]
      generalize w8.alloc (.cells #[.int .i64 0, .int .i64 0, .int .i64 0, .int .i64 0, .bool false, .int .i64 0] 34) = wz at HSn TX bX ⊢
      clear hD9
      refine kK hK HSn (fun HS => ?_)
      clear hK K
      refine wpAnyV_end (k := 27) rfl (by kernel_rfl) (fun K hK => ?_)
      refine sub_end is_rack (by rfl) (.tmp 4) (.tmp 39) rfl rfl [z.1.at_, z.1.end_, z.1.took, z.1.far, z.1.mixed, z.1.quarters] rfl bX.out (by decide) rfl rfl ?_
      have hp := TX.out.put [z.1.at_, z.1.end_, z.1.took, z.1.far, z.1.mixed, z.1.quarters] 0
      have hbx : Bx (wz.setCells D9 0 [z.1.at_, z.1.end_, z.1.took, z.1.far, z.1.mixed, z.1.quarters]) D9 34 [z.1.at_, z.1.end_, z.1.took, z.1.far, z.1.mixed, z.1.quarters] := Bx.cells [z.1.at_, z.1.end_, z.1.took, z.1.far, z.1.mixed, z.1.quarters] (o := 0) bX.out
      have HN := Zh (And.intro hp.1 (And.intro (HS.2.1.trans hp.2) hbx))
      clear HS TX bX hp hLX hbx
      refine hK _ _ ?_
      clear hK K
      generalize wz.setCells D9 0 [z.1.at_, z.1.end_, z.1.took, z.1.far, z.1.mixed, z.1.quarters] = w9 at HN ⊢
      try simp only [Act.put, List.setIfInBounds_toArray, List.set_cons_zero, List.set_cons_succ]
      refine kN 28 ?_
      refine ⟨by kernel_rfl, ?_⟩
      revert HN
      revert w9
      revert D9
      exact hP.out
     ·go_simp
      obtain ⟨D9, hD9⟩ : ∃ x, w7.heap.size = x := ⟨_, rfl⟩
      have hb : Below w7.heap.size w7 (w7.alloc (.cells #[.int .i64 0, .int .i64 0, .int .i64 0, .int .i64 0, .bool false, .int .i64 0] 34)) := (Zb).alloc Zr _
      have TX := Zh (Xb.new HS.1 (.cells #[.int .i64 0, .int .i64 0, .int .i64 0, .int .i64 0, .bool false, .int .i64 0] 34))
      have bX := Zh (Bx.new w7 34 [.int .i64 0, .int .i64 0, .int .i64 0, .int .i64 0, .bool false, .int .i64 0])
      have hLX : Hid (X9 ≠ D9) := Zh (by have := HS.2.2.lt; omega)
      have HSn : ((fun (W : World) => Hg n₀ l W S H s { f with k := v } c e A n k t (some ⟨bb, oo, none⟩) m d told bs mk ∧ Fr n₀ l w W ∧ Bx W X9 57 [y'.seq, y'.len, y'.dsn, y'.at_, y'.tries, y'.came, y'.lost, y'.total, y'.last])) _ := ⟨HS.1.call hb, HS.2.1.trans (HS.1.frm hb), HS.2.2.kept hb⟩
      clear HS hb
      rw [hD9] at TX bX
      try rw [hD9]
      generalize w7.alloc (.cells #[.int .i64 0, .int .i64 0, .int .i64 0, .int .i64 0, .bool false, .int .i64 0] 34) = wz at HSn TX bX ⊢
      clear hD9
      refine kK hK HSn (fun HS => ?_)
      clear hK K
      refine wpAnyV_one (k := 22) rfl (by kernel_rfl) (fun K hK => ?_)
      go_simp
      refine (rakcame_any v y' _ _ _ HYW.out).mono ?_
      rintro e8 w8 ⟨he, hb⟩
      rw [HZ.out] at he
      subst he
      replace TX := Zh (TX.out.call hb)
      replace bX := Zh (bX.out.kept hb)
      refine kK hK ⟨HS.1.call hb, HS.2.1.trans (HS.1.frm hb), HS.2.2.kept hb⟩ (fun HS => ?_)
      clear hK K
      refine kU 23 HS ?_
      refine kU 24 HS ?_
      refine kUv 25 (.int .i64 z.2) HS ?_
      refine wpAnyV_end (k := 27) rfl (by kernel_rfl) (fun K hK => ?_)
      refine sub_end is_rack (by rfl) (.tmp 4) (.tmp 39) rfl rfl [z.1.at_, z.1.end_, z.1.took, z.1.far, z.1.mixed, z.1.quarters] rfl bX.out (by decide) rfl rfl ?_
      have hp := TX.out.put [z.1.at_, z.1.end_, z.1.took, z.1.far, z.1.mixed, z.1.quarters] 0
      have hbx : Bx (w8.setCells D9 0 [z.1.at_, z.1.end_, z.1.took, z.1.far, z.1.mixed, z.1.quarters]) D9 34 [z.1.at_, z.1.end_, z.1.took, z.1.far, z.1.mixed, z.1.quarters] := Bx.cells [z.1.at_, z.1.end_, z.1.took, z.1.far, z.1.mixed, z.1.quarters] (o := 0) bX.out
      have HN := Zh (And.intro hp.1 (And.intro (HS.2.1.trans hp.2) hbx))
      clear HS TX bX hp hLX hbx
      refine hK _ _ ?_
      clear hK K
      generalize w8.setCells D9 0 [z.1.at_, z.1.end_, z.1.took, z.1.far, z.1.mixed, z.1.quarters] = w9 at HN ⊢
      try simp only [Act.put, List.setIfInBounds_toArray, List.set_cons_zero, List.set_cons_succ]
      refine kN 28 ?_
      refine ⟨by kernel_rfl, ?_⟩
      revert HN
      revert w9
      revert D9
      exact hP.out
    ·go_simp
     obtain ⟨D9, hD9⟩ : ∃ x, wd3.heap.size = x := ⟨_, rfl⟩
     have hb : Below wd3.heap.size wd3 (wd3.alloc (.cells #[.int .i64 0, .int .i64 0, .int .i64 0, .int .i64 0, .bool false, .int .i64 0] 34)) := (Zb).alloc Zr _
     have TX := Zh (Xb.new HS.1 (.cells #[.int .i64 0, .int .i64 0, .int .i64 0, .int .i64 0, .bool false, .int .i64 0] 34))
     have bX := Zh (Bx.new wd3 34 [.int .i64 0, .int .i64 0, .int .i64 0, .int .i64 0, .bool false, .int .i64 0])
     have hLX : Hid (X9 ≠ D9) := Zh (by have := HS.2.2.lt; omega)
     have HSn : ((fun (W : World) => Hg n₀ l W S H s { f with k := v } c e A n k t (some ⟨bb, oo, none⟩) m d told bs mk ∧ Fr n₀ l w W ∧ Bx W X9 57 [y'.seq, y'.len, y'.dsn, y'.at_, y'.tries, y'.came, y'.lost, y'.total, y'.last])) _ := ⟨HS.1.call hb, HS.2.1.trans (HS.1.frm hb), HS.2.2.kept hb⟩
     clear HS hb
     rw [hD9] at TX bX
     try rw [hD9]
     generalize wd3.alloc (.cells #[.int .i64 0, .int .i64 0, .int .i64 0, .int .i64 0, .bool false, .int .i64 0] 34) = wz at HSn TX bX ⊢
     clear hD9
     refine kK hK HSn (fun HS => ?_)
     clear hK K
     refine wpAnyV_one (k := 20) rfl (by kernel_rfl) (fun K hK => ?_)
     go_simp
     refine (flbase_any _ _ _ _ _ _ _ _ _ HS.1.st).mono ?_
     rintro e7 w7 ⟨he, hb⟩
     rw [HB0.out] at he
     subst he
     replace TX := Zh (TX.out.call hb)
     replace bX := Zh (bX.out.kept hb)
     refine kK hK ⟨HS.1.call hb, HS.2.1.trans (HS.1.frm hb), HS.2.2.kept hb⟩ (fun HS => ?_)
     clear hK K
     refine kUv 21 (.int .i64 b0) HS ?_
     refine wpAnyV_one (k := 22) rfl (by kernel_rfl) (fun K hK => ?_)
     go_simp
     refine (rakcame_any v y' _ _ _ HYW.out).mono ?_
     rintro e8 w8 ⟨he, hb⟩
     rw [HZ.out] at he
     subst he
     replace TX := Zh (TX.out.call hb)
     replace bX := Zh (bX.out.kept hb)
     refine kK hK ⟨HS.1.call hb, HS.2.1.trans (HS.1.frm hb), HS.2.2.kept hb⟩ (fun HS => ?_)
     clear hK K
     refine kU 23 HS ?_
     refine kU 24 HS ?_
     refine kUv 25 (.int .i64 z.2) HS ?_
     refine wpAnyV_end (k := 27) rfl (by kernel_rfl) (fun K hK => ?_)
     refine sub_end is_rack (by rfl) (.tmp 4) (.tmp 39) rfl rfl [z.1.at_, z.1.end_, z.1.took, z.1.far, z.1.mixed, z.1.quarters] rfl bX.out (by decide) rfl rfl ?_
     have hp := TX.out.put [z.1.at_, z.1.end_, z.1.took, z.1.far, z.1.mixed, z.1.quarters] 0
     have hbx : Bx (w8.setCells D9 0 [z.1.at_, z.1.end_, z.1.took, z.1.far, z.1.mixed, z.1.quarters]) D9 34 [z.1.at_, z.1.end_, z.1.took, z.1.far, z.1.mixed, z.1.quarters] := Bx.cells [z.1.at_, z.1.end_, z.1.took, z.1.far, z.1.mixed, z.1.quarters] (o := 0) bX.out
     have HN := Zh (And.intro hp.1 (And.intro (HS.2.1.trans hp.2) hbx))
     clear HS TX bX hp hLX hbx
     refine hK _ _ ?_
     clear hK K
     generalize w8.setCells D9 0 [z.1.at_, z.1.end_, z.1.took, z.1.far, z.1.mixed, z.1.quarters] = w9 at HN ⊢
     try simp only [Act.put, List.setIfInBounds_toArray, List.set_cons_zero, List.set_cons_succ]
     refine kN 28 ?_
     refine ⟨by kernel_rfl, ?_⟩
     revert HN
     revert w9
     revert D9
     exact hP.out
   intro D9 w9 HN
   by_cases hz0 : z.2 = 0
   case neg =>
    have d1 : (z.2 == 0) = false := by simpa using hz0
    have d2 : decide (z.2 = 0) = false := Zf hz0
    have hvv : v2 = v := by rw [HCK.out, if_neg hz0]
    have HVV := Zh hvv
    clear hz0 hvv
    go_wp2_with fail
    go_roundw
    case rel => exact ⟨kk + 1, by omega, by go_num, by rw [HV2.out, HVV.out]; exact Zh ⟨HN.out.1, HN.out.2.1⟩⟩
    case measure => simp [intOf]; omega
   case pos =>
    have d1 : (z.2 == 0) = true := by simpa using hz0
    have d2 : decide (z.2 = 0) = true := Zt hz0
    have hvv : v2 = z.1 := by rw [HCK.out, if_pos hz0]
    have HVV := Zh hvv; have HE0 := Zh hz0
    clear hz0 hvv
    go_upto_region 5 with fail
    clear d1 d2
    refine kB [8] 9 (fun (W : World) => Hg n₀ l W S H s { f with k := v } c e A n k t (some ⟨bb, oo, none⟩) m d told bs mk ∧ Fr n₀ l w W ∧ Bx W D9 34 [z.1.at_, z.1.end_, z.1.took, z.1.far, z.1.mixed, z.1.quarters]) ⟨HN.out.1.drew, HN.out.2.1.trans (HN.out.1.frm (Zb).drew), HN.out.2.2.drew⟩ (fun HS => ?_)
    generalize w9.drew = wd5 at HS  ⊢
    refine kU 0 HS ?_
    refine kU 1 HS ?_
    refine kU 2 HS ?_
    refine kC 3 (fun w hSw => hSw.1.bx.cell 0 rfl) HS ?_
    refine kS 4 rfl (sub_y (cs := [z.1.at_, z.1.end_, z.1.took, z.1.far, z.1.mixed, z.1.quarters]) (vs := [z.1.at_, z.1.end_, z.1.took, z.1.far, z.1.mixed, z.1.quarters]) is_rack (by rfl) (.tmp 4) rfl rfl (fun w hSw => hSw.2.2) rfl rfl) HS ?_
    refine kU 5 HS ?_
    refine kU 6 HS ?_
    refine kU 7 HS ?_
    refine wpAnyV_end (k := 8) rfl (by kernel_rfl) (fun K hK => ?_)
    refine sub_end is_rack (by rfl) (.tmp 50) (.tmp 47) rfl rfl [z.1.at_, z.1.end_, z.1.took, z.1.far, z.1.mixed, z.1.quarters] rfl HS.1.st.bx (by show (25 : Nat) ≤ 44; decide) rfl rfl ?_
    have HF := Zh (show Hg n₀ l (wd5.setCells S 19 [z.1.at_, z.1.end_, z.1.took, z.1.far, z.1.mixed, z.1.quarters]) S H s { f with k := z.1 } c e A n k t (some ⟨bb, oo, none⟩) m d told bs mk ∧ Fr n₀ l w (wd5.setCells S 19 [z.1.at_, z.1.end_, z.1.took, z.1.far, z.1.mixed, z.1.quarters]) from ⟨HS.1.cells 19 _ rfl (HS.1.st.fm.same rfl rfl rfl rfl (HWZ.out HE0.out)), HS.2.1.trans (HS.1.frc 19 [z.1.at_, z.1.end_, z.1.took, z.1.far, z.1.mixed, z.1.quarters])⟩)
    clear HS
    refine hK _ _ ?_
    clear hK K
    generalize wd5.setCells S 19 [z.1.at_, z.1.end_, z.1.took, z.1.far, z.1.mixed, z.1.quarters] = wf at HF ⊢
    try simp only [Act.put, List.setIfInBounds_toArray, List.set_cons_zero, List.set_cons_succ]
    refine ⟨by kernel_rfl, ?_⟩
    go_wp2_with fail
    go_roundw
    case rel => exact ⟨kk + 1, by omega, by go_num, by rw [HV2.out, HVV.out]; exact HF⟩
    case measure => simp [intOf]; omega
  case neg =>
   obtain rfl : kk = m := by omega
   have dlt : decide (kk < kk) = false := Zf (by omega)
   have hfin : told.take kk = told := by rw [← HLEN.out, List.take_length]
   rw [hfin] at HK
   clear hfin
   go_wp2_with fail
   go_end0
   exact ⟨rfl, HK.out.1, HK.out.2⟩
end Go.Proofs.YtbijhkhkigdddaaGreat
namespace Go.Proofs.YtbijhkhkigdddaaGreat
open Go.RowKit Go.Shelf
attribute [local go_sem] Oper.semAt_some
section
variable {n₀ S H : Nat} {l : List Nat} {W W' : World} {s : Fs} {f : Fv} {c : Cf} {e : Int} {A : Option Addr} {n k : Nat} {t : Tv} {G : Option Addr} {m d : Nat} {told : List Prt} {bs mk : Int}
theorem se_isc {A : Option Addr} {n c : Nat} {l : List Prt} (h : Se W A n c l) : In1 (fun b => ∃ o, W.heap[b]? = some o ∧ o.isCells = true) A n := fun h0 b o q e => by
 obtain ⟨b', o', e', _, hc⟩ := h.rd.at_ h0; rw [e] at e'; cases e'; exact cell_isc (hc 0 h0 0 _ rfl)
theorem Hg.own {row : Option Nat} (h : Hg n₀ l W S H s f c e A n k t G m d told bs mk) (hg : W.grownBy W' row) (hr : ∀ r, row = some r → ∃ o, W.heap[r]? = some o ∧ o.isCells = false) : Hg n₀ l W' S H s f c e A n k t G m d told bs mk :=
 ⟨h.st.own hg hr, h.bx.grown hg (fun e => by obtain ⟨o, ho, hc⟩ := hr H e.symm; rw [show W.heap[H]? = _ from h.bx] at ho; cases ho; cases hc), h.h0, h.off,
  se_grown h.fr (se_isc h.fr) hg (fun b hb e => by obtain ⟨o, ho, hc⟩ := hb; obtain ⟨o', ho', hc'⟩ := hr b e; rw [ho] at ho'; cases ho'; rw [hc] at hc'; cases hc'), h.fo⟩
def others (W : World) : List Nat := (List.range W.heap.size).filter fun b => match W.heap[b]? with | some o => !o.isCells | none => false
theorem mem_others {b : Nat} : b ∈ others W ↔ ∃ o, W.heap[b]? = some o ∧ o.isCells = false := by
 unfold others
 rw [List.mem_filter, List.mem_range]
 constructor
 ·rintro ⟨h1, h2⟩
  cases hb : W.heap[b]? with
  | none => rw [hb] at h2; cases h2
  | some o => rw [hb] at h2; exact ⟨o, rfl, by simpa using h2⟩
 ·rintro ⟨o, ho, hc⟩
  exact ⟨(Array.getElem?_eq_some_iff.1 ho).1, by rw [ho]; simpa using hc⟩
theorem Hg.sub {l' : List Nat} (h : Hg n₀ l W S H s f c e A n k t G m d told bs mk) (hs : ∀ b ∈ l', b ∈ l) : Hg n₀ l' W S H s f c e A n k t G m d told bs mk := by
 have k1 : ∀ b, Nw n₀ (S :: H :: l) b → Nw n₀ (S :: H :: l') b := fun b hb => ⟨hb.1, fun hx => hb.2 (by simp only [List.mem_cons] at hx ⊢; rcases hx with hx | hx | hx; exact .inl hx; exact .inr (.inl hx); exact .inr (.inr (hs b hx)))⟩
 exact ⟨⟨h.st.bx, h.st.fm.imp k1, h.st.s0, fun hx => h.st.off (by simp only [List.mem_cons] at hx ⊢; rcases hx with hx | hx; exact .inl hx; exact .inr (hs S hx)), fun b hb => h.st.old b (by simp only [List.mem_cons] at hb ⊢; rcases hb with hb | hb; exact .inl hb; exact .inr (hs b hb))⟩, h.bx, h.h0, fun hx => h.off (hs H hx), h.fr, h.fo⟩
theorem Fr.sub {l' : List Nat} (h : Fr n₀ l W W') (hs : ∀ b ∈ l', b ∈ l) : Fr n₀ l' W W' := ⟨h.below, fun b hb => h.at_ b (hs b hb)⟩
theorem keeps_of (h : Fr n₀ (others W ++ l) W W') : KeepsOthers W W' := ⟨h.below.size, fun k o hk ho => (h.at_ k (List.mem_append_left _ (mem_others.2 ⟨o, hk, ho⟩))).trans hk⟩
theorem Hg.wide2 (h : Hg n₀ l W S H s f c e A n k t G m d told bs mk) : Hg n₀ (others W ++ l) W S H s f c e A n k t G m d told bs mk := by
 have hO : ∀ b, (∃ o, W.heap[b]? = some o ∧ o.isCells = true) → b ∉ others W := fun b ⟨o, ho, hc⟩ hx => by
  obtain ⟨o', ho', hc'⟩ := mem_others.1 hx
  rw [ho] at ho'; cases ho'; rw [hc] at hc'; cases hc'
 have hS := hO S ⟨_, h.st.bx, rfl⟩
 have hH := hO H ⟨_, h.bx, rfl⟩
 refine ⟨⟨h.st.bx, h.st.fm.isc.imp (fun b hb => ⟨hb.1.1, fun hx => ?_⟩), h.st.s0, fun hx => ?_, fun b hb => ?_⟩, h.bx, h.h0, fun hx => ?_, h.fr, h.fo⟩
 ·have h3 := hO b hb.2
  have h4 := hb.1.2
  simp only [List.mem_cons, List.mem_append] at hx h4
  rcases hx with hx | hx | hx | hx
  ·exact h4 (.inl hx)
  ·exact h4 (.inr (.inl hx))
  ·exact h3 hx
  ·exact h4 (.inr (.inr hx))
 ·have h4 := h.st.off
  simp only [List.mem_cons, List.mem_append] at hx h4
  rcases hx with hx | hx | hx
  ·exact h4 (.inl hx)
  ·exact hS hx
  ·exact h4 (.inr hx)
 ·simp only [List.mem_cons, List.mem_append] at hb
  rcases hb with hb | hb | hb
  ·exact h.st.old b (by simp [hb])
  ·obtain ⟨o', ho', _⟩ := mem_others.1 hb; exact (Array.getElem?_eq_some_iff.1 ho').1
  ·exact h.st.old b (by simp [hb])
 ·rcases List.mem_append.1 hx with hx | hx
  ·exact hH hx
  ·exact h.off hx
end
theorem ex_h {n₀ S H : Nat} {l : List Nat} {W : World} {c : Cf} {e : Int} {A : Option Addr} {n k : Nat} {t : Tv} {G : Option Addr} {m d : Nat} {told : List Prt} {bs mk : Int} (h : ∃ s' f', Hg n₀ l W S H s' f' c e A n k t G m d told bs mk) : Bx W H 110 (hcs S A n k t G m d bs mk) := by obtain ⟨_, _, h⟩ := h; exact h.bx
theorem ex_now {n₀ S H : Nat} {l : List Nat} {W : World} {c : Cf} {e : Int} {A : Option Addr} {n k : Nat} {t : Tv} {G : Option Addr} {m d : Nat} {told : List Prt} {bs mk : Int} (h : ∃ s' f', Hg n₀ l W S H s' f' c e A n k t G m d told bs mk) : W.cell? ⟨S, 42, none⟩ = some (.int .i64 t.now) := by obtain ⟨_, _, h⟩ := h; exact h.st.bx.cell 42 rfl
theorem lastFirst_find {l : List Prt} {n : Nat} (h : l.length = n) : lastFirst l = ((revs n).find? (fun x : Fin n => decide ((ge l x).tries = 1))).map (fun x : Fin n => ge l x) := by
 unfold lastFirst revs
 have e : l.reverse = ((List.finRange n).reverse).map (fun x : Fin n => ge l x) := by
  rw [List.map_reverse]; congr 1
  apply List.ext_getElem
  ·simp [h]
  ·intro i h1 h2
   simp only [List.getElem_map, List.getElem_finRange]
   exact (ge_eq h1).symm
 rw [e, List.find?_map]
 rfl
theorem tookF_none {f : Fv} {c : Cf} {told : List Prt} {now : Int} {n : Nat} (h : told.length = n) (hn : ∀ x ∈ revs n, (ge told x).tries ≠ 1) : tookF f c told now = f := by
 have e : lastFirst told = none := by rw [lastFirst_find h, List.find?_eq_none.2 (fun x hx => by simpa using hn x hx)]; rfl
 unfold tookF; rw [e]
theorem tookF_at {f : Fv} {c : Cf} {told : List Prt} {now : Int} {n : Nat} (h : told.length = n) {x : Fin n} {ini rest : List (Fin n)} (e : revs n = ini ++ [x] ++ rest) (ht : (ge told x).tries = 1) (hn : ∀ y ∈ ini, (ge told y).tries ≠ 1) : tookF f c told now = if now < (ge told x).at_ then f else tookX f c (ge told x) now := by
 have e2 : lastFirst told = some (ge told x) := by
  rw [lastFirst_find h, e, List.find?_append, List.find?_append, List.find?_eq_none.2 (fun y hy => by simpa using hn y hy)]
  simp [ht]
 unfold tookF; rw [e2]
theorem flmeasure_any (n₀ : Nat) (l : List Nat) (S H : Nat) (s : Fs) (f : Fv) (c : Cf) (e : Int) (A : Option Addr) (n k : Nat) (t : Tv) (G : Option Addr) (m d : Nat) (told : List Prt) (bs mk : Int) (w : World) (h : Hg n₀ l w S H s f c e A n k t G m d told bs mk) (hok : FvOk f c) (hpk : ∀ x ∈ told, POk x) (hm5 : m ≤ 500) (hnow : t60 t.now = true) : Calls Tryz.prog 74 #[.pointer (some ⟨H, 0, none⟩)] w fun e' w' => e' = .returned (.tuple #[]) ∧ (∃ s', Hg n₀ l w' S H s' (tookF f c told t.now) c e A n k t G m d told bs mk) ∧ Fr n₀ l w w' := by
 have hlen := h.fr.rd.len
 obtain ⟨P, hP⟩ : ∃ P, w.heap.size = P := ⟨_, rfl⟩
 have al : Below w.heap.size w (w.alloc (.cells #[.pointer (some ⟨H, 0, none⟩)] 145)) := (Zb).alloc Zr _
 have p1 := Bx.new w 145 [.pointer (some ⟨H, 0, none⟩)]
 have T1 := h.more Zr al (by simp)
 have F1 := h.frm al
 rw [hP] at p1 T1
 have HOK := Zh hok; have HLEN := Zh hlen; have HPK := Zh hpk; have HM5 := Zh hm5; have HNOW := Zh ((t60_iff _).1 hnow)
 clear hok hlen hpk hm5 hnow
 refine (callsIn_wide (n := 4)).1 ?_
 have h1 : 1 ≤ 4 := by omega
 refine callsIn_of_wp_marks Tryz.func74 rfl trivial ?_ rfl
 simp only [Tryz.ntmps74, List.size_toArray, List.length_cons, List.length_nil, Nat.reduceAdd, Nat.reduceSub, Array.replicate_succ, Array.replicate_zero, List.push_toArray, List.append_toArray, List.nil_append, List.cons_append]
 refine wpIn_wide.2 ?_
 go_upto_region 1 with fail
 try rw [hP]
 generalize w.alloc (.cells #[.pointer (some ⟨H, 0, none⟩)] 145) = w1 at p1 T1 F1 ⊢
 clear al h
 have H1 := Zh (And.intro T1 (And.intro F1 p1))
 clear T1 F1 p1
 have cp := H1.out.2.2.cell 0 rfl
 have cl : w1.cell? ⟨H, 7, none⟩ = some (.slice G m d) := H1.out.1.bx.cell 7 rfl
 go_wp2_with (go_at_call 122; refine (callsIn_wide.1 (back_in Fence.wide 4 trivial rfl G m d _)).mono ?_; rintro e w' ⟨rfl, rfl⟩)
 refine (wpIn_wide (n := 4)).1 ?_
 obtain ⟨LB, hLB⟩ : ∃ LB, w1.heap.size = LB := ⟨_, rfl⟩
 have al3 : Below w1.heap.size w1 (w1.alloc (.cells #[.slice G m d] 22)) := (Zb).alloc Zr _
 have bL := Bx.new w1 22 [.slice G m d]
 have T3 := H1.out.1.call al3
 have F3 := H1.out.2.1.trans (H1.out.1.frm al3).tail
 have p3 := H1.out.2.2.kept al3
 have hsz : (w1.alloc (.cells #[.slice G m d] 22)).heap.size = LB + 1 := by simp [hLB]
 rw [hLB] at bL ⊢
 clear al3 H1 cp cl hLB
 generalize w1.alloc (.cells #[.slice G m d] 22) = w3 at bL T3 F3 p3 hsz ⊢
 have hse := T3.fr
 have hnsz : n₀ ≤ LB + 1 := by rw [← hsz]; exact T3.st.size
 have hold : ∀ b ∈ l, b < LB + 1 := fun b hb => by rw [← hsz]; exact T3.old b (List.mem_cons_of_mem _ hb)
 refine wpIn_rangeFunc_ownH rfl h1 (gf := 170) (lb := #[.pointer (some ⟨LB, 0, none⟩)]) rfl trivial (enters_of Tryz.func170 (by kernel_rfl) rfl)
  (back_stops Fence.wide (4 - 1) trivial rfl (by omega) LB (LB + 1) G m d told (by have := HM5.out; omega) w3 (by omega) (by omega) bL hse (fun b o e h0 => by obtain ⟨b', o', e', hl, _⟩ := hse.rd.at_ h0; rw [e] at e'; cases e'; omega)) Below.trans (belowK_b (by omega)) (Zb) (fun _ => rfl)
  (fun pre W => (Hg n₀ (P :: l) W S H s f c e A n k t G m d told bs mk ∧ Fr n₀ l w W ∧ (∀ x ∈ pre, (ge told x).tries ≠ 1) ∧ Bx W P 145 [.pointer (some ⟨H, 0, none⟩)]) ∧ LB + 1 ≤ W.heap.size)
  (fun cd pre W => (cd = .ret ∧ ∃ (x : Fin m) (ini : List (Fin m)), pre = ini ++ [x] ∧ (ge told x).tries = 1 ∧ (∀ y ∈ ini, (ge told y).tries ≠ 1) ∧ (∃ s', Hg n₀ (P :: l) W S H s' (if t.now < (ge told x).at_ then f else tookX f c (ge told x) t.now) c e A n k t G m d told bs mk) ∧ Fr n₀ l w W) ∧ LB + 1 ≤ W.heap.size)
  (fun s' X Y row hs hg hr => ⟨⟨hs.1.1.own hg (fun r e => (hr r e).2), hs.1.2.1.trans ⟨(Zb).grown hg (by omega) (fun k hk => by have := (hr k hk).1; omega), fun b hb => hg.block b (by have := hold b hb; omega) (fun e => by have := (hr b e.symm).1; have := hold b hb; omega)⟩, hs.1.2.2.1, bxs_own P _ (fun (_ : Unit) => [.pointer (some ⟨H, 0, none⟩)]) () X Y row hs.1.2.2.2 hg (fun r e => (hr r e).2)⟩, Zn hs.2 hg.size⟩)
  (fun cd s' X Y row hs hg hr => by
   obtain ⟨⟨hcd, x, ini, e1, e3, e4, ⟨s2, e5⟩, e6⟩, e7⟩ := hs
   exact ⟨⟨hcd, x, ini, e1, e3, e4, ⟨s2, e5.own hg (fun r e => (hr r e).2)⟩, e6.trans ⟨(Zb).grown hg (by omega) (fun k hk => by have := (hr k hk).1; omega), fun b hb => hg.block b (by have := hold b hb; omega) (fun e => by have := (hr b e.symm).1; have := hold b hb; omega)⟩⟩, Zn e7 hg.size⟩)
  ⟨⟨T3, F3, (fun x hx => by cases hx), p3⟩, by omega⟩
  (fun (x : Fin m) a' W => ∃ Pb, LB + 1 ≤ Pb ∧ Bx W Pb 57 [.int .i64 (ge told x).seq, .int .i64 (ge told x).len, .int .i64 (ge told x).dsn, .int .i64 (ge told x).at_, .int .i64 (ge told x).tries, .bool (ge told x).came, .bool (ge told x).lost, .int .i64 (ge told x).total, .int .i64 (ge told x).last] ∧ Hg n₀ (Pb :: P :: l) W S H s f c e A n k t G m d told bs mk ∧ a' = { tmps := #[.pointer (some ⟨H, 0, none⟩), .pointer (some ⟨P, 0, none⟩), undef, .pointer (some ⟨Pb, 0, none⟩), .pointer (some ⟨H, 0, none⟩), .pointer (some ⟨H, 0, none⟩), .pointer (some ⟨H, 7, none⟩), .slice G m d, .func (.func 170) #[] #[.pointer (some ⟨LB, 0, none⟩)], .int .i64 ((x : Nat) : Int), .agg #[.int .i64 (ge told x).seq, .int .i64 (ge told x).len, .int .i64 (ge told x).dsn, .int .i64 (ge told x).at_, .int .i64 (ge told x).tries, .bool (ge told x).came, .bool (ge told x).lost, .int .i64 (ge told x).total, .int .i64 (ge told x).last], undef, undef, undef, undef, undef, undef, undef, undef, undef, undef, undef, undef, undef, undef, undef, undef, undef, undef, undef, undef, undef, undef, undef, undef, undef, undef], defers := [] })
  (fun x a' _ X Y row hs hg hr => by obtain ⟨Pb, e1, e2, e4, e3⟩ := hs; exact ⟨Pb, e1, bxs_own Pb _ (fun (_ : Unit) => [.int .i64 (ge told x).seq, .int .i64 (ge told x).len, .int .i64 (ge told x).dsn, .int .i64 (ge told x).at_, .int .i64 (ge told x).tries, .bool (ge told x).came, .bool (ge told x).lost, .int .i64 (ge told x).total, .int .i64 (ge told x).last]) () X Y row e2 hg (fun r e => (hr r e).2), e4.own hg (fun r e => (hr r e).2), e3⟩)
  ?assign ?body ?done ?stop
 case assign =>
  rintro r pre x W K ⟨⟨t, fr, ho, bp⟩, hSz⟩ hK
  gi_wp2
  exact hK _ _ ((KeepsOthers.alloc _ _).from _) ((Zb).alloc hSz _) ⟨⟨t.call ((Zb).alloc Zr _), fr.trans (t.frm ((Zb).alloc Zr _)).tail, ho, bp.kept ((Zb).alloc Zr _)⟩, by simp; omega⟩ ⟨W.heap.size, hSz, Bx.new W _ _, t.more Zr ((Zb).alloc Zr _) (by simp), rfl⟩
 case body =>
  rintro r pre x a' wb hl hr ⟨⟨_, fr, ho, bp⟩, hSz⟩ ⟨Pb, hPb, bx, th, rfl⟩ hlt
  have hxl : (x : Nat) < told.length := by rw [HLEN.out]; exact x.2
  have hpk := HPK.out _ (ge_mem hxl)
  have b4 : wb.cell? ⟨Pb, 4, none⟩ = some (.int .i64 (ge told x).tries) := bx.cell 4 rfl
  have H2 := Zh (And.intro th (And.intro fr (And.intro ho (And.intro bp bx))))
  clear th fr ho bp bx
  by_cases ht1 : (ge told x).tries = 1
  case neg =>
   have d1 : decide (1 < (ge told x).tries) = true := Zt (by have := hpk.t1; omega)
   have HT1 := Zh ht1
   clear ht1 hpk
   gi_wp2_with fail
   refine ⟨(KeepsOthers.refl wb).from _, Below.refl _ _, ⟨H2.out.1.less, H2.out.2.1, fun y hy => ?_, H2.out.2.2.2.1⟩, hSz⟩
   rcases List.mem_append.1 hy with hy | hy
   ·exact H2.out.2.2.1 y hy
   ·rw [List.mem_singleton.1 hy]; exact HT1.out
  case pos =>
   have d1 : decide (1 < (ge told x).tries) = false := Zf (by omega)
   have HT1 := Zh ht1
   have hat := (t60_iff _).1 hpk.at_
   obtain ⟨q, hq⟩ : ∃ q, decide ((ge told x).at_ ≤ t.now) = q := ⟨_, rfl⟩
   have HAT := Zh hat
   clear ht1 hpk hat
   gi_wp2_with fail
   refine wp_region_VR (S := (fun (W : World) => Hg n₀ (Pb :: P :: l) W S H s f c e A n k t G m d told bs mk ∧ Fr n₀ l w W ∧ Bx W P 145 [.pointer (some ⟨H, 0, none⟩)] ∧ Bx W Pb 57 [.int .i64 (ge told x).seq, .int .i64 (ge told x).len, .int .i64 (ge told x).dsn, .int .i64 (ge told x).at_, .int .i64 (ge told x).tries, .bool (ge told x).came, .bool (ge told x).lost, .int .i64 (ge told x).total, .int .i64 (ge told x).last] ∧ KeepsOthers wb W ∧ LB + 1 ≤ W.heap.size)) [] 10 (by kernel_rfl) (by rfl) (by kernel_rfl) (by rintro ⟨a, w, h⟩; exact h) ?_
   have HS : ((fun (W : World) => Hg n₀ (Pb :: P :: l) W S H s f c e A n k t G m d told bs mk ∧ Fr n₀ l w W ∧ Bx W P 145 [.pointer (some ⟨H, 0, none⟩)] ∧ Bx W Pb 57 [.int .i64 (ge told x).seq, .int .i64 (ge told x).len, .int .i64 (ge told x).dsn, .int .i64 (ge told x).at_, .int .i64 (ge told x).tries, .bool (ge told x).came, .bool (ge told x).lost, .int .i64 (ge told x).total, .int .i64 (ge told x).last] ∧ KeepsOthers wb W ∧ LB + 1 ≤ W.heap.size)) _ := ⟨H2.out.1.drew, H2.out.2.1.trans (H2.out.1.frm (Zb).drew).tail.tail, H2.out.2.2.2.1.drew, H2.out.2.2.2.2.drew, KeepsOthers.drew _, hSz⟩
   generalize wb.drew = wd4 at HS  ⊢
   refine kU 0 HS ?_
   refine kC 1 (v := .int .i64 (ge told x).at_) (fun w hSw => hSw.2.2.2.1.cell 3 rfl) HS ?_
   refine kC 2 (v := .pointer (some ⟨H, 0, none⟩)) (fun w hSw => hSw.2.2.1.cell 0 rfl) HS ?_
   refine kU 3 HS ?_
   refine kU 4 HS ?_
   refine kC 5 (fun w hSw => hSw.1.bx.cell 0 rfl) HS ?_
   refine kU 6 HS ?_
   refine kU 7 HS ?_
   refine kC 8 (v := .int .i64 t.now) (fun w hSw => hSw.1.st.bx.cell 42 rfl) HS ?_
   refine kUv 9 (.bool q) HS ?_
   refine ⟨by kernel_rfl, ?_⟩
   clear b4 d1
   have HQ4 := Zh HS
   clear HS
   cases q with
   | false =>
    have hF : (if t.now < (ge told x).at_ then f else tookX f c (ge told x) t.now) = f := if_pos (by have := of_decide_eq_false hq; omega)
    have HFE := Zh hF
    clear hq hF
    gi_wp2_with fail
    refine ⟨HQ4.out.2.2.2.2.1.from _, ⟨rfl, x, pre, rfl, HT1.out, H2.out.2.2.1, ⟨s, by rw [HFE.out]; exact HQ4.out.1.less⟩, HQ4.out.2.1⟩, HQ4.out.2.2.2.2.2⟩
   | true =>
    have hle := of_decide_eq_true hq
    have hF : (if t.now < (ge told x).at_ then f else tookX f c (ge told x) t.now) = sampX f c (b40 (t.now - (ge told x).at_)) t.now := (if_neg (by omega)).trans (tookX_samp ..)
    obtain ⟨tk, htk⟩ : ∃ tk, b40 (t.now - (ge told x).at_) = tk := ⟨_, rfl⟩
    rw [htk] at hF
    have m1 : min (t.now - (ge told x).at_) 1099511627776 = tk := htk
    have i1 : IntKind.i64.wrap (t.now - (ge told x).at_) = t.now - (ge told x).at_ := IntWalk.i64_in _ (by have := HAT.out; have := HNOW.out; omega)
    have HTK : Hid (0 ≤ tk ∧ tk ≤ 1099511627776) := Zh (by rw [← htk]; exact b40_bd (by omega))
    have HFE := Zh hF
    clear hq hF htk hle
    gi_wp2_with fail
    have HPRE := Zh (And.intro HQ4.out.1.drew (And.intro (HQ4.out.2.1.trans (HQ4.out.1.frm (Zb).drew).tail.tail) (And.intro (HQ4.out.2.2.2.2.1.trans (KeepsOthers.drew _)) (show LB + 1 ≤ wd4.drew.heap.size from HQ4.out.2.2.2.2.2))))
    refine wp_region_VR (S := (fun (W : World) => (∃ s' f', Hg n₀ (Pb :: P :: l) W S H s' f' c e A n k t G m d told bs mk) ∧ Bx W P 145 [.pointer (some ⟨H, 0, none⟩)] ∧ Bx W Pb 57 [.int .i64 (ge told x).seq, .int .i64 (ge told x).len, .int .i64 (ge told x).dsn, .int .i64 (ge told x).at_, .int .i64 (ge told x).tries, .bool (ge told x).came, .bool (ge told x).lost, .int .i64 (ge told x).total, .int .i64 (ge told x).last])) [] 13 (by kernel_rfl) (by rfl) (by kernel_rfl) (by rintro ⟨a, w, h⟩; exact h) ?_
    have HS : ((fun (W : World) => (∃ s' f', Hg n₀ (Pb :: P :: l) W S H s' f' c e A n k t G m d told bs mk) ∧ Bx W P 145 [.pointer (some ⟨H, 0, none⟩)] ∧ Bx W Pb 57 [.int .i64 (ge told x).seq, .int .i64 (ge told x).len, .int .i64 (ge told x).dsn, .int .i64 (ge told x).at_, .int .i64 (ge told x).tries, .bool (ge told x).came, .bool (ge told x).lost, .int .i64 (ge told x).total, .int .i64 (ge told x).last])) _ := ⟨⟨s, f, HQ4.out.1.drew⟩, HQ4.out.2.2.1.drew, HQ4.out.2.2.2.1.drew⟩
    generalize wd4.drew = wd5 at HS HPRE ⊢
    refine kC 0 (v := .pointer (some ⟨H, 0, none⟩)) (fun w hSw => hSw.2.1.cell 0 rfl) HS ?_
    refine kC 1 (v := .pointer (some ⟨H, 0, none⟩)) (fun w hSw => hSw.2.1.cell 0 rfl) HS ?_
    refine kU 2 HS ?_
    refine kU 3 HS ?_
    refine kC 4 (v := .pointer (some ⟨S, 0, none⟩)) (fun w hSw => Bx.cell ((ex_h hSw.1)) 0 (v := .pointer (some ⟨S, 0, none⟩)) rfl) HS ?_
    refine kU 5 HS ?_
    refine kU 6 HS ?_
    refine kC 7 (v := .int .i64 t.now) (fun w hSw => ex_now hSw.1) HS ?_
    refine kU 8 HS ?_
    refine kC 9 (v := .int .i64 (ge told x).at_) (fun w hSw => hSw.2.2.cell 3 rfl) HS ?_
    refine kUv 10 (.int .i64 (t.now - (ge told x).at_)) HS ?_
    refine kUv 11 (.int .i64 tk) HS ?_
    refine wpAnyV_one (k := 12) rfl (by kernel_rfl) (fun K hK => ?_)
    go_simp
    refine (flsample_any _ _ _ _ _ _ _ _ _ _ _ _ _ _ _ _ _ _ _ HPRE.out.1.wide2 tk HOK.out HTK.out.1 HTK.out.2).mono ?_
    rintro e2 w2 ⟨rfl, ⟨s2, h2⟩, hf2⟩
    have hg2 := h2.sub (l' := Pb :: P :: l) (fun b hb => List.mem_append_right _ hb)
    have hp2 := hf2.bx HS.2.1 (by simp)
    have hx2 := hf2.bx HS.2.2 (by simp)
    have HT := Zh (And.intro (hg2.sub (l' := P :: l) (fun b hb => List.mem_cons_of_mem _ hb)) (And.intro (HPRE.out.2.1.trans (hf2.sub (fun b hb => List.mem_append_right _ (List.mem_cons_of_mem _ (List.mem_cons_of_mem _ hb))))) (And.intro (HPRE.out.2.2.1.trans (keeps_of hf2)) (Zn HPRE.out.2.2.2 hf2.below.size))))
    refine kK hK ⟨⟨_, _, hg2⟩, hp2, hx2⟩ (fun HS => ?_)
    clear hK K
    refine ⟨by kernel_rfl, ?_⟩
    gi_wp2_with fail
    refine ⟨HT.out.2.2.1.from _, ⟨rfl, x, pre, rfl, HT1.out, H2.out.2.2.1, ⟨_, by rw [HFE.out]; exact HT.out.1⟩, HT.out.2.1⟩, HT.out.2.2.2⟩
 case done =>
  rintro D ys W hD rfl ⟨⟨th, fr, ho, bp⟩, hSz⟩ hK
  have HPL := Zh (tookF_none (f := f) (c := c) (now := t.now) HLEN.out ho)
  gi_wp2
  refine ⟨by simp, .inl ⟨_, _, rfl, run_takeDeferred hK, ?_⟩⟩
  have t9 := th.own (grownBy_putObj' _ D (.deferred none)) (fun r e => by cases e; exact ⟨_, hK, rfl⟩)
  have f9 := fr.trans ⟨(Zb).grown (grownBy_putObj' W D (.deferred none)) (by have := th.st.size; omega) (fun k hk => by cases hk; omega), fun b hb => (grownBy_putObj' W D (.deferred none)).block b (by have := hold b hb; omega) (fun e => by cases e; have := hold D hb; omega)⟩
  rw [HPL.out]
  exact ⟨.tuple #[], by simp [results, Tryz.f74, go_sem], rfl, ⟨s, t9.less⟩, f9⟩
 case stop =>
  rintro D cd pre W hD ⟨rest, hk⟩ ⟨⟨rfl, x, ini, rfl, ht, hi, ⟨s2, th⟩, fr⟩, hSz⟩ hK
  have HPL := Zh (tookF_at (f := f) (c := c) (now := t.now) HLEN.out hk ht hi)
  refine wpIn_wide.2 ?_
  go_wp2_with fail
  refine ⟨by simp, .inl ⟨_, _, rfl, run_takeDeferred hK, ?_⟩⟩
  have t9 := th.own (grownBy_putObj' _ D (.deferred none)) (fun r e => by cases e; exact ⟨_, hK, rfl⟩)
  have f9 := fr.trans ⟨(Zb).grown (grownBy_putObj' W D (.deferred none)) (by have := th.st.size; omega) (fun k hk => by cases hk; omega), fun b hb => (grownBy_putObj' W D (.deferred none)).block b (by have := hold b hb; omega) (fun e => by cases e; have := hold D hb; omega)⟩
  rw [HPL.out]
  exact ⟨.tuple #[], by simp [results, Tryz.f74, go_sem], rfl, ⟨s2, t9.less⟩, f9⟩
end Go.Proofs.YtbijhkhkigdddaaGreat
