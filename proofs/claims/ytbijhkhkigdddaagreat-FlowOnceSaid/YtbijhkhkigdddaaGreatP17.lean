/- StL10. -/
import Derived.Test.YtbijhkhkigdddaaGreatP16
set_option linter.all false
set_option maxRecDepth 100000
set_option maxHeartbeats 32000000
namespace Go.Proofs.YtbijhkhkigdddaaGreat
open Go.RowKit
theorem goe_nine {w : World} {base e g cap n k : Nat} {l : List Prt} (h : Goe w base e (.slice (some ⟨g, 0, none⟩) n cap) n l) (hk : k < n) : Nine w g (k * 9) (ge l k) := by
 obtain ⟨A, c, ev, hs⟩ := h.se
 cases ev
 obtain ⟨b, o, e', hl, hc⟩ := hs.rd.at_ (by omega)
 cases e'
 have := prt_at hc hk
 rw [Nat.zero_add] at this
 exact this.nine
def upd (sk : List Sp) (k : Nat) (xs : List Prt) : List Prt := (xs.take k).map (comeP sk) ++ xs.drop k
theorem upd_zero (sk : List Sp) (xs : List Prt) : upd sk 0 xs = xs := by unfold upd; simp
theorem upd_all (sk : List Sp) (xs : List Prt) : upd sk xs.length xs = xs.map (comeP sk) := by unfold upd; simp
theorem upd_len (sk : List Sp) (k : Nat) (xs : List Prt) : (upd sk k xs).length = xs.length := by unfold upd; simp only [List.length_append, List.length_map, List.length_take, List.length_drop]; omega
theorem upd_ge (sk : List Sp) {k : Nat} {xs : List Prt} (h : k < xs.length) : ge (upd sk k xs) k = ge xs k := by
 unfold upd ge
 rw [List.getD_eq_getElem?_getD, List.getElem?_append_right (by simp [Nat.min_le_left]), List.getD_eq_getElem?_getD, List.getElem?_drop]
 simp [Nat.min_eq_left (Zl h)]
theorem upd_set (sk : List Sp) {k : Nat} {xs : List Prt} (h : k < xs.length) : (upd sk k xs).set k (comeP sk (ge xs k)) = upd sk (k + 1) xs := by
 unfold upd
 have hlen : ((xs.take k).map (comeP sk)).length = k := by simp; omega
 rw [List.set_append_right _ _ (by omega), hlen, Nat.sub_self, take_ge h, List.map_append, drop_ge h]
 simp
theorem upd_same (sk : List Sp) {k : Nat} {xs : List Prt} (h : k < xs.length) (hno : hasP sk (ge xs k) = false) : upd sk k xs = upd sk (k + 1) xs := by
 rw [← upd_set sk h, show comeP sk (ge xs k) = ge (upd sk k xs) k by rw [upd_ge sk h]; unfold comeP; rw [hno]; rfl]
 apply List.ext_getElem?
 intro i
 rw [List.getElem?_set]
 split
 ·next e => subst e; rw [if_pos (by rw [upd_len]; exact h), ge_eq (by rw [upd_len]; exact h), List.getElem?_eq_getElem (by rw [upd_len]; exact h)]
 ·rfl
theorem ins_ok {l : List Prt} {got : Int} {sk : List Sp} (h : smayB l = true ∧ mayB sk = true) (k : insB l got sk = true) : heardR l got sk = (leftL got sk l, toldL got sk l, 0) := by
 refine heard_ok h (fun q => ?_)
 unfold insB at k
 rw [Bool.and_eq_true, Bool.and_eq_true, decide_eq_true_eq, win_iff, Bool.not_eq_true'] at k
 obtain ⟨k1, ⟨k2, k3⟩, k4⟩ := k
 rcases q with q | q | q | q
 ·omega
 ·omega
 ·omega
 ·rw [k4] at q; cases q
theorem ins_no {l : List Prt} {got : Int} {sk : List Sp} (h : smayB l = true ∧ mayB sk = true) (k : insB l got sk = false) : heardR l got sk = ([], [], 3) := by
 refine heard_none h ?_
 refine Classical.byContradiction (fun q => ?_)
 simp only [not_or] at q
 have hT : insB l got sk = true := by
  unfold insB
  rw [Bool.and_eq_true, Bool.and_eq_true, decide_eq_true_eq, win_iff, Bool.not_eq_true']
  refine ⟨by omega, ⟨by omega, by omega⟩, ?_⟩
  cases ho : outB (spanR l) sk with
  | false => rfl
  | true => exact absurd ho q.2.2.2
 rw [hT] at k; cases k
theorem stheard_any (A : Option Addr) (n c : Nat) (l : List Prt) (got : Int) (A' : Option Addr) (n' c' : Nat) (sk : List Sp) (w : World) (hs : Se w A n c l) (hk : Ss w A' n' c' sk) (hn : n ≤ 1000) (hn' : n' ≤ 1000) :
  Calls Tryz.prog 121 #[.slice A n c, got, .slice A' n' c'] w fun e w' => TellHd w w' e (heardR l got sk) := by
 unfold TellHd
 obtain ⟨G, hG⟩ : ∃ G, w.heap.size = G := ⟨_, rfl⟩
 obtain ⟨KS, hKS⟩ : ∃ KS, G + 1 = KS := ⟨_, rfl⟩
 have hl := hs.rd.len
 have hsz0 : (w.alloc (.cells #[got] 3)).heap.size = KS := by simp [hG, hKS]
 have G1 : Bx ((w.alloc (.cells #[got] 3)).alloc (.cells #[.slice A' n' c'] 43)) G 3 [got] := (hG ▸ Bx.new w 3 [got]).alloc _
 have K1 : Bx ((w.alloc (.cells #[got] 3)).alloc (.cells #[.slice A' n' c'] 43)) KS 43 [.slice A' n' c'] := hsz0 ▸ Bx.new (w.alloc (.cells #[got] 3)) 43 [.slice A' n' c']
 have hs1 := (hs.alloc (.cells #[got] 3)).alloc (.cells #[.slice A' n' c'] 43)
 have hk1 := (hk.alloc (.cells #[got] 3)).alloc (.cells #[.slice A' n' c'] 43)
 have b1 : Below w.heap.size w ((w.alloc (.cells #[got] 3)).alloc (.cells #[.slice A' n' c'] 43)) := ((Zb).alloc Zr _).alloc (by rw [hsz0]; omega) _
 have hDG : w.heap.size ≤ G := by omega
 obtain ⟨y, hy⟩ : ∃ y, heardR l got sk = y := ⟨_, rfl⟩
 rw [hy]
 have HY := Zh hy; have HL := Zh hl; have HG := Zh hG; have HKS := Zh hKS
 have HK0 := Zh hk
 clear hy hl hs hk
 have fl0 : ∀ (R R' : Option Addr) (m d m' d' : Nat) (w : World), (Instr.field 174 (.agg #[.slice R m d, .slice R' m' d']) 0).run Tryz.prog w = .ok (.slice R m d) w := fun _ _ _ _ _ _ _ => by kernel_rfl
 have fl1 : ∀ (R R' : Option Addr) (m d m' d' : Nat) (w : World), (Instr.field 174 (.agg #[.slice R m d, .slice R' m' d']) 1).run Tryz.prog w = .ok (.slice R' m' d') w := fun _ _ _ _ _ _ _ => by kernel_rfl
 go_enter Tryz.func121, Tryz.ntmps121
 go_upto_region 1 with fail
 try rw [hsz0]
 try rw [hG]
 try rw [hG] at b1
 try rw [hG] at hDG
 change Code.wp _ _ _ _ ((w.alloc (.cells #[got] 3)).alloc (.cells #[.slice A' n' c'] 43))
 have hDw1 : G ≤ ((w.alloc (.cells #[got] 3)).alloc (.cells #[.slice A' n' c'] 43)).heap.size := by simp; omega
 generalize (w.alloc (.cells #[got] 3)).alloc (.cells #[.slice A' n' c'] 43) = w1 at G1 K1 hs1 hk1 b1 hDw1 ⊢
 clear hG hKS hsz0
 have hm := stmay_any A n c l w1 hs1
 cases h1 : smayB l with
 | false =>
  have hy := HY.out
  rw [heard_no (fun h => by rw [h1] at h; exact absurd h.1 (by simp))] at hy
  subst hy
  rw [h1] at hm
  clear HY h1
  go_wp2_with (go_at_call 97; refine hm.mono ?_; rintro e w2 ⟨rfl, hb2⟩; have G2 := G1.kept hb2; have K2 := K1.kept hb2; have hs2 := hs1.keep hb2; have hk2 := hk1.keep hb2; have b2 := b1.trans (hb2.mono hDw1); have k20 := K2.cell 0 rfl; have g20 := G2.cell 0 rfl)
  go_ret3
  rw [HG.out]
  exact ⟨none, 0, 0, none, 0, 0, rfl, Sne.none _ _, Sne.none _ _, b2⟩
 | true =>
 rw [h1] at hm
 cases h2 : mayB sk with
 | false =>
  have hy := HY.out
  rw [heard_no (fun h => by rw [h2] at h; exact absurd h.2 (by simp))] at hy
  subst hy
  clear HY h1
  go_wp2_with (first | (go_at_call 97; refine hm.mono ?_; rintro e w2 ⟨rfl, hb2⟩; have G2 := G1.kept hb2; have K2 := K1.kept hb2; have hs2 := hs1.keep hb2; have hk2 := hk1.keep hb2; have b2 := b1.trans (hb2.mono hDw1); have k20 := K2.cell 0 rfl; have g20 := G2.cell 0 rfl) | (go_at_call 163; refine (may_any A' n' c' sk _ hk2).mono ?_; rintro e w3 ⟨rfl, hb3⟩; have G3 := G2.kept hb3; have K3 := K2.kept hb3; have hs3 := hs2.keep hb3; have hk3 := hk2.keep hb3; have hD2 := Zl (Nat.lt_of_le_of_lt hDG G2.lt); have b3 := b2.trans (hb3.mono hD2); have k30 := K3.cell 0 rfl; have g30 := G3.cell 0 rfl))
  go_ret3
  rw [HG.out]
  exact ⟨none, 0, 0, none, 0, 0, rfl, Sne.none _ _, Sne.none _ _, b3⟩
 | true =>
 have hok : smayB l = true ∧ mayB sk = true := ⟨h1, h2⟩
 have HOK := Zh hok
 obtain ⟨hle, hch⟩ := (smay_iff l).1 h1
 have HCH := Zh hch
 clear hok h1 hle hch
 go_upto_region 3 with (first | (go_at_call 97; refine hm.mono ?_; rintro e w2 ⟨rfl, hb2⟩; have G2 := G1.kept hb2; have K2 := K1.kept hb2; have hs2 := hs1.keep hb2; have hk2 := hk1.keep hb2; have b2 := b1.trans (hb2.mono hDw1); have k20 := K2.cell 0 rfl; have g20 := G2.cell 0 rfl) | (go_at_call 163; refine (may_any A' n' c' sk _ hk2).mono ?_; rintro e w3 ⟨rfl, hb3⟩; have G3 := G2.kept hb3; have K3 := K2.kept hb3; have hs3 := hs2.keep hb3; have hk3 := hk2.keep hb3; have hD2 := Zl (Nat.lt_of_le_of_lt hDG G2.lt); have b3 := b2.trans (hb3.mono hD2); have k30 := K3.cell 0 rfl; have g30 := G3.cell 0 rfl))
 clear hm h2 k20 g20 G1 K1 hs1 hk1 b1 G2 K2 hs2 hk2 b2 hb2 hb3 hDw1
 cases hi : insB l got sk with
 | false =>
  have hy := HY.out
  rw [ins_no HOK.out hi] at hy
  subst hy
  clear HY
  go_wp2_with (go_at_call 164; refine (inside_any A n c l got A' n' c' sk _ hs3 hk3).mono ?_; rintro e w4 ⟨rfl, hb4⟩; have G4 := G3.kept hb4; have K4 := K3.kept hb4; have hs4 := hs3.keep hb4; have hk4 := hk3.keep hb4; have hD3 := Zl (Nat.lt_of_le_of_lt hDG G3.lt); have b4 := b3.trans (hb4.mono hD3))
  go_ret3
  rw [HG.out]
  exact ⟨none, 0, 0, none, 0, 0, rfl, Sne.none _ _, Sne.none _ _, b4⟩
 | true =>
 have hy := HY.out
 rw [ins_ok HOK.out hi] at hy
 subst hy
 clear HY
 go_upto_region 5 with (go_at_call 164; refine (inside_any A n c l got A' n' c' sk _ hs3 hk3).mono ?_; rintro e w4 ⟨rfl, hb4⟩; have G4 := G3.kept hb4; have K4 := K3.kept hb4; have hs4 := hs3.keep hb4; have hk4 := hk3.keep hb4; have hD3 := Zl (Nat.lt_of_le_of_lt hDG G3.lt); have b4 := b3.trans (hb4.mono hD3))
 clear hi k30 g30 G3 K3 hs3 hk3 b3 hb4 hD2 hD3
 -- the closures' boxes
 obtain ⟨U, hU⟩ : ∃ U, w4.heap.size = U := ⟨_, rfl⟩
 have hGU : G < U := hU ▸ G4.lt
 go_upto_region 6 with fail
 change Code.wp _ _ _ _ (w4.alloc (.cells #[(.func (.func 165) #[] #[.pointer (some ⟨G, 0, none⟩)])] 107))
 have U5 : Bx (w4.alloc (.cells #[(.func (.func 165) #[] #[.pointer (some ⟨G, 0, none⟩)])] 107)) U 107 [(.func (.func 165) #[] #[.pointer (some ⟨G, 0, none⟩)])] := hU ▸ Bx.new w4 107 [(.func (.func 165) #[] #[.pointer (some ⟨G, 0, none⟩)])]
 have G5 := G4.alloc (.cells #[(.func (.func 165) #[] #[.pointer (some ⟨G, 0, none⟩)])] 107); have K5 := K4.alloc (.cells #[(.func (.func 165) #[] #[.pointer (some ⟨G, 0, none⟩)])] 107); have hs5 := hs4.alloc (.cells #[(.func (.func 165) #[] #[.pointer (some ⟨G, 0, none⟩)])] 107); have hk5 := hk4.alloc (.cells #[(.func (.func 165) #[] #[.pointer (some ⟨G, 0, none⟩)])] 107)
 have b5 : Below G w (w4.alloc (.cells #[(.func (.func 165) #[] #[.pointer (some ⟨G, 0, none⟩)])] 107)) := b4.alloc (by omega) _
 have hz5 : (w4.alloc (.cells #[(.func (.func 165) #[] #[.pointer (some ⟨G, 0, none⟩)])] 107)).heap.size = U + 1 := by simp [hU]
 try rw [hU]
 clear hU G4 K4 hs4 hk4 b4
 generalize w4.alloc (.cells #[(.func (.func 165) #[] #[.pointer (some ⟨G, 0, none⟩)])] 107) = w5 at U5 G5 K5 hs5 hk5 b5 hz5 ⊢
 go_upto_region 7 with fail
 change Code.wp _ _ _ _ (w5.alloc (.cells #[(.func (.func 166) #[] #[.pointer (some ⟨KS, 0, none⟩)])] 107))
 have V6 : Bx (w5.alloc (.cells #[(.func (.func 166) #[] #[.pointer (some ⟨KS, 0, none⟩)])] 107)) (U + 1) 107 [(.func (.func 166) #[] #[.pointer (some ⟨KS, 0, none⟩)])] := hz5 ▸ Bx.new w5 107 [(.func (.func 166) #[] #[.pointer (some ⟨KS, 0, none⟩)])]
 have U6 := U5.alloc (.cells #[(.func (.func 166) #[] #[.pointer (some ⟨KS, 0, none⟩)])] 107); have G6 := G5.alloc (.cells #[(.func (.func 166) #[] #[.pointer (some ⟨KS, 0, none⟩)])] 107); have K6 := K5.alloc (.cells #[(.func (.func 166) #[] #[.pointer (some ⟨KS, 0, none⟩)])] 107); have hs6 := hs5.alloc (.cells #[(.func (.func 166) #[] #[.pointer (some ⟨KS, 0, none⟩)])] 107); have hk6 := hk5.alloc (.cells #[(.func (.func 166) #[] #[.pointer (some ⟨KS, 0, none⟩)])] 107)
 have b6 : Below G w (w5.alloc (.cells #[(.func (.func 166) #[] #[.pointer (some ⟨KS, 0, none⟩)])] 107)) := b5.alloc (by omega) _
 try rw [hz5]
 clear hz5 U5 G5 K5 hs5 hk5 b5
 generalize w5.alloc (.cells #[(.func (.func 166) #[] #[.pointer (some ⟨KS, 0, none⟩)])] 107) = w6 at V6 U6 G6 K6 hs6 hk6 b6 ⊢
 have hG6 : G ≤ w6.heap.size := Zl G6.lt
 have heo : ∀ i, i < n → EndOk (ge l i) := fun i hi => endOk (HCH.out i (by rw [HL.out]; exact hi)).1
 have hp1 := stparted_any 168 ent_heard3 #[.pointer (some ⟨U, 0, none⟩), .pointer (some ⟨U + 1, 0, none⟩)] (toldC got sk) A n c l w6 hs6 hn
  (Zh (fun W hW i hi => arrived_any (ge l i) (heo i hi) got A' n' c' sk G KS U (U + 1) W (hk6.keep hW) (G6.kept hW) (K6.kept hW) (U6.kept hW) (V6.kept hW)))
 go_upto_region 9 with (go_at_call 169; refine hp1.mono ?_; rintro e w7 ⟨R0, m0, d0, R1, m1, d1, rfl, hg0, _, hb7⟩)
 have HT7 := Zh hg0
 have V7 := V6.kept hb7; have U7 := U6.kept hb7; have G7 := G6.kept hb7; have K7 := K6.kept hb7; have hs7 := hs6.keep hb7; have hk7 := hk6.keep hb7
 have b7 := b6.trans (hb7.mono hG6)
 have hG7 : G ≤ w7.heap.size := Zl G7.lt
 have hz67 := hb7.size
 clear hp1 hg0 V6 U6 G6 K6 hs6 hk6 b6 hb7
 have hp2 := stparted_any 165 ent_heard1 #[.pointer (some ⟨G, 0, none⟩)] (fun x => decide (endP x ≤ got)) A n c l w7 hs7 hn
  (Zh (fun W hW i hi => passed_any (ge l i) (heo i hi) got G W (G7.kept hW)))
 have u70 := U7.cell 0 rfl
 go_upto_region 10 with (go_at_call 169; refine hp2.mono ?_; rintro e w8 ⟨R2, m2, d2, R, m, d, rfl, _, hgl, hb8⟩)
 have HT8 := Zh (HT7.out.below hb8)
 have V8 := V7.kept hb8; have K8 := K7.kept hb8; have hk8 := hk7.keep hb8
 have b8 := b7.trans (hb8.mono hG7)
 have hG8 : G ≤ w8.heap.size := Zn hG7 hb8.size
 have V7x := V7.lt; have K7x := K7.lt
 clear hp2 u70 V7 U7 G7 K7 hs7 hk7 b7 heo
 obtain ⟨xs, hxs⟩ : ∃ xs, (l.filter fun x => !decide (endP x ≤ got)) = xs := ⟨_, rfl⟩
 rw [hxs] at hgl
 have hleft : leftL got sk l = xs.map (comeP sk) := by unfold leftL; rw [hxs]
 have hxl := hgl.len
 have hxk : ∀ i, i < m → EndOk (ge xs i) := fun i hi => by
  have hm : ge xs i ∈ xs := ge_mem (by omega)
  rw [← hxs, List.mem_filter] at hm
  obtain ⟨j, hj, he⟩ := List.getElem_of_mem hm.1
  have := (HCH.out j hj).1
  rw [ge_eq hj, he] at this
  rw [← hxs]; exact endOk this
 have hxm : m ≤ n := by rw [← hxl, ← hxs, ← HL.out]; exact List.length_filter_le _ _
 have HXL := Zh hxl; have HXK := Zh hxk; have HLEFT := Zh hleft
 obtain ⟨Z, hZ⟩ : ∃ Z, w8.heap.size = Z := ⟨_, rfl⟩
 have hZ7 : w7.heap.size ≤ Z := hZ ▸ hb8.size
 obtain ⟨Y, hY⟩ : ∃ Y, w7.heap.size = Y := ⟨_, rfl⟩
 have hUY := V7x; have hKY := K7x
 rw [hY] at hgl hZ7 hG7 hUY hKY
 have HGL0 : Hid (Goe w8 Y 57 (.slice R m d) m (upd sk 0 xs)) := Zh (by rw [upd_zero]; exact hgl)
 have HT9 : Hid (Goe w8 G 57 (.slice R0 m0 d0) m0 (toldL got sk l)) := Zh (goe_mono HT8.out hG6)
 have hb8' := hb8
 rw [hY] at hb8'
 have HB8 := Zh hb8'
 have HT7' : Hid (Goe w7 w6.heap.size 57 (.slice R0 m0 d0) m0 (l.filter (toldC got sk))) := HT7
 have hntold : ∀ k, (Value.slice R0 m0 d0).ownBlock = some k → k < Y := fun k hk => hY ▸ (HT7'.out.row.lt k hk).2
 have HNT := Zh hntold
 clear HT7 HT8 HT7' hgl hxs hxl hxk hleft hb8 hb8' hntold hY
 go_wp2_with fail
 go_loopw [41] (fun i wr => ∃ k : Nat, k ≤ m ∧ i = .int .i64 (k : Int) ∧ Hid (Goe wr Y 57 (.slice R m d) m (upd sk k xs)) ∧ Hid (Goe wr G 57 (.slice R0 m0 d0) m0 (toldL got sk l)) ∧ Bx wr (U + 1) 107 [(.func (.func 166) #[] #[.pointer (some ⟨KS, 0, none⟩)])] ∧ Bx wr KS 43 [.slice A' n' c'] ∧ Ss wr A' n' c' sk ∧ Below G w wr ∧ Z ≤ wr.heap.size) (fun i _ => m - (intOf i).toNat)
 case atStart => exact ⟨0, Nat.zero_le _, rfl, HGL0, HT9, V8, K8, hk8, b8, by omega⟩
 case round =>
  obtain ⟨k, hk, rfl, HGL, HT, V, K, hkr, hb, hZr⟩ := hrel
  by_cases hlt : k < m
  ·have dlt : decide (k < m) = true := Zt hlt
   have hkx : k < xs.length := by rw [HXL.out]; exact hlt
   obtain ⟨g, cap, hgf, hgB1, hgB2⟩ := HGL.out.row.form (by omega)
   cases hgf
   have N9 := goe_nine HGL.out hlt
   have hgek := upd_ge sk hkx
   rw [hgek] at N9
   have hpw := HGL.out.ok.ge (i := k) (by rw [upd_len]; exact hkx)
   rw [hgek] at hpw
   have heo := HXK.out k hlt
   have hup1 := fun h => upd_same sk hkx h
   have hup2 := upd_set sk hkx
   obtain ⟨y, hy⟩ : ∃ y, ge xs k = y := ⟨_, rfl⟩
   rw [hy] at N9 hgek hpw heo hup1 hup2
   have Vd := V.drew; have Kd := K.drew; have hkd := hkr.keep (Zb).drew; have bd := hb.drew
   have HGLd := Zh HGL.out.drew; have HTd := Zh HT.out.drew
   have hc := fun W h k => covered_any y heo A' n' c' sk KS W h k
   have HGEK := Zh hgek; have HPW := Zh hpw; have HUP1 := Zh hup1; have HUP2 := Zh hup2; have HKX := Zh hkx
   have N9d : Nine wr.drew g (k * 9) y := N9
   have hZd : Z ≤ wr.drew.heap.size := hZr
   have hk0 : (k : Int) < (m : Int) := by omega
   clear hgek hpw hup1 hup2 hkx hy N9 HGL HT V K hkr hb
   go_upto_region 13 with fail
   refine wp_region_tail 5 6 (fun (W : World) => Nine W g (k * 9) y ∧ W.cell? ⟨U + 1, 0, none⟩ = some (.func (.func 166) #[] #[.pointer (some ⟨KS, 0, none⟩)])) (by kernel_rfl) (by rfl) (by decide) ?_
   have HS : ((fun (W : World) => Nine W g (k * 9) y ∧ W.cell? ⟨U + 1, 0, none⟩ = some (.func (.func 166) #[] #[.pointer (some ⟨KS, 0, none⟩)]))) wr.drew := ⟨N9d, Vd.cell 0 rfl⟩
   refine tU 0 HS ?_ (hy := by intro w hSw; (try dsimp only [Nine] at hSw); go_simp; try with_reducible rfl)
   refine tU 1 HS ?_ (hy := by intro w hSw; (try dsimp only [Nine] at hSw); go_simp; try with_reducible rfl)
   refine tU 2 HS ?_ (hy := by intro w hSw; (try dsimp only [Nine] at hSw); go_simp; try with_reducible rfl)
   refine tU 3 HS ?_ (hy := by intro w hSw; (try dsimp only [Nine] at hSw); go_simp; try with_reducible rfl)
   refine tU 4 HS ?_ (hy := by intro w hSw; (try dsimp only [Nine] at hSw); go_simp; try with_reducible rfl)
   refine ⟨by kernel_rfl, ?_⟩
   simp only [List.drop_succ_cons, List.drop_zero]
   clear HS N9d heo
   cases hz : hasP sk y with
   | false =>
    have HU := Zh (HUP1.out hz)
    have hcf := hc _ hkd Kd
    rw [hz] at hcf
    clear hz hc
    go_wp2_with (go_at_call 166; refine hcf.mono ?_; rintro e wv ⟨rfl, hbv⟩)
    go_roundw
    case rel => exact ⟨k + 1, by omega, by go_num, Zh (by rw [← HU.out]; exact HGLd.out.below hbv), Zh (HTd.out.below hbv), Vd.kept hbv, Kd.kept hbv, hkd.keep hbv, bd.trans (hbv.mono (by omega)), by have := hbv.size; omega⟩
    case measure => simp [intOf]; omega
   | true =>
    have hup := HUP2.out
    rw [show comeP sk y = cameP y by unfold comeP; rw [hz]; rfl] at hup
    have HU := Zh hup
    have hcf := hc _ hkd Kd
    rw [hz] at hcf
    clear hz hc hup
    go_upto_region 14 with (go_at_call 166; refine hcf.mono ?_; rintro e wv ⟨rfl, hbv⟩)
    have hg' := HGLd.out.below hbv
    have ht' := HTd.out.below hbv
    have V' := Vd.kept hbv; have K' := Kd.kept hbv; have hk' := hkd.keep hbv
    have b' : Below G w wv := bd.trans (hbv.mono (by omega))
    have hZv : Z ≤ wv.heap.size := by have := hbv.size; omega
    have hgek := HGEK.out
    have hul : k < (upd sk k xs).length := by rw [upd_len]; exact HKX.out
    have q1 := hg'.set (i := k) (j := 5) (u := .bool true) (y := { y with came := true }) hlt (by decide) (by rw [hgek]; rfl) ⟨HPW.out.seq, HPW.out.len, HPW.out.dsn, HPW.out.at_, HPW.out.tries, HPW.out.total, HPW.out.last⟩
    obtain ⟨q1a, q1b⟩ := q1
    have q2 := q1a.set (i := k) (j := 6) (u := .bool false) (y := cameP y) hlt (by decide) (by rw [ge_set hul, if_pos rfl]; rfl) (cameP_w HPW.out)
    rw [List.set_set, HU.out] at q2
    obtain ⟨q2a, q2b⟩ := q2
    change Goe (wv.setCell ⟨g, k * 9 + 5, none⟩ _) _ _ _ _ _ at q1a
    change World.grownBy wv (wv.setCell ⟨g, k * 9 + 5, none⟩ _) _ at q1b
    change Goe ((wv.setCell ⟨g, k * 9 + 5, none⟩ _).setCell ⟨g, k * 9 + 6, none⟩ _) _ _ _ _ _ at q2a
    change World.grownBy (wv.setCell ⟨g, k * 9 + 5, none⟩ _) ((wv.setCell ⟨g, k * 9 + 5, none⟩ _).setCell ⟨g, k * 9 + 6, none⟩ _) _ at q2b
    have e9 : m * El.k Prt = m * 9 := rfl
    have i9 : k * 9 + 9 ≤ m * 9 := by omega
    have z5 := (hg'.row.cellAt (k * 9 + 5) (by omega)).trans (evals_at _ k 5 (.bool y.came) hul (by rw [hgek]; rfl))
    have f5 := hg'.row.frozenAt (k * 9 + 5)
    have z6 := (q1a.row.cellAt (k * 9 + 6) (by omega)).trans (evals_at _ k 6 (.bool y.lost) (by rw [List.length_set]; exact hul) (by rw [ge_set hul, if_pos rfl]; rfl))
    have f6 := q1a.row.frozenAt (k * 9 + 6)
    have hnt : NotIn g (.slice R0 m0 d0) := fun j hj => by have := HNT.out j hj; omega
    have ht'' : Goe ((wv.setCell ⟨g, k * 9 + 5, none⟩ (.bool true)).setCell ⟨g, k * 9 + 6, none⟩ (.bool false)) G 57 (.slice R0 m0 d0) m0 (toldL got sk l) := (ht'.setBox hnt _ _).setBox hnt _ _
    have V'' := (V'.grown q1b (fun h => by cases h; omega)).grown q2b (fun h => by cases h; omega)
    have K'' := (K'.grown q1b (fun h => by cases h; omega)).grown q2b (fun h => by cases h; omega)
    have b'' := (b'.setCell (p := ⟨g, k * 9 + 5, none⟩) (by show G ≤ g; omega) (.bool true)).setCell (p := ⟨g, k * 9 + 6, none⟩) (by show G ≤ g; omega) (.bool false)
    have hk'' : Ss ((wv.setCell ⟨g, k * 9 + 5, none⟩ (.bool true)).setCell ⟨g, k * 9 + 6, none⟩ (.bool false)) A' n' c' sk := HK0.out.keep (by rw [HG.out]; exact b'')
    have hZ'' : Z ≤ ((wv.setCell ⟨g, k * 9 + 5, none⟩ (.bool true)).setCell ⟨g, k * 9 + 6, none⟩ (.bool false)).heap.size := by simpa using hZv
    have HQ := Zh q2a; have HT2 := Zh ht''
    clear q1a q1b q2a q2b e9 i9 hg' ht' ht'' hgek hcf hbv
    go_wp2_with fail
    go_roundw
    case rel => exact ⟨k + 1, by omega, by go_num, HQ, HT2, V'', K'', hk'', b'', hZ''⟩
    case measure => simp [intOf]; omega
  ·obtain rfl : k = m := by omega
   have dlt : decide (k < k) = false := Zf (by omega)
   have hgl := HGL.out
   rw [← HXL.out, upd_all, ← HLEFT.out, HXL.out] at hgl
   obtain ⟨Ga, Gc, ev, hsn⟩ := hgl.sne
   cases ev
   obtain ⟨Ta, Tc, ev', hst⟩ := HT.out.sne
   cases ev'
   clear hgl HGL HT
   have HSN := Zh hsn; have HST := Zh hst
   clear hsn hst
   go_wp2_with fail
   go_ret3
   rw [HG.out]
   exact ⟨_, _, _, _, _, _, rfl, HSN.out.mono hG7, HST.out, hb⟩
end Go.Proofs.YtbijhkhkigdddaaGreat
