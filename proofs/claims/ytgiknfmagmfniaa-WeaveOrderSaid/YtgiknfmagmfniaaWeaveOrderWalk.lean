/- The walk of the law WeaveOrder. -/
import Derived.Test.YtgiknfmagmfniaaProg
import Derived.Test.YtgiknfmagmfniaaWeAwake
import Derived.Test.YtgiknfmagmfniaaBySame
import Derived.Test.YtgiknfmagmfniaaWeCut
import Derived.Test.YtgiknfmagmfniaaSpInts
import Derived.Test.YtgiknfmagmfniaaWvLaw
import Derived.WalkKit
import Derived.WalkSpells
import Derived.Lib.Hide
import Derived.Below
import Derived.Outline
import Derived.Deep.LoopGhost
import Derived.Deep.RegionWith
import Derived.Deep.DeepCutAuto
import Derived.Deep.AppendLies
import Derived.Deep.RegionHeld3
import Derived.Test.YtgiknfmagmfniaaWeIn
namespace Go.Proofs.Ytgiknfmagmfniaa
open Go.ChangeShapes Go.WideShapes Go.ChangeAt Go.RowKit Go.Joins

theorem cells_arr : Try.prog.cellsOf 43 = 2 := by kernel_rfl

theorem trod_array2 {H : Type} {enc : TypeId × Value → H} {P : Program} {w : World} {base : Nat} {spare : Nat → Bool} {held : Bool} {t e : TypeId} {fuel : Nat} {c0 c1 : Value} {x : DataW H × List MemPlace} (ht : P.underlying t = some (.array 2 e)) (hce : P.cellsOf e = 1)
    (h : DataW.trod enc P w base spare held fuel t [c0, c1] = some x) :
    ∃ y0 y1 n, x = (.agg [y0.1, y1.1], y0.2 ++ y1.2) ∧ DataW.trod enc P w base spare held n e [c0] = some y0 ∧ DataW.trod enc P w base spare held n e [c1] = some y1 := by
  cases fuel with
  | zero => simp [DataW.trod] at h
  | succ n =>
    unfold DataW.trod at h
    rw [ht] at h
    have r2 : List.range 2 = [0, 1] := rfl
    simp [r2, hce] at h
    obtain ⟨_, h⟩ := h
    cases h0 : DataW.trod enc P w base spare held n e [c0] with
    | none => simp [h0] at h
    | some y0 =>
      cases h1 : DataW.trod enc P w base spare held n e [c1] with
      | none => simp [h0, h1] at h
      | some y1 =>
        simp [h0, h1] at h
        exact ⟨y0, y1, n, h.symm, h0, h1⟩

theorem open_pairs {H : Type} {enc : TypeId × Value → H} {W : World} {a : Option Addr} {len cap : Nat} {d : DataW H} {p : List MemPlace} (h : DataW.Trod enc Try.prog W 0 (fun _ => true) true 41 (.slice a len cap) d p) : ∃ l, Ss W a len cap l := by
  obtain ⟨fuel, hf⟩ := h
  rcases Go.Deep.open_slice Try.underlying41 hf with ⟨hcs, _⟩ | ⟨x, l, c, m, n, D, Pl, hcs, _, hl, hm, hmm, _, hall⟩
  · simp [Value.cells] at hcs
    obtain ⟨rfl, rfl, rfl⟩ := hcs
    exact ⟨[], Ss.none _⟩
  · simp [Value.cells] at hcs
    obtain ⟨rfl, rfl, rfl⟩ := hcs
    simp only [if_true] at hmm
    subst hmm
    have hint : ∀ i, i < m → ∃ q : Int × Int, W.cell? (x.add (i * 2)) = some (.int .i64 q.1) ∧ W.cell? (x.add (i * 2 + 1)) = some (.int .i64 q.2) ∧ W64 q.1 ∧ W64 q.2 := by
      intro i hi
      obtain ⟨cs', h1, h2⟩ := hall i hi
      rw [cells_arr] at h1
      obtain ⟨_, hlen, hcell⟩ := World.cells?_some h1
      match cs', hlen with
      | [v0, v1], _ =>
        obtain ⟨y0, y1, k, _, t0, t1⟩ := trod_array2 Try.underlying43 cells_int h2
        have g0 := hcell 0 (by omega)
        have g1 := hcell 1 (by omega)
        obtain ⟨q0, e0, _, w0⟩ := DataW.trod_int Try.underlying3 t0
        obtain ⟨q1, e1, _, w1⟩ := DataW.trod_int Try.underlying3 t1
        simp only [List.cons.injEq, and_true] at e0 e1
        subst e0 e1
        rw [Go.Deep.add_add] at g0 g1
        exact ⟨(q0, q1), by simpa using g0, by simpa using g1, w64_of_wf w0, w64_of_wf w1⟩
    obtain ⟨q, hq⟩ := Go.Deep.choose_lt hint
    have hlen : ((List.range len).map q).length = len := by simp
    have hsp : ∀ i, i < len → sp ((List.range len).map q) i = q i := fun i hi => by
      rw [sp_eq (by simpa using hi)]; simp
    refine ⟨(List.range len).map q, hl, hm, (fun e => by cases e), hlen, ?_, fun h0 => ?_⟩
    · intro z hz
      obtain ⟨i, hi, rfl⟩ := List.mem_map.1 hz
      have := List.mem_range.1 hi
      exact (hq i (by omega)).2.2
    · have c0 := (hq 0 (by omega)).1
      have hspot : x.spot = none := by
        have := World.cell?_spot c0
        simpa [Addr.add] using this
      have hlt := World.block_lt_of_cell? _ _ c0
      obtain ⟨b, o, s⟩ := x
      simp only at hspot
      subst hspot
      have hadd : ∀ j, (⟨b, o, none⟩ : Addr).add j = ⟨b, o + j, none⟩ := fun j => by
        unfold Addr.add
        split
        · next h => subst h; rfl
        · rfl
      refine ⟨b, o, rfl, by simpa [hadd] using hlt, fun i hi => ?_⟩
      obtain ⟨g0, g1, _, _⟩ := hq i (by omega)
      rw [hadd] at g0 g1
      rw [hsp i hi]
      exact ⟨g0, by rw [← Nat.add_assoc] at g1; exact g1⟩

theorem open_nums {H : Type} {enc : TypeId × Value → H} {W : World} {a : Option Addr} {len cap : Nat} {d : DataW H} {p : List MemPlace} (h : DataW.Trod enc Try.prog W 0 (fun _ => true) true 42 (.slice a len cap) d p) : ∃ l, Si W a len cap l := by
  obtain ⟨fuel, hf⟩ := h
  rcases open_ints Try.underlying42 Try.underlying3 cells_int hf with ⟨hcs, _⟩ | ⟨x, l, c, zs, hcs, _, hl, hm, hz, _, hcell, hwz⟩
  · simp [Value.cells] at hcs
    obtain ⟨rfl, rfl, rfl⟩ := hcs
    exact ⟨[], Nat.le_refl _, Nat.zero_le _, fun _ => rfl, Ri.empty _ _⟩
  · simp [Value.cells] at hcs
    obtain ⟨rfl, rfl, rfl⟩ := hcs
    have hz' : zs.length = cap := by simpa using hz
    have hlt : (zs.take len).length = len := by rw [List.length_take]; omega
    refine ⟨zs.take len, hl, hm, (fun e => by cases e), hlt, ?_, fun h0 => ?_⟩
    · intro y hy
      exact w64_of_wf (hwz y (List.mem_of_mem_take hy))
    · have c0 := hcell 0 (by omega)
      have hspot : x.spot = none := by
        have := World.cell?_spot c0
        simpa [Addr.add] using this
      have hb := World.block_lt_of_cell? _ _ c0
      obtain ⟨b, o, s⟩ := x
      simp only at hspot
      subst hspot
      have hadd : ∀ j, (⟨b, o, none⟩ : Addr).add j = ⟨b, o + j, none⟩ := fun j => by
        unfold Addr.add
        split
        · next h => subst h; rfl
        · rfl
      refine ⟨b, o, rfl, by simpa [hadd] using hb, fun i hi => ?_⟩
      have g := hcell i (by omega)
      rw [hadd] at g
      rw [it_eq (by omega), List.getElem_take]
      rw [g, List.getD_eq_getElem?_getD, List.getElem?_eq_getElem (by omega)]
      rfl
end Go.Proofs.Ytgiknfmagmfniaa

namespace Go.Proofs.Ytgiknfmagmfniaa.weaveOrder
open Go.RowKit
set_option linter.unusedVariables false
set_option linter.unusedSimpArgs false

theorem new_all : newR 65536 = (⟨0, [], [], 65536, -1⟩, 0) := by rfl
set_option maxRecDepth 100000 in
set_option maxHeartbeats 8000000 in
theorem walk (a0 : Option Addr) (n0 c0 : Nat) (l0 : List Int) (a1 : Option Addr) (n1 c1 : Nat) (l1 : List Sp) (a2 : Option Addr) (n2 c2 : Nat) (l2 : List Int) (w : World) (h0 : Sl w a0 n0 c0 l0) (h1 : Ss w a1 n1 c1 l1) (h2 : Si w a2 n2 c2 l2) :
    Calls Try.prog 4 #[.slice a0 n0 c0, .slice a1 n1 c1, .slice a2 n2 c2] w fun e w' => e = .returned (.bool true) ∧ Below w.heap.size w w' := by
  have hl0 := h0.rd.len
  have hl1 := h1.rd.len
  have hl2 := h2.rd.len
  go_enter Try.func4, Try.ntmps4
  go_wp2_with fail
  refine (awake_any _).mono ?_
  rintro e w2 ⟨rfl, hb1⟩
  have b4 := hb1
  by_cases D0 : n0 ≤ 300
  case neg =>
    have D0' : (300 : Int) < (n0 : Int) := by omega
    go_wp2_with fail
    go_ret
    exact ⟨rfl, b4⟩
  case pos =>
  have D0' : ¬ ((300 : Int) < (n0 : Int)) := by omega
  by_cases D1 : n1 ≤ 40
  case neg =>
    have D0'' : ¬ ((300 : Int) < (n0 : Int)) := by omega
    have D1' : (40 : Int) < (n1 : Int) := by omega
    go_wp2_with fail
    go_ret
    exact ⟨rfl, b4⟩
  case pos =>
  have D1' : ¬ ((40 : Int) < (n1 : Int)) := by omega
  go_wp2_with fail
  refine (wnew_any 65536 _).mono ?_
  rintro e w14 h15
  rw [new_all] at h15
  obtain ⟨R5, m6, d7, H8, k9, q10, rfl, sb11, sq12, hb13⟩ := h15
  have b16 := b4.trans (hb13.mono b4.size)
  dsimp only
  obtain rfl : m6 = 0 := sb11.sl.rd.len.symm
  obtain rfl : k9 = 0 := sq12.ss.rd.len.symm
  have S1 := sb11.sl
  have S2 := sq12.ss
  have x17 := Bx.new w14 25 [.int .i64 0, .slice R5 0 d7, .slice H8 0 q10, .int .i64 65536, .int .i64 (-1)]
  have s18 := S1.alloc (.cells #[.int .i64 0, .slice R5 0 d7, .slice H8 0 q10, .int .i64 65536, .int .i64 (-1)] 25)
  have s19 := S2.alloc (.cells #[.int .i64 0, .slice R5 0 d7, .slice H8 0 q10, .int .i64 65536, .int .i64 (-1)] 25)
  have b20 := b16.alloc b16.size (.cells #[.int .i64 0, .slice R5 0 d7, .slice H8 0 q10, .int .i64 65536, .int .i64 (-1)] 25)
  have c21 := x17.cell 0 rfl
  have c22 := x17.cell 1 rfl
  have c23 := x17.cell 2 rfl
  have c24 := x17.cell 3 rfl
  have c25 := x17.cell 4 rfl
  go_wp2_with fail
  clear c21 c22 c23 c24 c25
  obtain ⟨v26, hv27⟩ : ∃ v26, w14.alloc (.cells #[.int .i64 0, .slice R5 0 d7, .slice H8 0 q10, .int .i64 65536, .int .i64 (-1)] 25) = v26 := ⟨_, rfl⟩
  have x17' : Bx v26 w14.heap.size 25 [.int .i64 0, .slice R5 0 d7, .slice H8 0 q10, .int .i64 65536, .int .i64 (-1)] := by rw [← hv27]; exact x17
  rw [hv27] at b20 s18 s19 ⊢
  clear hv27 x17
  obtain ⟨Bw, hBw⟩ : ∃ Bw, w14.heap.size = Bw := ⟨_, rfl⟩
  have hlt := x17'.lt
  rw [hBw] at x17' hlt ⊢
  obtain ⟨wl, hwl⟩ : ∃ x, v26 = x := ⟨_, rfl⟩
  try rw [hwl] at x17' hlt b20 s18 s19 ⊢
  have hBl : Bw < wl.heap.size := hlt
  have hwB : w.heap.size ≤ Bw := by rw [← hBw]; exact b16.size
  go_loopg [10, 11] n1 (fun gk po pi wr => ∃ (i : Nat) (ws : Wv) (o : List Int) (Ra : Option Addr) (ma da : Nat) (Ga : Option Addr) (ka qa : Nat) (Ro : Option Addr) (no co : Nat), i + gk = n1 ∧ pi = .int .i64 i ∧ po = .slice Ro no co ∧ Got wr wl.heap.size (.slice Ro no co) no o ∧ Ordd l0 ws o ∧ Bx wr Bw 25 [.int .i64 ws.base, .slice Ra ma da, .slice Ga ka qa, .int .i64 ws.cap, .int .i64 ws.en] ∧ Sl wr Ra ma da ws.b ∧ Ss wr Ga ka qa ws.got ∧ Below w.heap.size w wr ∧ Bw < wr.heap.size ∧ wl.heap.size ≤ wr.heap.size)
  case atStart => exact ⟨0, ⟨0, [], [], 65536, -1⟩, [], _, 0, _, _, 0, _, none, 0, 0, by omega, rfl, rfl, ⟨World.ownsRow_nil _ _ _ _, by intro x hx; simp at hx⟩, ord_new l0, x17', s18, s19, b20, hlt, Nat.le_refl _⟩
  case round =>
  clear x17' hlt b20 s18 s19
  obtain ⟨i, ⟨wb, wbl, wgl, wc, we⟩, o, Ra, ma, da, Ga, ka, qa, Ro, no, co, hig, rfl, rfl, hgo, hord, hbx, hsl, hss, hbw, hBr, hwr⟩ := hrel
  dsimp only at hbx hsl hss
  have h0' := h0.keep hbw; have h1' := h1.keep hbw; have h2' := h2.rd.keep hbw
  have hno := hgo.sb'.sl.rd.len
  by_cases hg0 : 0 < gk
  case neg =>
    have cnd : ¬ ((i : Int) < (n1 : Int)) := by omega
    have hol := hord.ol
    have hon : o.length = no := hno
    have hnn : ¬ ((n0 : Int) < (no : Int)) := by omega
    have hcut := fun w => run_head2 Try.prog 22 5 Try.underlying22 info_u8 a0 n0 c0 no w (by have := h0'.le; omega)
    have hov := hord.outv; rw [hon] at hov
    have hva := (wmay_iff _).2 hord.va; have hba := hord.base; dsimp only at hba; rw [hon] at hba
    have HVA := Lib.hid hva; have HOV := Lib.hid hov; have HBA := Lib.hid hba; clear hva hov hba hon
    have k0 := hbx.cell 0 rfl
    have k1 := hbx.cell 1 rfl
    have k2 := hbx.cell 2 rfl
    have k3 := hbx.cell 3 rfl
    have k4 := hbx.cell 4 rfl
    go_wp2_with fail
    refine (bsame_yes Ro a0 no co c0 o _ hgo.sb'.sl.rd (by rw [HOV.out]; exact h0'.rd.take (by omega)) (by omega)).mono ?_
    rintro e v1 ⟨rfl, bb1⟩
    clear k0 k1 k2 k3 k4
    have x1 := hbx.kept bb1; have y1 := hbw.trans (bb1.mono hbw.size); have s1 := hsl.keep bb1; have s2 := hss.keep bb1
    have k0 := x1.cell 0 rfl
    have k1 := x1.cell 1 rfl
    have k2 := x1.cell 2 rfl
    have k3 := x1.cell 3 rfl
    have k4 := x1.cell 4 rfl
    go_wp2_with fail
    refine (wvmay_any wb Ra ma da Ga ka qa wc we wbl wgl _ s1 s2 (by have := b_small hord.va; have := s1.rd.len; dsimp only at *; omega)).mono ?_
    rintro e v2 ⟨he, bb2⟩
    rw [HVA.out] at he; subst he
    have x2 := x1.kept bb2; have y2 := y1.trans (bb2.mono y1.size)
    clear k0 k1 k2 k3 k4
    have hba := HBA.out; subst hba
    have k0 := x2.cell 0 rfl
    have k1 := x2.cell 1 rfl
    have k2 := x2.cell 2 rfl
    have k3 := x2.cell 3 rfl
    have k4 := x2.cell 4 rfl
    go_wp2_with fail
    go_ret
    exact ⟨rfl, y2⟩
  case pos =>
  have hin : i < n1 := by omega
  have cnd : (i : Int) < (n1 : Int) := by omega
  obtain ⟨b1, o1, rfl, hb1l, hc1⟩ := h1'.rd.at_ (by omega)
  obtain ⟨q0, q1⟩ := hc1 i hin
  have hwd := h1'.rd.wide
  have hwz : W64 (sp l1 i).1 ∧ W64 (sp l1 i).2 := by rw [sp_eq (by omega)]; exact hwd _ (List.getElem_mem _)
  obtain ⟨za, hza⟩ : ∃ z, (sp l1 i).1 = z := ⟨_, rfl⟩; obtain ⟨zn, hzn⟩ : ∃ z, (sp l1 i).2 = z := ⟨_, rfl⟩
  rw [hza] at q0; rw [hzn] at q1; rw [hza, hzn] at hwz
  unfold W64 at hwz
  have HC1 := Lib.hid hc1; clear hc1 hza hzn hwd
  have k0 := hbx.cell 0 rfl
  have k1 := hbx.cell 1 rfl
  have k2 := hbx.cell 2 rfl
  have k3 := hbx.cell 3 rfl
  have k4 := hbx.cell 4 rfl
  have hwsub : 0 ≤ za → IntKind.i64.wrap ((n0 : Int) - za) = n0 - za := fun h => IntWalk.i64_in _ (by omega)
  by_cases v1 : za < 0
  case pos =>
    clear hwsub
    go_wp2_with fail
    go_ret
    exact ⟨rfl, hbw⟩
  case neg =>
  have hws := hwsub (by omega); clear hwsub
  by_cases v2 : zn < 0
  case pos =>
    go_wp2_with fail
    go_ret
    exact ⟨rfl, hbw⟩
  case neg =>
  by_cases v3 : (n0 : Int) < za
  case pos =>
    go_wp2_with fail
    go_ret
    exact ⟨rfl, hbw⟩
  case neg =>
  by_cases v4 : (n0 : Int) - za < zn
  case pos =>
    go_wp2_with fail
    go_ret
    exact ⟨rfl, hbw⟩
  case neg =>
  obtain ⟨xa, rfl⟩ : ∃ x : Nat, za = x := ⟨za.toNat, by omega⟩
  obtain ⟨xn, rfl⟩ : ∃ x : Nat, zn = x := ⟨zn.toNat, by omega⟩
  obtain ⟨xe, hxe⟩ : ∃ xe, xn + xa = xe := ⟨_, rfl⟩
  have hwa : IntKind.i64.wrap ((xa : Int) + xn) = (xe : Int) := by rw [IntWalk.i64_in _ (by omega)]; omega
  have hcut := fun w => run_cut2 Try.prog 22 5 Try.underlying22 info_u8 a0 n0 c0 xa xe xn w (by have := h0'.le; omega) hxe.symm
  have hxl : xe ≤ n0 := by omega
  have HXE := Lib.hid hxe; clear hxe hwz
  go_upto_region 15 with fail
  obtain ⟨u1, u2, u3⟩ := ord_put hord (by omega) (a := xa) (m := xn) (by omega)
  rw [show xa + xn = xe by have := HXE.out; omega] at u1 u2 u3
  obtain ⟨P, PH⟩ : ∃ P, putR ⟨wb, wbl, wgl, wc, we⟩ xa ((l0.take xe).drop xa) = P := ⟨_, rfl⟩
  rw [PH] at u1 u2 u3
  obtain ⟨⟨pb, pl, pg, pc, pe⟩, pn, pr⟩ := P
  dsimp only at u1 u2 u3
  subst u1
  have PQ := Lib.hid PH; clear PH
  have hma : ma ≤ 65536 := by have := b_small hord.va; have := hsl.rd.len; dsimp only at *; omega
  have d1 := (Below.refl wr.heap.size wr).drew
  have d2 := ((Below.refl wr.heap.size wr).alloc (Nat.le_refl _) (.cells #[.int .i64 0, .slice none 0 0, .slice none 0 0, .int .i64 0, .int .i64 0] 25)).drew
  have hs2 := h0'.cut2 (k := xa) (j := xe) (m := xn) (by omega) (by have := HXE.out; omega)
  have hsA := hsl.keep d1; have hgA := hss.keep d1; have h2A := hs2.keep d1
  have hsB := hsl.keep d2; have hgB := hss.keep d2; have h2B := hs2.keep d2
  have xA := hbx.drew
  have xB := (hbx.alloc (.cells #[.int .i64 0, .slice none 0 0, .slice none 0 0, .int .i64 0, .int .i64 0] 25)).drew
  have zB := (Bx.new wr 25 [.int .i64 0, .slice none 0 0, .slice none 0 0, .int .i64 0, .int .i64 0]).drew
  have kA0 := xA.cell 0 rfl; have kB0 := xB.cell 0 rfl
  have kA1 := xA.cell 1 rfl; have kB1 := xB.cell 1 rfl
  have kA2 := xA.cell 2 rfl; have kB2 := xB.cell 2 rfl
  have kA3 := xA.cell 3 rfl; have kB3 := xB.cell 3 rfl
  have kA4 := xA.cell 4 rfl; have kB4 := xB.cell 4 rfl
  have U2 := Lib.hid u2; have U3 := Lib.hid u3; clear u2 u3
  go_cut [14, 15, 16] (fun s14 s15 s16 wx => ∃ Bu Rb mb db Gb kb qb, s14 = .pointer (some ⟨Bu, 0, none⟩) ∧ s16 = .int .i64 0 ∧ Bx wx Bu 25 [.int .i64 pb, .slice Rb mb db, .slice Gb kb qb, .int .i64 pc, .int .i64 pe] ∧ Sb wx wr.heap.size Rb mb db pl ∧ Sq wx wr.heap.size Gb kb qb pg ∧ Below wr.heap.size wr wx ∧ wr.heap.size ≤ Bu)
  case first =>
    go_region_with (go_at_call 11; refine (wput_any wb Ra ma da Ga ka qa wc we wbl wgl _ (by first | exact hsA | exact hsB) (by first | exact hgA | exact hgB) (by omega) xa _ xn (c0 - xa) ((l0.take xe).drop xa) (by unfold W64; omega) (by first | exact h2A | exact h2B) (by omega)).mono ?_; rintro e w8 h8; rw [PQ.out] at h8; obtain ⟨Rb, mb, db, Gb, kb, qb, rfl, sb8, sq8, b8⟩ := h8; dsimp only at sb8 sq8; dsimp only; try (have zz := zB.kept b8; have zc0 := zz.cell 0 rfl; have zc1 := zz.cell 1 rfl; have zc2 := zz.cell 2 rfl; have zc3 := zz.cell 3 rfl; have zc4 := zz.cell 4 rfl; have zf0 := zz.free 0; have zf1 := zz.free 1; have zf2 := zz.free 2; have zf3 := zz.free 3; have zf4 := zz.free 4))
    all_goals go_wp2_with fail
    all_goals (simp only [List.getElem_toArray, List.getElem_cons_succ, List.getElem_cons_zero, Act.put, List.setIfInBounds_toArray, List.set_cons_zero, List.set_cons_succ])
    all_goals go_meet
    case rel =>
      exact ⟨w8.heap.size, Rb, mb, db, Gb, kb, qb, rfl, rfl, Bx.new w8 25 [.int .i64 pb, .slice Rb mb db, .slice Gb kb qb, .int .i64 pc, .int .i64 pe], sb8.keep ((Below.refl _ _).alloc (Nat.le_refl _) (.cells #[.int .i64 pb, .slice Rb mb db, .slice Gb kb qb, .int .i64 pc, .int .i64 pe] 25)), sq8.keep ((Below.refl _ _).alloc (Nat.le_refl _) (.cells #[.int .i64 pb, .slice Rb mb db, .slice Gb kb qb, .int .i64 pc, .int .i64 pe] 25)), (d1.trans b8).alloc b8.size (.cells #[.int .i64 pb, .slice Rb mb db, .slice Gb kb qb, .int .i64 pc, .int .i64 pe] 25), b8.size⟩
    case rel =>
      exact ⟨wr.heap.size, Rb, mb, db, Gb, kb, qb, rfl, rfl, (((((zz.set 0 (.int .i64 pb)).set 1 (.slice Rb mb db)).set 2 (.slice Gb kb qb)).set 3 (.int .i64 pc)).set 4 (.int .i64 pe)), (((((sb8.set (p := ⟨wr.heap.size, 0, none⟩) (by simp) (.int .i64 pb)).set (p := ⟨wr.heap.size, 1, none⟩) (by simp) (.slice Rb mb db)).set (p := ⟨wr.heap.size, 2, none⟩) (by simp) (.slice Gb kb qb)).set (p := ⟨wr.heap.size, 3, none⟩) (by simp) (.int .i64 pc)).set (p := ⟨wr.heap.size, 4, none⟩) (by simp) (.int .i64 pe)).mono (by simp), (((((sq8.set (p := ⟨wr.heap.size, 0, none⟩) (by simp) (.int .i64 pb)).set (p := ⟨wr.heap.size, 1, none⟩) (by simp) (.slice Rb mb db)).set (p := ⟨wr.heap.size, 2, none⟩) (by simp) (.slice Gb kb qb)).set (p := ⟨wr.heap.size, 3, none⟩) (by simp) (.int .i64 pc)).set (p := ⟨wr.heap.size, 4, none⟩) (by simp) (.int .i64 pe)).mono (by simp), ((((((d2.trans (b8.mono (by simp))).setCell (p := ⟨wr.heap.size, 0, none⟩) (Nat.le_refl _) (.int .i64 pb)).setCell (p := ⟨wr.heap.size, 1, none⟩) (Nat.le_refl _) (.slice Rb mb db)).setCell (p := ⟨wr.heap.size, 2, none⟩) (Nat.le_refl _) (.slice Gb kb qb)).setCell (p := ⟨wr.heap.size, 3, none⟩) (Nat.le_refl _) (.int .i64 pc)).setCell (p := ⟨wr.heap.size, 4, none⟩) (Nat.le_refl _) (.int .i64 pe)), Nat.le_refl _⟩
    case rel =>
      exact ⟨wr.heap.size, Rb, mb, db, Gb, kb, qb, rfl, rfl, (((((zz.set 0 (.int .i64 pb)).set 1 (.slice Rb mb db)).set 2 (.slice Gb kb qb)).set 3 (.int .i64 pc)).set 4 (.int .i64 pe)), (((((sb8.set (p := ⟨wr.heap.size, 0, none⟩) (by simp) (.int .i64 pb)).set (p := ⟨wr.heap.size, 1, none⟩) (by simp) (.slice Rb mb db)).set (p := ⟨wr.heap.size, 2, none⟩) (by simp) (.slice Gb kb qb)).set (p := ⟨wr.heap.size, 3, none⟩) (by simp) (.int .i64 pc)).set (p := ⟨wr.heap.size, 4, none⟩) (by simp) (.int .i64 pe)).mono (by simp), (((((sq8.set (p := ⟨wr.heap.size, 0, none⟩) (by simp) (.int .i64 pb)).set (p := ⟨wr.heap.size, 1, none⟩) (by simp) (.slice Rb mb db)).set (p := ⟨wr.heap.size, 2, none⟩) (by simp) (.slice Gb kb qb)).set (p := ⟨wr.heap.size, 3, none⟩) (by simp) (.int .i64 pc)).set (p := ⟨wr.heap.size, 4, none⟩) (by simp) (.int .i64 pe)).mono (by simp), ((((((d2.trans (b8.mono (by simp))).setCell (p := ⟨wr.heap.size, 0, none⟩) (Nat.le_refl _) (.int .i64 pb)).setCell (p := ⟨wr.heap.size, 1, none⟩) (Nat.le_refl _) (.slice Rb mb db)).setCell (p := ⟨wr.heap.size, 2, none⟩) (Nat.le_refl _) (.slice Gb kb qb)).setCell (p := ⟨wr.heap.size, 3, none⟩) (Nat.le_refl _) (.int .i64 pc)).setCell (p := ⟨wr.heap.size, 4, none⟩) (Nat.le_refl _) (.int .i64 pe)), Nat.le_refl _⟩
  case rest =>
  obtain ⟨Bu, Rb, mb, db, Gb, kb, qb, rfl, rfl, xu, su, gu, bx2, hBu⟩ := hcut
  rename World => wx
  clear kA0 kB0 k0 kA1 kB1 k1 kA2 kB2 k2 kA3 kB3 k3 kA4 kB4 k4 xA xB zB hsA hgA h2A hsB hgB h2B hs2 d1 d2 hwa hws
  have hw2 := hbx.kept bx2; have hy2 := hbw.trans (bx2.mono hbw.size); have ho2 := hgo.below bx2; have hl2' := hsl.keep bx2; have hg2' := hss.keep bx2
  have hlu := su.sl.rd.len
  have hmb : mb ≤ 65536 := by have := b_small U2.out.va; dsimp only at this; omega
  have heu : edgeR ⟨pb, pl, pg, pc, pe⟩ = edgeR ⟨wb, wbl, wgl, wc, we⟩ := by unfold edgeR; rw [if_pos ((wmay_iff _).2 U2.out.va), if_pos ((wmay_iff _).2 hord.va)]; exact U3.out
  obtain ⟨E, hE⟩ : ∃ E, edgeR ⟨wb, wbl, wgl, wc, we⟩ = E := ⟨_, rfl⟩
  rw [hE] at heu
  have HEU := Lib.hid heu; have HE := Lib.hid hE; clear heu hE
  have dE : decide (E < E) = false := decide_eq_false (Int.lt_irrefl E)
  go_upto_region 16 with fail
  have xu3 := xu.drew; have hw3 := hw2.drew; have hy3 := hy2.drew; have ho3 := ho2.below (Below.refl _ _).drew; have su3 := su.keep (Below.refl _ _).drew; have gu3 := gu.keep (Below.refl _ _).drew; have hl3 := hl2'.keep (Below.refl _ _).drew; have hg3 := hg2'.keep (Below.refl _ _).drew; have z3 : wx.heap.size ≤ wx.drew.heap.size := Nat.le_refl _
  refine wp_region_tail 8 9 (fun w' : World => w'.cell? ⟨Bu, 0, none⟩ = some (.int .i64 pb) ∧ w'.cell? ⟨Bu, 1, none⟩ = some (.slice Rb mb db) ∧ w'.cell? ⟨Bu, 2, none⟩ = some (.slice Gb kb qb) ∧ w'.cell? ⟨Bu, 3, none⟩ = some (.int .i64 pc) ∧ w'.cell? ⟨Bu, 4, none⟩ = some (.int .i64 pe) ∧ w'.cell? ⟨Bw, 0, none⟩ = some (.int .i64 wb) ∧ w'.cell? ⟨Bw, 1, none⟩ = some (.slice Ra ma da) ∧ w'.cell? ⟨Bw, 2, none⟩ = some (.slice Ga ka qa) ∧ w'.cell? ⟨Bw, 3, none⟩ = some (.int .i64 wc) ∧ w'.cell? ⟨Bw, 4, none⟩ = some (.int .i64 we)) (by kernel_rfl) (by rfl) (by decide) ?_
  have HS : ((fun w' : World => w'.cell? ⟨Bu, 0, none⟩ = some (.int .i64 pb) ∧ w'.cell? ⟨Bu, 1, none⟩ = some (.slice Rb mb db) ∧ w'.cell? ⟨Bu, 2, none⟩ = some (.slice Gb kb qb) ∧ w'.cell? ⟨Bu, 3, none⟩ = some (.int .i64 pc) ∧ w'.cell? ⟨Bu, 4, none⟩ = some (.int .i64 pe) ∧ w'.cell? ⟨Bw, 0, none⟩ = some (.int .i64 wb) ∧ w'.cell? ⟨Bw, 1, none⟩ = some (.slice Ra ma da) ∧ w'.cell? ⟨Bw, 2, none⟩ = some (.slice Ga ka qa) ∧ w'.cell? ⟨Bw, 3, none⟩ = some (.int .i64 wc) ∧ w'.cell? ⟨Bw, 4, none⟩ = some (.int .i64 we))) _ := ⟨xu3.cell 0 rfl, xu3.cell 1 rfl, xu3.cell 2 rfl, xu3.cell 3 rfl, xu3.cell 4 rfl, hw3.cell 0 rfl, hw3.cell 1 rfl, hw3.cell 2 rfl, hw3.cell 3 rfl, hw3.cell 4 rfl⟩
  refine wpAnyT_take (i := 0) (v := ?vv1) rfl (by kernel_rfl) (fun _ _ _ h => h) (Or.inl ⟨by rfl, fun w hSw => ?yy1⟩) HS ?rr1
  case yy1 =>
    (try dsimp only at hSw); go_simp
    try with_reducible rfl
  try simp only [Act.put, List.setIfInBounds_toArray, List.set_cons_zero, List.set_cons_succ]
  refine wpAnyT_take (i := 1) (v := ?vv2) rfl (by kernel_rfl) (fun _ _ _ h => h) (Or.inl ⟨by rfl, fun w hSw => ?yy2⟩) HS ?rr2
  case yy2 =>
    (try dsimp only at hSw); go_simp
    try with_reducible rfl
  try simp only [Act.put, List.setIfInBounds_toArray, List.set_cons_zero, List.set_cons_succ]
  refine wpAnyT_take (i := 2) (v := ?vv3) rfl (by kernel_rfl) (fun _ _ _ h => h) (Or.inl ⟨by rfl, fun w hSw => ?yy3⟩) HS ?rr3
  case yy3 =>
    (try dsimp only at hSw); go_simp
    try with_reducible rfl
  try simp only [Act.put, List.setIfInBounds_toArray, List.set_cons_zero, List.set_cons_succ]
  refine wpAnyT_take (i := 3) (v := ?vv4) rfl (by kernel_rfl) (fun _ _ _ h => h) (Or.inl ⟨by rfl, fun w hSw => ?yy4⟩) HS ?rr4
  case yy4 =>
    (try dsimp only at hSw); go_simp
    try with_reducible rfl
  try simp only [Act.put, List.setIfInBounds_toArray, List.set_cons_zero, List.set_cons_succ]
  refine wpAnyT_take (i := 5) (v := ?vv5) rfl (by kernel_rfl) (fun _ _ _ h => h) (Or.inl ⟨by rfl, fun w hSw => ?yy5⟩) HS ?rr5
  case yy5 =>
    (try dsimp only at hSw); go_simp
    try with_reducible rfl
  try simp only [Act.put, List.setIfInBounds_toArray, List.set_cons_zero, List.set_cons_succ]
  refine wpAnyT_one (k := 4) rfl (by kernel_rfl) (by decide) (fun K hK => ?_)
  go_simp
  refine (wedge_any pb Rb mb db Gb kb qb pc pe pl pg _ su3.sl gu3.ss (by omega)).mono ?_
  rintro e w4 ⟨he, hb4⟩
  rw [HEU.out] at he
  subst he
  have xu4 := xu3.kept hb4
  have hw4 := hw3.kept hb4
  have hy4 := hy3.trans (hb4.mono hy3.size)
  have ho4 := ho3.below hb4
  have su4 := su3.keep hb4
  have gu4 := gu3.keep hb4
  have hl4 := hl3.keep hb4
  have hg4 := hg3.keep hb4
  have z4 := Nat.le_trans z3 hb4.size
  have HS : ((fun w' : World => w'.cell? ⟨Bu, 0, none⟩ = some (.int .i64 pb) ∧ w'.cell? ⟨Bu, 1, none⟩ = some (.slice Rb mb db) ∧ w'.cell? ⟨Bu, 2, none⟩ = some (.slice Gb kb qb) ∧ w'.cell? ⟨Bu, 3, none⟩ = some (.int .i64 pc) ∧ w'.cell? ⟨Bu, 4, none⟩ = some (.int .i64 pe) ∧ w'.cell? ⟨Bw, 0, none⟩ = some (.int .i64 wb) ∧ w'.cell? ⟨Bw, 1, none⟩ = some (.slice Ra ma da) ∧ w'.cell? ⟨Bw, 2, none⟩ = some (.slice Ga ka qa) ∧ w'.cell? ⟨Bw, 3, none⟩ = some (.int .i64 wc) ∧ w'.cell? ⟨Bw, 4, none⟩ = some (.int .i64 we))) _ := ⟨xu4.cell 0 rfl, xu4.cell 1 rfl, xu4.cell 2 rfl, xu4.cell 3 rfl, xu4.cell 4 rfl, hw4.cell 0 rfl, hw4.cell 1 rfl, hw4.cell 2 rfl, hw4.cell 3 rfl, hw4.cell 4 rfl⟩
  refine hK _ _ HS ?_
  clear hK K
  try simp only [Act.put, List.setIfInBounds_toArray, List.set_cons_zero, List.set_cons_succ]
  refine wpAnyT_one (k := 6) rfl (by kernel_rfl) (by decide) (fun K hK => ?_)
  go_simp
  refine (wedge_any wb Ra ma da Ga ka qa wc we wbl wgl _ hl4 hg4 (by omega)).mono ?_
  rintro e w5 ⟨he, hb5⟩
  rw [HE.out] at he
  subst he
  have xu5 := xu4.kept hb5
  have hw5 := hw4.kept hb5
  have hy5 := hy4.trans (hb5.mono hy4.size)
  have ho5 := ho4.below hb5
  have su5 := su4.keep hb5
  have gu5 := gu4.keep hb5
  have hl5 := hl4.keep hb5
  have hg5 := hg4.keep hb5
  have z5 := Nat.le_trans z4 hb5.size
  have HS : ((fun w' : World => w'.cell? ⟨Bu, 0, none⟩ = some (.int .i64 pb) ∧ w'.cell? ⟨Bu, 1, none⟩ = some (.slice Rb mb db) ∧ w'.cell? ⟨Bu, 2, none⟩ = some (.slice Gb kb qb) ∧ w'.cell? ⟨Bu, 3, none⟩ = some (.int .i64 pc) ∧ w'.cell? ⟨Bu, 4, none⟩ = some (.int .i64 pe) ∧ w'.cell? ⟨Bw, 0, none⟩ = some (.int .i64 wb) ∧ w'.cell? ⟨Bw, 1, none⟩ = some (.slice Ra ma da) ∧ w'.cell? ⟨Bw, 2, none⟩ = some (.slice Ga ka qa) ∧ w'.cell? ⟨Bw, 3, none⟩ = some (.int .i64 wc) ∧ w'.cell? ⟨Bw, 4, none⟩ = some (.int .i64 we))) _ := ⟨xu5.cell 0 rfl, xu5.cell 1 rfl, xu5.cell 2 rfl, xu5.cell 3 rfl, xu5.cell 4 rfl, hw5.cell 0 rfl, hw5.cell 1 rfl, hw5.cell 2 rfl, hw5.cell 3 rfl, hw5.cell 4 rfl⟩
  refine hK _ _ HS ?_
  clear hK K
  try simp only [Act.put, List.setIfInBounds_toArray, List.set_cons_zero, List.set_cons_succ]
  refine wpAnyT_take (i := 7) (v := ?vv6) rfl (by kernel_rfl) (fun _ _ _ h => h) (Or.inl ⟨by rfl, fun w hSw => ?yy6⟩) HS ?rr6
  case yy6 =>
    (try dsimp only at hSw); go_simp
    try with_reducible rfl
  try simp only [Act.put, List.setIfInBounds_toArray, List.set_cons_zero, List.set_cons_succ]
  refine ⟨by kernel_rfl, ?_⟩
  simp only [List.drop_succ_cons, List.drop_zero]
  clear HS
  have k0 := xu5.cell 0 rfl; have f0 := hw5.free 0; have j0 := hw5.cell 0 rfl
  have k1 := xu5.cell 1 rfl; have f1 := hw5.free 1; have j1 := hw5.cell 1 rfl
  have k2 := xu5.cell 2 rfl; have f2 := hw5.free 2; have j2 := hw5.cell 2 rfl
  have k3 := xu5.cell 3 rfl; have f3 := hw5.free 3; have j3 := hw5.cell 3 rfl
  have k4 := xu5.cell 4 rfl; have f4 := hw5.free 4; have j4 := hw5.cell 4 rfl
  go_upto_region 18 with fail
  go_cut [100] (fun s100 wz => Bx wz Bw 25 [.int .i64 pb, .slice Rb mb db, .slice Gb kb qb, .int .i64 pc, .int .i64 pe] ∧ Below w.heap.size w wz ∧ Got wz wl.heap.size (.slice Ro no co) no o ∧ Sb wz wr.heap.size Rb mb db pl ∧ Sq wz wr.heap.size Gb kb qb pg ∧ wx.heap.size ≤ wz.heap.size)
  case first =>
    go_wp2_with fail
    go_meet
    case rel => exact ⟨(((((hw5.set 0 (.int .i64 pb)).set 1 (.slice Rb mb db)).set 2 (.slice Gb kb qb)).set 3 (.int .i64 pc)).set 4 (.int .i64 pe)), (((((hy5.setCell (p := ⟨Bw, 0, none⟩) hwB (.int .i64 pb)).setCell (p := ⟨Bw, 1, none⟩) hwB (.slice Rb mb db)).setCell (p := ⟨Bw, 2, none⟩) hwB (.slice Gb kb qb)).setCell (p := ⟨Bw, 3, none⟩) hwB (.int .i64 pc)).setCell (p := ⟨Bw, 4, none⟩) hwB (.int .i64 pe)), (((((ho5.set (p := ⟨Bw, 0, none⟩) hBl (.int .i64 pb)).set (p := ⟨Bw, 1, none⟩) hBl (.slice Rb mb db)).set (p := ⟨Bw, 2, none⟩) hBl (.slice Gb kb qb)).set (p := ⟨Bw, 3, none⟩) hBl (.int .i64 pc)).set (p := ⟨Bw, 4, none⟩) hBl (.int .i64 pe)), (((((su5.set (p := ⟨Bw, 0, none⟩) hBr (.int .i64 pb)).set (p := ⟨Bw, 1, none⟩) hBr (.slice Rb mb db)).set (p := ⟨Bw, 2, none⟩) hBr (.slice Gb kb qb)).set (p := ⟨Bw, 3, none⟩) hBr (.int .i64 pc)).set (p := ⟨Bw, 4, none⟩) hBr (.int .i64 pe)), (((((gu5.set (p := ⟨Bw, 0, none⟩) hBr (.int .i64 pb)).set (p := ⟨Bw, 1, none⟩) hBr (.slice Rb mb db)).set (p := ⟨Bw, 2, none⟩) hBr (.slice Gb kb qb)).set (p := ⟨Bw, 3, none⟩) hBr (.int .i64 pc)).set (p := ⟨Bw, 4, none⟩) hBr (.int .i64 pe)), Nat.le_trans z5 ((((((Below.refl Bw w5).setCell (p := ⟨Bw, 0, none⟩) (Nat.le_refl _) (.int .i64 pb)).setCell (p := ⟨Bw, 1, none⟩) (Nat.le_refl _) (.slice Rb mb db)).setCell (p := ⟨Bw, 2, none⟩) (Nat.le_refl _) (.slice Gb kb qb)).setCell (p := ⟨Bw, 3, none⟩) (Nat.le_refl _) (.int .i64 pc)).setCell (p := ⟨Bw, 4, none⟩) (Nat.le_refl _) (.int .i64 pe)).size⟩
  case rest =>
  obtain ⟨x6, b6, o6, s6, g6, z6⟩ := hcut
  rename World => w6
  clear k0 f0 j0 k1 f1 j1 k2 f2 j2 k3 f3 j3 k4 f4 j4 xu3 hw3 hy3 ho3 su3 gu3 z3 xu4 hw4 hy4 ho4 su4 gu4 z4 xu5 hw5 hy5 ho5 su5 gu5 z5 hl3 hg3 hl4 hg4 hl5 hg5 hb4 hb5 xu hw2 hy2 ho2 su gu hl2' hg2' hbx hbw hgo hsl hss hBu
  have hBw6 : Bw < w6.heap.size := x6.lt; have hwl6 : wl.heap.size ≤ w6.heap.size := by have := bx2.size; omega
  have h26 := h2.rd.keep b6
  by_cases hi2 : i < n2
  case neg =>
    have cnd2 : ¬ ((i : Int) < (n2 : Int)) := by omega
    go_wp2_with fail
    go_roundg (gk - 1)
    case rel => exact ⟨i + 1, ⟨pb, pl, pg, pc, pe⟩, o, Rb, mb, db, Gb, kb, qb, Ro, no, co, by omega, by go_num, rfl, o6, U2.out, x6, s6.sl, g6.ss, b6, hBw6, hwl6⟩
    case measure => omega
  case pos =>
  have cnd2 : (i : Int) < (n2 : Int) := by omega
  obtain ⟨b2, o2, rfl, hb2l, hc2⟩ := h26.at_ (by omega)
  have q2 := hc2 i hi2
  have hz64 : W64 (it l2 i) := it_wide h26.wide i
  obtain ⟨z, hz⟩ : ∃ z, it l2 i = z := ⟨_, rfl⟩
  rw [hz] at q2 hz64
  have HC2 := Lib.hid hc2; clear hc2 hz
  by_cases hz0 : 0 ≤ z
  case neg =>
    go_wp2_with fail
    go_roundg (gk - 1)
    case rel => exact ⟨i + 1, ⟨pb, pl, pg, pc, pe⟩, o, Rb, mb, db, Gb, kb, qb, Ro, no, co, by omega, by go_num, rfl, o6, U2.out, x6, s6.sl, g6.ss, b6, hBw6, hwl6⟩
    case measure => omega
  case pos =>
  obtain ⟨RD, hRD⟩ : ∃ RD, rdyW ⟨pb, pl, pg, pc, pe⟩ = RD := ⟨_, rfl⟩
  have hrd : readyR ⟨pb, pl, pg, pc, pe⟩ = (RD : Int) := by unfold readyR; rw [if_pos ((wmay_iff _).2 U2.out.va), hRD]
  have hrdl := rdy_le ⟨pb, pl, pg, pc, pe⟩
  rw [hRD] at hrdl
  have hrdl' : RD ≤ mb := by have h9 : RD ≤ pl.length := hrdl; omega
  clear hrdl
  obtain ⟨K, hK⟩ : ∃ K, min RD z.toNat = K := ⟨_, rfl⟩
  have hread : readR ⟨pb, pl, pg, pc, pe⟩ z = (cutW ⟨pb, pl, pg, pc, pe⟩ K, pl.take K, 0) := by unfold readR; rw [if_pos ⟨(wmay_iff _).2 U2.out.va, hz0⟩, hRD, hK]
  obtain ⟨v1, v2⟩ := ord_read U2.out (by omega) (k := K) (by rw [hRD]; omega)
  obtain ⟨V, hV⟩ : ∃ V, cutW ⟨pb, pl, pg, pc, pe⟩ K = V := ⟨_, rfl⟩
  rw [hV] at hread v1 v2
  obtain ⟨vb, vl, vg, vc, ve⟩ := V
  obtain ⟨bb, hbb⟩ : ∃ bb, pl.take K = bb := ⟨_, rfl⟩
  have hbl : bb.length = K := by rw [← hbb, List.length_take]; omega
  have hrdo : (⟨pb, pl, pg, pc, pe⟩ : Wv).b.take K = bb := hbb
  rw [hbb] at hread
  rw [hrdo] at v1
  have hKR : K ≤ RD := by omega
  have hKz : (K : Int) ≤ z := by omega
  have hev : edgeR ⟨vb, vl, vg, vc, ve⟩ = E + (K : Int) := by have h9 := HEU.out; unfold edgeR at h9 ⊢; rw [if_pos ((wmay_iff _).2 U2.out.va)] at h9; rw [if_pos ((wmay_iff _).2 v1.va), v2, h9]
  have hEb : 0 ≤ E ∧ E ≤ 2305843009213693952 := by have h9 := HEU.out; unfold edgeR at h9; rw [if_pos ((wmay_iff _).2 U2.out.va)] at h9; have := U2.out.va.base0; have := U2.out.va.cap0; unfold edW at h9; dsimp only at *; omega
  have q9 : IntKind.i64.wrap (E + (K : Int)) = E + (K : Int) := IntWalk.i64_in _ (by omega)
  have d128 : decide ((RD : Int) < (K : Int)) = false := decide_eq_false (by omega)
  have d128' : decide (RD < K) = false := decide_eq_false (by omega)
  have d139 : decide (z < (K : Int)) = false := decide_eq_false (by omega)
  have HRD := Lib.hid hrd; have HREAD := Lib.hid hread; have HEV := Lib.hid hev; have V1 := Lib.hid v1; have HBL := Lib.hid hbl; clear hrd hread hev v1 v2 hbl hrdo hbb hV hK hRD hEb
  have k0 := x6.cell 0 rfl
  have k1 := x6.cell 1 rfl
  have k2 := x6.cell 2 rfl
  have k3 := x6.cell 3 rfl
  have k4 := x6.cell 4 rfl
  go_wp2_with fail
  refine (wready_any pb Rb mb db Gb kb qb pc pe pl pg _ s6.sl g6.ss (by omega)).mono ?_
  rintro e w7 ⟨he, hb7⟩
  rw [HRD.out] at he
  subst he
  clear k0 k1 k2 k3 k4
  have x7 := x6.kept hb7; have b7 := b6.trans (hb7.mono b6.size); have o7 := o6.below hb7; have s7 := s6.keep hb7; have g7 := g6.keep hb7
  have q7 := (hb7.cell (p := ⟨b2, o2 + i, none⟩) hb2l).trans q2
  have hBw7 : Bw < w7.heap.size := x7.lt; have hwl7 : wl.heap.size ≤ w7.heap.size := Nat.le_trans hwl6 hb7.size; have hb27 : b2 < w7.heap.size := Nat.lt_of_lt_of_le hb2l hb7.size
  clear x6 b6 o6 s6 g6 q2
  go_upto_region 21 with fail
  have d1 := (Below.refl w7.heap.size w7).drew
  have d2 := ((Below.refl w7.heap.size w7).alloc (Nat.le_refl _) (.cells #[.int .i64 0, .slice none 0 0, .slice none 0 0, .int .i64 0, .int .i64 0] 25)).drew
  have hsA := s7.sl.keep d1; have hgA := g7.ss.keep d1; have hsB := s7.sl.keep d2; have hgB := g7.ss.keep d2
  have xA := x7.drew
  have xB := (x7.alloc (.cells #[.int .i64 0, .slice none 0 0, .slice none 0 0, .int .i64 0, .int .i64 0] 25)).drew
  have zB := (Bx.new w7 25 [.int .i64 0, .slice none 0 0, .slice none 0 0, .int .i64 0, .int .i64 0]).drew
  have kA0 := xA.cell 0 rfl; have kB0 := xB.cell 0 rfl
  have kA1 := xA.cell 1 rfl; have kB1 := xB.cell 1 rfl
  have kA2 := xA.cell 2 rfl; have kB2 := xB.cell 2 rfl
  have kA3 := xA.cell 3 rfl; have kB3 := xB.cell 3 rfl
  have kA4 := xA.cell 4 rfl; have kB4 := xB.cell 4 rfl
  have qA := (d1.cell (p := ⟨b2, o2 + i, none⟩) hb27).trans q7; have qB := (d2.cell (p := ⟨b2, o2 + i, none⟩) hb27).trans q7
  go_cut [18, 19, 20] (fun s18 s19 s20 wx => ∃ Bv Rc mc dc Gc kc qc S t u, s18 = .pointer (some ⟨Bv, 0, none⟩) ∧ s19 = .slice S t u ∧ s20 = .int .i64 0 ∧ Bx wx Bv 25 [.int .i64 vb, .slice Rc mc dc, .slice Gc kc qc, .int .i64 vc, .int .i64 ve] ∧ Sb wx w7.heap.size Rc mc dc vl ∧ Sq wx w7.heap.size Gc kc qc vg ∧ Sb wx w7.heap.size S t u bb ∧ Below w7.heap.size w7 wx ∧ w7.heap.size ≤ Bv)
  case first =>
    go_region_with (go_at_call 16; refine (wread_any pb Rb mb db Gb kb qb pc pe pl pg _ (by first | exact hsA | exact hsB) (by first | exact hgA | exact hgB) (by omega) z hz64).mono ?_; rintro e w8 h8; rw [HREAD.out] at h8; obtain ⟨Rc, mc, dc, Gc, kc, qc, S, t, u, rfl, sb8, sq8, ss8, b8⟩ := h8; dsimp only at sb8 sq8 ss8; dsimp only; try (have zz := zB.kept b8; have zc0 := zz.cell 0 rfl; have zc1 := zz.cell 1 rfl; have zc2 := zz.cell 2 rfl; have zc3 := zz.cell 3 rfl; have zc4 := zz.cell 4 rfl; have zf0 := zz.free 0; have zf1 := zz.free 1; have zf2 := zz.free 2; have zf3 := zz.free 3; have zf4 := zz.free 4))
    all_goals go_wp2_with fail
    all_goals (simp only [List.getElem_toArray, List.getElem_cons_succ, List.getElem_cons_zero, Act.put, List.setIfInBounds_toArray, List.set_cons_zero, List.set_cons_succ])
    all_goals go_meet
    all_goals (case rel =>
      first
      | (refine ⟨w8.heap.size, Rc, mc, dc, Gc, kc, qc, S, t, u, by with_reducible rfl, ?_⟩; exact ⟨rfl, rfl, Bx.new w8 25 [.int .i64 vb, .slice Rc mc dc, .slice Gc kc qc, .int .i64 vc, .int .i64 ve], sb8.keep ((Below.refl _ _).alloc (Nat.le_refl _) (.cells #[.int .i64 vb, .slice Rc mc dc, .slice Gc kc qc, .int .i64 vc, .int .i64 ve] 25)), sq8.keep ((Below.refl _ _).alloc (Nat.le_refl _) (.cells #[.int .i64 vb, .slice Rc mc dc, .slice Gc kc qc, .int .i64 vc, .int .i64 ve] 25)), ss8.keep ((Below.refl _ _).alloc (Nat.le_refl _) (.cells #[.int .i64 vb, .slice Rc mc dc, .slice Gc kc qc, .int .i64 vc, .int .i64 ve] 25)), (d1.trans b8).alloc b8.size (.cells #[.int .i64 vb, .slice Rc mc dc, .slice Gc kc qc, .int .i64 vc, .int .i64 ve] 25), b8.size⟩)
      | (refine ⟨w7.heap.size, Rc, mc, dc, Gc, kc, qc, S, t, u, by with_reducible rfl, ?_⟩; exact ⟨rfl, rfl, (((((zz.set 0 (.int .i64 vb)).set 1 (.slice Rc mc dc)).set 2 (.slice Gc kc qc)).set 3 (.int .i64 vc)).set 4 (.int .i64 ve)), (((((sb8.set (p := ⟨w7.heap.size, 0, none⟩) (by simp) (.int .i64 vb)).set (p := ⟨w7.heap.size, 1, none⟩) (by simp) (.slice Rc mc dc)).set (p := ⟨w7.heap.size, 2, none⟩) (by simp) (.slice Gc kc qc)).set (p := ⟨w7.heap.size, 3, none⟩) (by simp) (.int .i64 vc)).set (p := ⟨w7.heap.size, 4, none⟩) (by simp) (.int .i64 ve)).mono (by simp), (((((sq8.set (p := ⟨w7.heap.size, 0, none⟩) (by simp) (.int .i64 vb)).set (p := ⟨w7.heap.size, 1, none⟩) (by simp) (.slice Rc mc dc)).set (p := ⟨w7.heap.size, 2, none⟩) (by simp) (.slice Gc kc qc)).set (p := ⟨w7.heap.size, 3, none⟩) (by simp) (.int .i64 vc)).set (p := ⟨w7.heap.size, 4, none⟩) (by simp) (.int .i64 ve)).mono (by simp), (((((ss8.set (p := ⟨w7.heap.size, 0, none⟩) (by simp) (.int .i64 vb)).set (p := ⟨w7.heap.size, 1, none⟩) (by simp) (.slice Rc mc dc)).set (p := ⟨w7.heap.size, 2, none⟩) (by simp) (.slice Gc kc qc)).set (p := ⟨w7.heap.size, 3, none⟩) (by simp) (.int .i64 vc)).set (p := ⟨w7.heap.size, 4, none⟩) (by simp) (.int .i64 ve)).mono (by simp), ((((((d2.trans (b8.mono (by simp))).setCell (p := ⟨w7.heap.size, 0, none⟩) (Nat.le_refl _) (.int .i64 vb)).setCell (p := ⟨w7.heap.size, 1, none⟩) (Nat.le_refl _) (.slice Rc mc dc)).setCell (p := ⟨w7.heap.size, 2, none⟩) (Nat.le_refl _) (.slice Gc kc qc)).setCell (p := ⟨w7.heap.size, 3, none⟩) (Nat.le_refl _) (.int .i64 vc)).setCell (p := ⟨w7.heap.size, 4, none⟩) (Nat.le_refl _) (.int .i64 ve)), Nat.le_refl _⟩))
  case rest =>
  obtain ⟨Bv, Rc, mc, dc, Gc, kc, qc, S, t, u, rfl, rfl, rfl, xv, sv, gv, rv, bx8, hBv⟩ := hcut
  rename World => w8
  clear kA0 kB0 kA1 kB1 kA2 kB2 kA3 kB3 kA4 kB4 xA xB zB hsA hgA hsB hgB qA qB d1 d2
  obtain rfl : t = K := by have := rv.sl.rd.len; have := HBL.out; omega
  have hlv := sv.sl.rd.len
  have hmc : mc ≤ 65536 := by have := b_small V1.out.va; dsimp only at this; omega
  have x8 := x7.kept bx8; have b8 := b7.trans (bx8.mono b7.size); have o8 := o7.below bx8; have s8 := s7.keep bx8; have g8 := g7.keep bx8; have q8 := (bx8.cell (p := ⟨b2, o2 + i, none⟩) hb27).trans q7
  go_upto_region 22 with fail
  have xv3 := xv.drew; have hw3 := x8.drew; have hy3 := b8.drew; have ho3 := o8.below (Below.refl _ _).drew; have sv3 := sv.keep (Below.refl _ _).drew; have gv3 := gv.keep (Below.refl _ _).drew; have rv3 := rv.keep (Below.refl _ _).drew; have sp3 := s8.keep (Below.refl _ _).drew; have gp3 := g8.keep (Below.refl _ _).drew; have qq3 : w8.drew.cell? ⟨b2, o2 + i, none⟩ = some (.int .i64 z) := q8; have hb23 : b2 < w8.drew.heap.size := Nat.lt_of_lt_of_le hb27 bx8.size; have z3 : w7.heap.size ≤ w8.drew.heap.size := bx8.size
  refine wp_region_tail 26 27 (fun w' : World => w'.cell? ⟨Bv, 0, none⟩ = some (.int .i64 vb) ∧ w'.cell? ⟨Bv, 1, none⟩ = some (.slice Rc mc dc) ∧ w'.cell? ⟨Bv, 2, none⟩ = some (.slice Gc kc qc) ∧ w'.cell? ⟨Bv, 3, none⟩ = some (.int .i64 vc) ∧ w'.cell? ⟨Bv, 4, none⟩ = some (.int .i64 ve) ∧ w'.cell? ⟨Bw, 0, none⟩ = some (.int .i64 pb) ∧ w'.cell? ⟨Bw, 1, none⟩ = some (.slice Rb mb db) ∧ w'.cell? ⟨Bw, 2, none⟩ = some (.slice Gb kb qb) ∧ w'.cell? ⟨Bw, 3, none⟩ = some (.int .i64 pc) ∧ w'.cell? ⟨Bw, 4, none⟩ = some (.int .i64 pe) ∧ w'.cell? ⟨b2, o2 + i, none⟩ = some (.int .i64 z)) (by kernel_rfl) (by rfl) (by decide) ?_
  have HS : ((fun w' : World => w'.cell? ⟨Bv, 0, none⟩ = some (.int .i64 vb) ∧ w'.cell? ⟨Bv, 1, none⟩ = some (.slice Rc mc dc) ∧ w'.cell? ⟨Bv, 2, none⟩ = some (.slice Gc kc qc) ∧ w'.cell? ⟨Bv, 3, none⟩ = some (.int .i64 vc) ∧ w'.cell? ⟨Bv, 4, none⟩ = some (.int .i64 ve) ∧ w'.cell? ⟨Bw, 0, none⟩ = some (.int .i64 pb) ∧ w'.cell? ⟨Bw, 1, none⟩ = some (.slice Rb mb db) ∧ w'.cell? ⟨Bw, 2, none⟩ = some (.slice Gb kb qb) ∧ w'.cell? ⟨Bw, 3, none⟩ = some (.int .i64 pc) ∧ w'.cell? ⟨Bw, 4, none⟩ = some (.int .i64 pe) ∧ w'.cell? ⟨b2, o2 + i, none⟩ = some (.int .i64 z))) _ := ⟨xv3.cell 0 rfl, xv3.cell 1 rfl, xv3.cell 2 rfl, xv3.cell 3 rfl, xv3.cell 4 rfl, hw3.cell 0 rfl, hw3.cell 1 rfl, hw3.cell 2 rfl, hw3.cell 3 rfl, hw3.cell 4 rfl, qq3⟩
  refine wpAnyT_take (i := 0) (v := ?vv7) rfl (by kernel_rfl) (fun _ _ _ h => h) (Or.inl ⟨by rfl, fun w hSw => ?yy7⟩) HS ?rr7
  case yy7 =>
    (try dsimp only at hSw); go_simp
    try with_reducible rfl
  try simp only [Act.put, List.setIfInBounds_toArray, List.set_cons_zero, List.set_cons_succ]
  refine wpAnyT_take (i := 1) (v := ?vv8) rfl (by kernel_rfl) (fun _ _ _ h => h) (Or.inl ⟨by rfl, fun w hSw => ?yy8⟩) HS ?rr8
  case yy8 =>
    (try dsimp only at hSw); go_simp
    try with_reducible rfl
  try simp only [Act.put, List.setIfInBounds_toArray, List.set_cons_zero, List.set_cons_succ]
  refine wpAnyT_take (i := 2) (v := ?vv9) rfl (by kernel_rfl) (fun _ _ _ h => h) (Or.inl ⟨by rfl, fun w hSw => ?yy9⟩) HS ?rr9
  case yy9 =>
    (try dsimp only at hSw); go_simp
    try with_reducible rfl
  try simp only [Act.put, List.setIfInBounds_toArray, List.set_cons_zero, List.set_cons_succ]
  refine wpAnyT_take (i := 3) (v := ?vv10) rfl (by kernel_rfl) (fun _ _ _ h => h) (Or.inl ⟨by rfl, fun w hSw => ?yy10⟩) HS ?rr10
  case yy10 =>
    (try dsimp only at hSw); go_simp
    try with_reducible rfl
  try simp only [Act.put, List.setIfInBounds_toArray, List.set_cons_zero, List.set_cons_succ]
  refine wpAnyT_take (i := 4) (v := ?vv11) rfl (by kernel_rfl) (fun _ _ _ h => h) (Or.inl ⟨by rfl, fun w hSw => ?yy11⟩) HS ?rr11
  case yy11 =>
    (try dsimp only at hSw); go_simp
    try with_reducible rfl
  try simp only [Act.put, List.setIfInBounds_toArray, List.set_cons_zero, List.set_cons_succ]
  refine wpAnyT_take (i := 5) (v := ?vv12) rfl (by kernel_rfl) (fun _ _ _ h => h) (Or.inl ⟨by rfl, fun w hSw => ?yy12⟩) HS ?rr12
  case yy12 =>
    (try dsimp only at hSw); go_simp
    try with_reducible rfl
  try simp only [Act.put, List.setIfInBounds_toArray, List.set_cons_zero, List.set_cons_succ]
  refine wpAnyT_take (i := 6) (v := ?vv13) rfl (by kernel_rfl) (fun _ _ _ h => h) (Or.inl ⟨by rfl, fun w hSw => ?yy13⟩) HS ?rr13
  case yy13 =>
    (try dsimp only at hSw); go_simp
    try with_reducible rfl
  try simp only [Act.put, List.setIfInBounds_toArray, List.set_cons_zero, List.set_cons_succ]
  refine wpAnyT_take (i := 7) (v := ?vv14) rfl (by kernel_rfl) (fun _ _ _ h => h) (Or.inl ⟨by rfl, fun w hSw => ?yy14⟩) HS ?rr14
  case yy14 =>
    (try dsimp only at hSw); go_simp
    try with_reducible rfl
  try simp only [Act.put, List.setIfInBounds_toArray, List.set_cons_zero, List.set_cons_succ]
  refine wpAnyT_take (i := 8) (v := ?vv15) rfl (by kernel_rfl) (fun _ _ _ h => h) (Or.inl ⟨by rfl, fun w hSw => ?yy15⟩) HS ?rr15
  case yy15 =>
    (try dsimp only at hSw); go_simp
    try with_reducible rfl
  try simp only [Act.put, List.setIfInBounds_toArray, List.set_cons_zero, List.set_cons_succ]
  refine wpAnyT_take (i := 9) (v := ?vv16) rfl (by kernel_rfl) (fun _ _ _ h => h) (Or.inl ⟨by rfl, fun w hSw => ?yy16⟩) HS ?rr16
  case yy16 =>
    (try dsimp only at hSw); go_simp
    try with_reducible rfl
  try simp only [Act.put, List.setIfInBounds_toArray, List.set_cons_zero, List.set_cons_succ]
  refine wpAnyT_take (i := 10) (v := ?vv17) rfl (by kernel_rfl) (fun _ _ _ h => h) (Or.inl ⟨by rfl, fun w hSw => ?yy17⟩) HS ?rr17
  case yy17 =>
    (try dsimp only at hSw); go_simp
    try with_reducible rfl
  try simp only [Act.put, List.setIfInBounds_toArray, List.set_cons_zero, List.set_cons_succ]
  refine wpAnyT_take (i := 11) (v := ?vv18) rfl (by kernel_rfl) (fun _ _ _ h => h) (Or.inl ⟨by rfl, fun w hSw => ?yy18⟩) HS ?rr18
  case yy18 =>
    (try dsimp only at hSw); go_simp
    try with_reducible rfl
  try simp only [Act.put, List.setIfInBounds_toArray, List.set_cons_zero, List.set_cons_succ]
  refine wpAnyT_take (i := 12) (v := ?vv19) rfl (by kernel_rfl) (fun _ _ _ h => h) (Or.inl ⟨by rfl, fun w hSw => ?yy19⟩) HS ?rr19
  case yy19 =>
    (try dsimp only at hSw); go_simp
    try with_reducible rfl
  try simp only [Act.put, List.setIfInBounds_toArray, List.set_cons_zero, List.set_cons_succ]
  refine wpAnyT_take (i := 13) (v := ?vv20) rfl (by kernel_rfl) (fun _ _ _ h => h) (Or.inl ⟨by rfl, fun w hSw => ?yy20⟩) HS ?rr20
  case yy20 =>
    (try dsimp only at hSw); go_simp
    try with_reducible rfl
  try simp only [Act.put, List.setIfInBounds_toArray, List.set_cons_zero, List.set_cons_succ]
  refine wpAnyT_take (i := 14) (v := ?vv21) rfl (by kernel_rfl) (fun _ _ _ h => h) (Or.inl ⟨by rfl, fun w hSw => ?yy21⟩) HS ?rr21
  case yy21 =>
    (try dsimp only at hSw); go_simp
    try with_reducible rfl
  try simp only [Act.put, List.setIfInBounds_toArray, List.set_cons_zero, List.set_cons_succ]
  refine wpAnyT_take (i := 15) (v := ?vv22) rfl (by kernel_rfl) (fun _ _ _ h => h) (Or.inl ⟨by rfl, fun w hSw => ?yy22⟩) HS ?rr22
  case yy22 =>
    (try dsimp only at hSw); go_simp
    try with_reducible rfl
  try simp only [Act.put, List.setIfInBounds_toArray, List.set_cons_zero, List.set_cons_succ]
  refine wpAnyT_take (i := 16) (v := ?vv23) rfl (by kernel_rfl) (fun _ _ _ h => h) (Or.inl ⟨by rfl, fun w hSw => ?yy23⟩) HS ?rr23
  case yy23 =>
    (try dsimp only at hSw); go_simp
    try with_reducible rfl
  try simp only [Act.put, List.setIfInBounds_toArray, List.set_cons_zero, List.set_cons_succ]
  refine wpAnyT_take (i := 17) (v := ?vv24) rfl (by kernel_rfl) (fun _ _ _ h => h) (Or.inl ⟨by rfl, fun w hSw => ?yy24⟩) HS ?rr24
  case yy24 =>
    (try dsimp only at hSw); go_simp
    try with_reducible rfl
  try simp only [Act.put, List.setIfInBounds_toArray, List.set_cons_zero, List.set_cons_succ]
  refine wpAnyT_take (i := 18) (v := ?vv25) rfl (by kernel_rfl) (fun _ _ _ h => h) (Or.inl ⟨by rfl, fun w hSw => ?yy25⟩) HS ?rr25
  case yy25 =>
    (try dsimp only at hSw); go_simp
    try with_reducible rfl
  try simp only [Act.put, List.setIfInBounds_toArray, List.set_cons_zero, List.set_cons_succ]
  refine wpAnyT_take (i := 20) (v := ?vv26) rfl (by kernel_rfl) (fun _ _ _ h => h) (Or.inl ⟨by rfl, fun w hSw => ?yy26⟩) HS ?rr26
  case yy26 =>
    (try dsimp only at hSw); go_simp
    try with_reducible rfl
  try simp only [Act.put, List.setIfInBounds_toArray, List.set_cons_zero, List.set_cons_succ]
  refine wpAnyT_take (i := 22) (v := ?vv27) rfl (by kernel_rfl) (fun _ _ _ h => h) (Or.inl ⟨by rfl, fun w hSw => ?yy27⟩) HS ?rr27
  case yy27 =>
    (try dsimp only at hSw); go_simp
    try with_reducible rfl
  try simp only [Act.put, List.setIfInBounds_toArray, List.set_cons_zero, List.set_cons_succ]
  refine wpAnyT_take (i := 23) (v := ?vv28) rfl (by kernel_rfl) (fun _ _ _ h => h) (Or.inl ⟨by rfl, fun w hSw => ?yy28⟩) HS ?rr28
  case yy28 =>
    (try dsimp only at hSw); go_simp
    try with_reducible rfl
  try simp only [Act.put, List.setIfInBounds_toArray, List.set_cons_zero, List.set_cons_succ]
  refine wpAnyT_one (k := 19) rfl (by kernel_rfl) (by decide) (fun K hK => ?_)
  go_simp
  refine (wedge_any vb Rc mc dc Gc kc qc vc ve vl vg _ sv3.sl gv3.ss (by omega)).mono ?_
  rintro e w9 ⟨he, hb9⟩
  rw [HEV.out] at he
  subst he
  have xv4 := xv3.kept hb9
  have hw4 := hw3.kept hb9
  have hy4 := hy3.trans (hb9.mono hy3.size)
  have ho4 := ho3.below hb9
  have sv4 := sv3.keep hb9
  have gv4 := gv3.keep hb9
  have rv4 := rv3.keep hb9
  have sp4 := sp3.keep hb9
  have gp4 := gp3.keep hb9
  have qq4 := (hb9.cell (p := ⟨b2, o2 + i, none⟩) hb23).trans qq3
  have hb24 := Nat.lt_of_lt_of_le hb23 hb9.size
  have z4 := Nat.le_trans z3 hb9.size
  have HS : ((fun w' : World => w'.cell? ⟨Bv, 0, none⟩ = some (.int .i64 vb) ∧ w'.cell? ⟨Bv, 1, none⟩ = some (.slice Rc mc dc) ∧ w'.cell? ⟨Bv, 2, none⟩ = some (.slice Gc kc qc) ∧ w'.cell? ⟨Bv, 3, none⟩ = some (.int .i64 vc) ∧ w'.cell? ⟨Bv, 4, none⟩ = some (.int .i64 ve) ∧ w'.cell? ⟨Bw, 0, none⟩ = some (.int .i64 pb) ∧ w'.cell? ⟨Bw, 1, none⟩ = some (.slice Rb mb db) ∧ w'.cell? ⟨Bw, 2, none⟩ = some (.slice Gb kb qb) ∧ w'.cell? ⟨Bw, 3, none⟩ = some (.int .i64 pc) ∧ w'.cell? ⟨Bw, 4, none⟩ = some (.int .i64 pe) ∧ w'.cell? ⟨b2, o2 + i, none⟩ = some (.int .i64 z))) _ := ⟨xv4.cell 0 rfl, xv4.cell 1 rfl, xv4.cell 2 rfl, xv4.cell 3 rfl, xv4.cell 4 rfl, hw4.cell 0 rfl, hw4.cell 1 rfl, hw4.cell 2 rfl, hw4.cell 3 rfl, hw4.cell 4 rfl, qq4⟩
  refine hK _ _ HS ?_
  clear hK K
  try simp only [Act.put, List.setIfInBounds_toArray, List.set_cons_zero, List.set_cons_succ]
  refine wpAnyT_one (k := 21) rfl (by kernel_rfl) (by decide) (fun K hK => ?_)
  go_simp
  refine (wedge_any pb Rb mb db Gb kb qb pc pe pl pg _ sp4.sl gp4.ss (by omega)).mono ?_
  rintro e w10 ⟨he, hb10⟩
  rw [HEU.out] at he
  subst he
  have xv5 := xv4.kept hb10
  have hw5 := hw4.kept hb10
  have hy5 := hy4.trans (hb10.mono hy4.size)
  have ho5 := ho4.below hb10
  have sv5 := sv4.keep hb10
  have gv5 := gv4.keep hb10
  have rv5 := rv4.keep hb10
  have sp5 := sp4.keep hb10
  have gp5 := gp4.keep hb10
  have qq5 := (hb10.cell (p := ⟨b2, o2 + i, none⟩) hb24).trans qq4
  have hb25 := Nat.lt_of_lt_of_le hb24 hb10.size
  have z5 := Nat.le_trans z4 hb10.size
  have HS : ((fun w' : World => w'.cell? ⟨Bv, 0, none⟩ = some (.int .i64 vb) ∧ w'.cell? ⟨Bv, 1, none⟩ = some (.slice Rc mc dc) ∧ w'.cell? ⟨Bv, 2, none⟩ = some (.slice Gc kc qc) ∧ w'.cell? ⟨Bv, 3, none⟩ = some (.int .i64 vc) ∧ w'.cell? ⟨Bv, 4, none⟩ = some (.int .i64 ve) ∧ w'.cell? ⟨Bw, 0, none⟩ = some (.int .i64 pb) ∧ w'.cell? ⟨Bw, 1, none⟩ = some (.slice Rb mb db) ∧ w'.cell? ⟨Bw, 2, none⟩ = some (.slice Gb kb qb) ∧ w'.cell? ⟨Bw, 3, none⟩ = some (.int .i64 pc) ∧ w'.cell? ⟨Bw, 4, none⟩ = some (.int .i64 pe) ∧ w'.cell? ⟨b2, o2 + i, none⟩ = some (.int .i64 z))) _ := ⟨xv5.cell 0 rfl, xv5.cell 1 rfl, xv5.cell 2 rfl, xv5.cell 3 rfl, xv5.cell 4 rfl, hw5.cell 0 rfl, hw5.cell 1 rfl, hw5.cell 2 rfl, hw5.cell 3 rfl, hw5.cell 4 rfl, qq5⟩
  refine hK _ _ HS ?_
  clear hK K
  try simp only [Act.put, List.setIfInBounds_toArray, List.set_cons_zero, List.set_cons_succ]
  refine wpAnyT_take (i := 24) (v := ?vv29) rfl (by kernel_rfl) (fun _ _ _ h => h) (Or.inl ⟨by rfl, fun w hSw => ?yy29⟩) HS ?rr29
  case yy29 =>
    (try dsimp only at hSw); go_simp
    try with_reducible rfl
  try simp only [Act.put, List.setIfInBounds_toArray, List.set_cons_zero, List.set_cons_succ]
  refine wpAnyT_take (i := 25) (v := ?vv30) rfl (by kernel_rfl) (fun _ _ _ h => h) (Or.inl ⟨by rfl, fun w hSw => ?yy30⟩) HS ?rr30
  case yy30 =>
    (try dsimp only at hSw); go_simp
    try with_reducible rfl
  try simp only [Act.put, List.setIfInBounds_toArray, List.set_cons_zero, List.set_cons_succ]
  refine ⟨by kernel_rfl, ?_⟩
  simp only [List.drop_succ_cons, List.drop_zero]
  clear HS
  have k0 := xv5.cell 0 rfl; have f0 := hw5.free 0; have j0 := hw5.cell 0 rfl
  have k1 := xv5.cell 1 rfl; have f1 := hw5.free 1; have j1 := hw5.cell 1 rfl
  have k2 := xv5.cell 2 rfl; have f2 := hw5.free 2; have j2 := hw5.cell 2 rfl
  have k3 := xv5.cell 3 rfl; have f3 := hw5.free 3; have j3 := hw5.cell 3 rfl
  have k4 := xv5.cell 4 rfl; have f4 := hw5.free 4; have j4 := hw5.cell 4 rfl
  go_upto_region 24 with fail
  go_cut [151] (fun s151 wz => Bx wz Bw 25 [.int .i64 vb, .slice Rc mc dc, .slice Gc kc qc, .int .i64 vc, .int .i64 ve] ∧ Below w.heap.size w wz ∧ Got wz wl.heap.size (.slice Ro no co) no o ∧ Sb wz w7.heap.size Rc mc dc vl ∧ Sq wz w7.heap.size Gc kc qc vg ∧ Sb wz w7.heap.size S t u bb ∧ w7.heap.size ≤ wz.heap.size)
  case first =>
    go_wp2_with fail
    go_meet
    case rel => exact ⟨(((((hw5.set 0 (.int .i64 vb)).set 1 (.slice Rc mc dc)).set 2 (.slice Gc kc qc)).set 3 (.int .i64 vc)).set 4 (.int .i64 ve)), (((((hy5.setCell (p := ⟨Bw, 0, none⟩) hwB (.int .i64 vb)).setCell (p := ⟨Bw, 1, none⟩) hwB (.slice Rc mc dc)).setCell (p := ⟨Bw, 2, none⟩) hwB (.slice Gc kc qc)).setCell (p := ⟨Bw, 3, none⟩) hwB (.int .i64 vc)).setCell (p := ⟨Bw, 4, none⟩) hwB (.int .i64 ve)), (((((ho5.set (p := ⟨Bw, 0, none⟩) hBl (.int .i64 vb)).set (p := ⟨Bw, 1, none⟩) hBl (.slice Rc mc dc)).set (p := ⟨Bw, 2, none⟩) hBl (.slice Gc kc qc)).set (p := ⟨Bw, 3, none⟩) hBl (.int .i64 vc)).set (p := ⟨Bw, 4, none⟩) hBl (.int .i64 ve)), (((((sv5.set (p := ⟨Bw, 0, none⟩) hBw7 (.int .i64 vb)).set (p := ⟨Bw, 1, none⟩) hBw7 (.slice Rc mc dc)).set (p := ⟨Bw, 2, none⟩) hBw7 (.slice Gc kc qc)).set (p := ⟨Bw, 3, none⟩) hBw7 (.int .i64 vc)).set (p := ⟨Bw, 4, none⟩) hBw7 (.int .i64 ve)), (((((gv5.set (p := ⟨Bw, 0, none⟩) hBw7 (.int .i64 vb)).set (p := ⟨Bw, 1, none⟩) hBw7 (.slice Rc mc dc)).set (p := ⟨Bw, 2, none⟩) hBw7 (.slice Gc kc qc)).set (p := ⟨Bw, 3, none⟩) hBw7 (.int .i64 vc)).set (p := ⟨Bw, 4, none⟩) hBw7 (.int .i64 ve)), (((((rv5.set (p := ⟨Bw, 0, none⟩) hBw7 (.int .i64 vb)).set (p := ⟨Bw, 1, none⟩) hBw7 (.slice Rc mc dc)).set (p := ⟨Bw, 2, none⟩) hBw7 (.slice Gc kc qc)).set (p := ⟨Bw, 3, none⟩) hBw7 (.int .i64 vc)).set (p := ⟨Bw, 4, none⟩) hBw7 (.int .i64 ve)), Nat.le_trans z5 ((((((Below.refl Bw w10).setCell (p := ⟨Bw, 0, none⟩) (Nat.le_refl _) (.int .i64 vb)).setCell (p := ⟨Bw, 1, none⟩) (Nat.le_refl _) (.slice Rc mc dc)).setCell (p := ⟨Bw, 2, none⟩) (Nat.le_refl _) (.slice Gc kc qc)).setCell (p := ⟨Bw, 3, none⟩) (Nat.le_refl _) (.int .i64 vc)).setCell (p := ⟨Bw, 4, none⟩) (Nat.le_refl _) (.int .i64 ve)).size⟩
  case rest =>
  obtain ⟨x11, b11, o11, s11, g11, r11, z11⟩ := hcut
  rename World => w11
  clear k0 f0 j0 k1 f1 j1 k2 f2 j2 k3 f3 j3 k4 f4 j4
  have hno' : o.length = no := hno
  have hon : no ≤ 300 := by have := hord.ol; omega
  go_wp2_with (at_builtin; refine wpList_app _ rfl (.tmp 152) (.tmp 153) 22 rfl wl.heap.size 5 Try.underlying22 info_u8 _ no o rfl o11.own rfl r11.sl.nil r11.sl.rd (by omega) (Nat.le_trans hwl7 z11) ?_; intro vn w12 hown hgrow hat)
  have gt : Got w12 wl.heap.size vn (no + t) (o ++ bb) := ⟨hown, small_app o11.small r11.sl.rd.small⟩
  obtain ⟨Rn, dn, rfl, hsn⟩ := gt.sb
  have hrow : ∀ k, (Value.slice Ro no co).ownBlock = some k → wl.heap.size ≤ k ∧ k < w7.heap.size := fun k hk => ⟨(o11.own.lt k hk).1, (o7.own.lt k hk).2⟩
  have x12 := x11.grown hgrow (fun h => by have := hrow Bw h.symm; omega)
  have b12 := b11.grown hgrow b11.size (fun k hk => by have := hrow k hk; omega)
  have s12 := s11.grown hgrow (fun _ b' o' hb' h => by have h1 := hrow b' h.symm; have h2 := s11.at_ b' o' _ hb'; omega)
  have g12 := g11.grown hgrow (fun _ b' o' hb' h => by have h1 := hrow b' h.symm; have h2 := g11.at_ b' o' _ hb'; omega)
  go_wp2_with fail
  go_roundg (gk - 1)
  case rel => exact ⟨i + 1, ⟨vb, vl, vg, vc, ve⟩, o ++ bb, Rc, mc, dc, Gc, kc, qc, Rn, no + t, dn, by omega, by go_num, rfl, gt, V1.out, x12, s12.sl, g12.ss, b12, x12.lt, Nat.le_trans hwl7 (Nat.le_trans z11 hgrow.size)⟩
  case measure => omega
end Go.Proofs.Ytgiknfmagmfniaa.weaveOrder
