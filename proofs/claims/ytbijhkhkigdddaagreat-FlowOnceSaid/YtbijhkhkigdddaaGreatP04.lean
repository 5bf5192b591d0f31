/- Fo FoMem FoS FoLib FoTwo. -/
import Derived.Test.YtbijhkhkigdddaaGreatP02
import Derived.Test.YtbijhkhkigdddaaGreatP03
import Derived.BigQuiet
import Derived.Deep.AppendLies
import Derived.Deep.DeepCutAuto
import Derived.Deep.MidRow
import Derived.Deep.QuietTactic
import Derived.IntWalk
import Derived.Laws.EntriesVeiled
set_option linter.all false
set_option maxRecDepth 100000
set_option maxHeartbeats 32000000
namespace Go.Proofs.YtbijhkhkigdddaaGreat
open Go.RowKit
structure Cf where
 mss : Int
 most : Int
 least : Int
 longest : Int
 span : Int
 vegas : Bool
 total : Int
 keep : Int
 weave : Int
structure CfOk (c : Cf) : Prop where
 m0 : 1 ≤ c.mss
 m1 : c.mss ≤ 1460
 w0 : c.mss ≤ c.most
 w1 : c.most ≤ 1073741824
 l0 : 1 ≤ c.least
 l1 : c.least ≤ c.longest
 l2 : c.longest ≤ 1099511627776
 s0 : 1 ≤ c.span
 s1 : c.span ≤ 1099511627776
 t0 : 1 ≤ c.total
 t1 : c.total ≤ 1048576
 k0 : 0 ≤ c.keep
 k1 : c.keep ≤ 65536
 v0 : 0 ≤ c.weave
 v1 : c.weave ≤ 65536
def fineB (c : Cf) : Bool := decide (1 ≤ c.mss ∧ c.mss ≤ 1460 ∧ c.mss ≤ c.most ∧ c.most ≤ 1073741824 ∧ 1 ≤ c.least ∧ c.least ≤ c.longest ∧ c.longest ≤ 1099511627776 ∧ 1 ≤ c.span ∧ c.span ≤ 1099511627776 ∧ 1 ≤ c.total ∧ c.total ≤ 1048576 ∧ 0 ≤ c.keep ∧ c.keep ≤ 65536 ∧ 0 ≤ c.weave ∧ c.weave ≤ 65536)
theorem fineB_iff (c : Cf) : fineB c = true ↔ CfOk c := by
 unfold fineB
 rw [decide_eq_true_eq]
 exact ⟨fun ⟨a, b, c, d, e, f, g, h, i, j, k, l, m, n, o⟩ => ⟨a, b, c, d, e, f, g, h, i, j, k, l, m, n, o⟩, fun h => ⟨h.m0, h.m1, h.w0, h.w1, h.l0, h.l1, h.l2, h.s0, h.s1, h.t0, h.t1, h.k0, h.k1, h.v0, h.v1⟩⟩
structure Fv where
 up : Bool
 l : List Prt
 next : Int
 r : Rt
 b : Lv
 m : Ms
 d : Rv
 k : Rkv
 cw : Int
 th : Int
 tm : Tmr
 dl : List Int
 rd : Int
 cut : Bool
 pb : Bool
def zfv : Fv := ⟨false, [], 0, zrt, zlv, zmk, zrv, zrk, 0, 0, ztm, [], 0, false, false⟩
def linkF (f : Fv) : Prop := 0 < f.l.length → (spanR f.l).2 = f.next
instance (f : Fv) : Decidable (linkF f) := inferInstanceAs (Decidable (_ → _))
structure FvOk (f : Fv) (c : Cf) : Prop where
 fine : CfOk c
 l : smayB f.l = true
 r : rtB f.r = true
 b : lmay f.b = true
 m : mmay f.m = true
 d : ramay f.d = true
 k : rkmay f.k = true
 w : xmB f.cw f.th c.mss c.most = true
 t : tmB f.tm = true
 g : mayG f.dl = true
 next : t60 f.next = true
 rd : t60 f.rd = true
 link : linkF f
def fmayB (f : Fv) (c : Cf) : Bool := fineB c && (smayB f.l && (rtB f.r && (lmay f.b && (mmay f.m && (ramay f.d && (rkmay f.k && (xmB f.cw f.th c.mss c.most && (tmB f.tm && (mayG f.dl && (t60 f.next && (t60 f.rd && decide (linkF f))))))))))))
theorem fmay_iff (f : Fv) (c : Cf) : fmayB f c = true ↔ FvOk f c := by
 unfold fmayB
 simp only [Bool.and_eq_true, fineB_iff, decide_eq_true_eq]
 exact ⟨fun ⟨a, b, c, d, e, f, g, h, i, j, k, l, m⟩ => ⟨a, b, c, d, e, f, g, h, i, j, k, l, m⟩, fun h => ⟨h.fine, h.l, h.r, h.b, h.m, h.d, h.k, h.w, h.t, h.g, h.next, h.rd, h.link⟩⟩
def newFv (c : Cf) : Fv := ⟨true, [], 0, zrt, ⟨c.span, [], 0⟩, zmk, zrv, zrk, min (10 * c.mss) c.most, c.most, ztm, [], 0, false, false⟩
def newF (c : Cf) : Fv × Int := if fineB c = true then (newFv c, 0) else (zfv, 1)
def setF (f : Fv) (c : Cf) (now : Int) : Fv := { f with tm := (setR f.r f.l f.pb now c.longest).1 }
def partF (f : Fv) (dsn n now : Int) : Prt := ⟨f.next, n, dsn, now, 1, false, false, f.d.total, f.d.last⟩
def SendOk (f : Fv) (c : Cf) (dsn n now : Int) : Prop := fmayB f c = true ∧ 1 ≤ n ∧ n ≤ c.mss ∧ t60 dsn = true ∧ t60 now = true ∧ f.next + n ≤ 1152921504606846976
instance (f : Fv) (c : Cf) (a b d : Int) : Decidable (SendOk f c a b d) := inferInstanceAs (Decidable (_ ∧ _ ∧ _ ∧ _ ∧ _ ∧ _))
def sentF (f : Fv) (c : Cf) (dsn n now : Int) : Fv := setF { f with l := f.l ++ [partF f dsn n now], next := f.next + n } c now
def sendF (f : Fv) (c : Cf) (dsn n now : Int) : Fv × Prt × Int :=
 if SendOk f c dsn n now then
  (if f.up = true then
   (if f.cw < flightR f.l + n ∨ 500 ≤ f.l.length then (zfv, zprt, 4) else (sentF f c dsn n now, partF f dsn n now, 0))
  else (zfv, zprt, 3))
 else (zfv, zprt, 1)
def lostOne (x : Prt) : Bool := x.lost && decide (x.tries < 1000)
def firstLost (l : List Prt) : Nat := l.findIdx lostOne
def againFv (f : Fv) (c : Cf) (now : Int) : Fv := setF { f with l := (againR f.l (ge f.l (firstLost f.l)).seq now).1 } c now
def againF (f : Fv) (c : Cf) (now : Int) : Fv × Prt × Int :=
 if fmayB f c = true ∧ t60 now = true then
  (if f.up = true ∧ firstLost f.l < f.l.length then
   (if f.cw < flightR f.l + (ge f.l (firstLost f.l)).len then (zfv, zprt, 4) else (againFv f c now, ge (againFv f c now).l (firstLost f.l), 0))
  else (zfv, zprt, 3))
 else (zfv, zprt, 1)
def b40 (n : Int) : Int := min n 1099511627776
def lastFirst (l : List Prt) : Option Prt := l.reverse.find? fun x => decide (x.tries = 1)
def metOr (b : Lv) (now n : Int) : Lv := if (metR b now n).2.2 = 0 then (metR b now n).1 else b
def overF (n bs : Int) : Int := min (max (n - b40 bs) 0 / 16) 262144
def tookX (f : Fv) (c : Cf) (x : Prt) (now : Int) : Fv :=
 { f with r := (smp f.r (b40 (now - x.at_)) c.least c.longest).1, b := metOr f.b now (b40 (now - x.at_)), dl := (addG f.dl (overF (b40 (now - x.at_)) (ofR (metOr f.b now (b40 (now - x.at_))) now).1)).1 }
def tookF (f : Fv) (c : Cf) (told : List Prt) (now : Int) : Fv :=
 match lastFirst told with
 | none => f
 | some x => if now < x.at_ then f else tookX f c x now
def cameK (now bs : Int) (k : Rkv) (x : Prt) : Rkv := if (rkcameR k x now bs).2 = 0 then (rkcameR k x now bs).1 else k
def cameF (f : Fv) (told : List Prt) (now : Int) : Fv := { f with k := told.foldl (cameK now (b40 (ofR f.b now).1)) f.k }
def sampF (f : Fv) (told : List Prt) : Fv :=
 if 0 < told.length then { f with d := if (sampR f.d (ge told (told.length - 1)).total (ge told (told.length - 1)).last).2.2 = 0 then (sampR f.d (ge told (told.length - 1)).total (ge told (told.length - 1)).last).1 else f.d, pb := false } else f
def cutPart (m : Ms) : Int := if m.pt = 0 then 1024 else m.pt
def markF (f : Fv) (c : Cf) (n bytes : Int) : Fv :=
 if 0 < n ∧ f.cut = false then { f with cw := (xcutR f.cw f.th (cutPart f.m) c.mss c.most).1, th := (xcutR f.cw f.th (cutPart f.m) c.mss c.most).2.1, cut := true }
 else if n = 0 then { f with cw := (slowR f.cw f.th bytes c.mss c.most).1, th := (slowR f.cw f.th bytes c.mss c.most).2.1 } else f
def slackF (f : Fv) (now : Int) : Int := slackR f.k (b40 (ofR f.b now).1) (b40 f.r.srtt)
def lostF (f : Fv) (c : Cf) (now : Int) : Fv :=
 if 0 < (lostR f.k f.l now (slackF f now)).2.1 ∧ f.cut = false then
  { f with l := (lostR f.k f.l now (slackF f now)).1, cw := (lossR f.cw f.th false c.mss c.most).1, th := (lossR f.cw f.th false c.mss c.most).2.1, cut := true }
 else { f with l := (lostR f.k f.l now (slackF f now)).1 }
def turnF (f : Fv) (c : Cf) (told : List Prt) (n bytes now : Int) : Fv :=
 if 0 < told.length then lostF (markF f c n bytes) c now else markF f c n bytes
def growF (f : Fv) (c : Cf) (growth now : Int) : Int × Int × Int :=
 if c.vegas = true then vrndR f.cw f.th (queueR f.cw f.r.srtt (ofR f.b now).1 c.mss) growth c.mss c.most
 else rndR f.cw f.th (min growth c.mss) c.mss c.most
def roundF (f : Fv) (c : Cf) (growth now : Int) : Fv :=
 { f with m := (roundR f.m).1, cw := if f.cut = true then f.cw else (growF f c growth now).1, th := if f.cut = true then f.th else (growF f c growth now).2.1, rd := f.next, cut := false }
structure Tv where
 got : Int
 sk : List Sp
 ace : Int
 ce : Int
 now : Int
 growth : Int
def HrOk (f : Fv) (c : Cf) (t : Tv) : Prop := fmayB f c = true ∧ t60 t.now = true ∧ 0 ≤ t.growth ∧ t.growth ≤ 1048576 ∧ 0 ≤ t.ace ∧ t.ace ≤ 7 ∧ t.ce < 16777216
instance (f : Fv) (c : Cf) (t : Tv) : Decidable (HrOk f c t) := inferInstanceAs (Decidable (_ ∧ _ ∧ _ ∧ _ ∧ _ ∧ _ ∧ _))
def lenSum (l : List Prt) : Int := l.foldl (fun n x => n + x.len) 0
def step2 (f : Fv) (c : Cf) (t : Tv) : Fv := cameF (tookF { f with l := leftL t.got t.sk f.l } c (toldL t.got t.sk f.l) t.now) (toldL t.got t.sk f.l) t.now
def markH (f : Fv) (t : Tv) (told : List Prt) : Ms × Int × Int := mheardR f.m t.ace t.ce (told.length : Int) (lenSum told)
def rateH (f : Fv) (t : Tv) (told : List Prt) : Rv × Int := cameR f.d (max t.now f.d.last) (lenSum told)
def step5 (f : Fv) (c : Cf) (t : Tv) (told : List Prt) : Fv :=
 turnF (sampF { f with m := (markH f t told).1, d := (rateH f t told).1 } told) c told (markH f t told).2.1 (lenSum told) t.now
def step7 (f : Fv) (c : Cf) (t : Tv) (told : List Prt) : Fv :=
 setF (if f.rd ≤ t.got then roundF (step5 f c t told) c t.growth t.now else step5 f c t told) c t.now
def heardF (f : Fv) (c : Cf) (t : Tv) : Fv × List Prt × Int :=
 if HrOk f c t then
  (if f.up = true then
   (if (heardR f.l t.got t.sk).2.2 = 0 then
    (if (markH (step2 f c t) t (toldL t.got t.sk f.l)).2.2 = 0 then
     (if (rateH (step2 f c t) t (toldL t.got t.sk f.l)).2 = 0 then (step7 (step2 f c t) c t (toldL t.got t.sk f.l), toldL t.got t.sk f.l, 0)
     else (zfv, [], (rateH (step2 f c t) t (toldL t.got t.sk f.l)).2))
    else (zfv, [], (markH (step2 f c t) t (toldL t.got t.sk f.l)).2.2))
   else (zfv, [], (heardR f.l t.got t.sk).2.2))
  else (zfv, [], 3))
 else (zfv, [], 1)
def allLost (x : Prt) : Prt := if toutB x = true then { x with lost := true } else x
def lastOut (l : List Prt) : Option Nat := ((List.range l.length).filter fun i => toutB (ge l i)).getLast?
def probeL (l : List Prt) : List Prt := match lastOut l with
 | none => l
 | some i => l.set i (allLost (ge l i))
def tickF (f : Fv) (c : Cf) (now : Int) : Fv × Int × Int :=
 if fmayB f c = true ∧ t60 now = true then
  (if tdueR f.tm now = 0 then (f, 0, 0)
  else if tdueR f.tm now = 1 then (setF { f with l := probeL f.l, pb := true } c now, 1, 0)
  else (setF { f with l := f.l.map allLost, r := (dbl f.r).1, cw := (lossR f.cw f.th true c.mss c.most).1, th := (lossR f.cw f.th true c.mss c.most).2.1, cut := true, pb := false } c now, 2, 0))
 else (zfv, 0, 1)
structure Fs where
 a1 : Option Addr
 n1 : Nat
 c1 : Nat
 a2 : Option Addr
 n2 : Nat
 c2 : Nat
 a3 : Option Addr
 n3 : Nat
 c3 : Nat
 a4 : Option Addr
 n4 : Nat
 c4 : Nat
def zfs : Fs := ⟨none, 0, 0, none, 0, 0, none, 0, 0, none, 0, 0⟩
def fcs (s : Fs) (f : Fv) : List Value :=
 [.bool f.up, .slice s.a1 s.n1 s.c1, .int .i64 f.next, .bool f.r.has, .int .i64 f.r.srtt, .int .i64 f.r.vr, .int .i64 f.r.rto, .int .i64 f.r.shift, .int .i64 f.b.span, .slice s.a2 s.n2 s.c2, .int .i64 f.b.high,
  .int .i64 f.m.pk, .int .i64 f.m.bt, .int .i64 f.m.ca, .int .i64 f.m.md, .int .i64 f.m.pt, .int .i64 f.d.total, .int .i64 f.d.last, .slice s.a3 s.n3 s.c3, .int .i64 f.k.at_, .int .i64 f.k.end_, .int .i64 f.k.took, .int .i64 f.k.far, .bool f.k.mixed, .int .i64 f.k.quarters,
  .int .i64 f.cw, .int .i64 f.th, .int .i64 f.tm.kd, .int .i64 f.tm.at_, .slice s.a4 s.n4 s.c4, .int .i64 f.rd, .bool f.cut, .bool f.pb]
def ccs (c : Cf) : List Value := [c.mss, c.most, c.least, c.longest, c.span, c.vegas, c.total, c.keep, c.weave]
def tcs (A : Option Addr) (n c : Nat) (t : Tv) : List Value := [t.got, .slice A n c, t.ace, .int .u32 t.ce, t.now, t.growth]
structure FvW (f : Fv) : Prop where
 next : i64 f.next
 r1 : i64 f.r.srtt
 r2 : i64 f.r.vr
 r3 : i64 f.r.rto
 r4 : i64 f.r.shift
 b1 : i64 f.b.span
 b2 : i64 f.b.high
 m1 : i64 f.m.pk
 m2 : i64 f.m.bt
 m3 : i64 f.m.ca
 m4 : i64 f.m.md
 m5 : i64 f.m.pt
 d1 : i64 f.d.total
 d2 : i64 f.d.last
 k1 : i64 f.k.at_
 k2 : i64 f.k.end_
 k3 : i64 f.k.took
 k4 : i64 f.k.far
 k5 : i64 f.k.quarters
 cw : i64 f.cw
 th : i64 f.th
 t1 : i64 f.tm.kd
 t2 : i64 f.tm.at_
 rd : i64 f.rd
structure CfW (c : Cf) : Prop where
 mss : i64 c.mss
 most : i64 c.most
 least : i64 c.least
 longest : i64 c.longest
 span : i64 c.span
 total : i64 c.total
 keep : i64 c.keep
 weave : i64 c.weave
structure TvW (t : Tv) : Prop where
 got : i64 t.got
 ace : i64 t.ace
 c0 : 0 ≤ t.ce
 c1 : t.ce < 4294967296
 now : i64 t.now
 growth : i64 t.growth
def In1 (p : Nat → Prop) (A : Option Addr) (n : Nat) : Prop := 0 < n → ∀ b o s, A = some ⟨b, o, s⟩ → p b
theorem In1.zero (p : Nat → Prop) (A : Option Addr) : In1 p A 0 := fun h => absurd h (Nat.lt_irrefl 0)
theorem In1.imp {p q : Nat → Prop} {A : Option Addr} {n : Nat} (h : In1 p A n) (hp : ∀ b, p b → q b) : In1 q A n := fun h0 b o s e => hp b (h h0 b o s e)
structure FlM (w : World) (p : Nat → Prop) (s : Fs) (f : Fv) : Prop where
 l : Se w s.a1 s.n1 s.c1 f.l
 b : Ss w s.a2 s.n2 s.c2 f.b.l
 d : Si w s.a3 s.n3 s.c3 f.d.l
 g : Si w s.a4 s.n4 s.c4 f.dl
 wide : FvW f
 p1 : In1 p s.a1 s.n1
 p2 : In1 p s.a2 s.n2
 p3 : In1 p s.a3 s.n3
 p4 : In1 p s.a4 s.n4
section
variable {w w' : World} {p q : Nat → Prop} {s : Fs} {f : Fv}
theorem FlM.keep (h : FlM w p s f) (hb : Below w.heap.size w w') : FlM w' p s f := ⟨h.l.keep hb, h.b.keep hb, h.d.keep hb, h.g.keep hb, h.wide, h.p1, h.p2, h.p3, h.p4⟩
theorem FlM.imp (h : FlM w p s f) (hp : ∀ b, p b → q b) : FlM w q s f := ⟨h.l, h.b, h.d, h.g, h.wide, h.p1.imp hp, h.p2.imp hp, h.p3.imp hp, h.p4.imp hp⟩
theorem FlM.alloc (h : FlM w p s f) (o : Obj) : FlM (w.alloc o) p s f := h.keep ((Zb).alloc Zr o)
theorem FlM.drew (h : FlM w p s f) : FlM w.drew p s f := h.keep (Zb).drew
theorem se_grown {A : Option Addr} {n c : Nat} {l : List Prt} {row : Option Nat} (h : Se w A n c l) (hi : In1 p A n) (hg : w.grownBy w' row) (hne : ∀ b, p b → row ≠ some b) : Se w' A n c l := by
 refine ⟨h.le, h.max, h.nil, h.rd.len, h.rd.ok, fun h0 => ?_⟩
 obtain ⟨b, o, e, hlt, hc⟩ := h.rd.at_ h0
 have hh := hg.block b hlt (fun e2 => hne b (hi h0 b o _ e) e2.symm)
 refine ⟨b, o, e, Nat.lt_of_lt_of_le hlt hg.size, fun i hi j u hu => ?_⟩
 rw [← hc i hi j u hu]
 exact World.cell?_of_block (w := w) hh
theorem ss_grown {A : Option Addr} {n c : Nat} {l : List Sp} {row : Option Nat} (h : Ss w A n c l) (hi : In1 p A n) (hg : w.grownBy w' row) (hne : ∀ b, p b → row ≠ some b) : Ss w' A n c l := by
 refine ⟨h.le, h.max, h.nil, h.rd.len, h.rd.wide, fun h0 => ?_⟩
 obtain ⟨b, o, e, hlt, hc⟩ := h.rd.at_ h0
 have hh := hg.block b hlt (fun e2 => hne b (hi h0 b o _ e) e2.symm)
 refine ⟨b, o, e, Nat.lt_of_lt_of_le hlt hg.size, fun i hi => ?_⟩
 rw [← (hc i hi).1, ← (hc i hi).2]
 exact ⟨World.cell?_of_block (w := w) hh, World.cell?_of_block (w := w) hh⟩
theorem si_grown {A : Option Addr} {n c : Nat} {l : List Int} {row : Option Nat} (h : Si w A n c l) (hi : In1 p A n) (hg : w.grownBy w' row) (hne : ∀ b, p b → row ≠ some b) : Si w' A n c l := by
 refine ⟨h.le, h.max, h.nil, h.rd.len, h.rd.wide, fun h0 => ?_⟩
 obtain ⟨b, o, e, hlt, hc⟩ := h.rd.at_ h0
 have hh := hg.block b hlt (fun e2 => hne b (hi h0 b o _ e) e2.symm)
 refine ⟨b, o, e, Nat.lt_of_lt_of_le hlt hg.size, fun i hi => ?_⟩
 rw [← hc i hi]
 exact World.cell?_of_block (w := w) hh
theorem FlM.grown {row : Option Nat} (h : FlM w p s f) (hg : w.grownBy w' row) (hne : ∀ b, p b → row ≠ some b) : FlM w' p s f :=
 ⟨se_grown h.l h.p1 hg hne, ss_grown h.b h.p2 hg hne, si_grown h.d h.p3 hg hne, si_grown h.g h.p4 hg hne, h.wide, h.p1, h.p2, h.p3, h.p4⟩
end
theorem w_zfv : FvW zfv := by
 have h : i64 0 := by unfold i64; omega
 exact ⟨h, h, h, h, h, h, h, h, h, h, h, h, h, h, h, h, h, h, h, h, h, h, h, h⟩
theorem FlM.zero (w : World) (p : Nat → Prop) : FlM w p zfs zfv := ⟨Se.none _, Ss.none _, Si.none _, Si.none _, w_zfv, In1.zero _ _, In1.zero _ _, In1.zero _ _, In1.zero _ _⟩
theorem w_valid {f : Fv} {c : Cf} (h : FvOk f c) : FvW f := by
 have hr := (rtB_iff _).1 h.r
 have hb := (lmay_iff _).1 h.b
 have hm := (mmay_iff _).1 h.m
 have hd := (ramay_iff _).1 h.d
 have hk := (rkmay_iff _).1 h.k
 have hw := (xmB_iff _ _ _ _).1 h.w
 have ht := (tmB_iff _).1 h.t
 have hn := (t60_iff _).1 h.next
 have hq := (t60_iff _).1 h.rd
 have := hr.s0; have := hr.s1; have := hr.v0; have := hr.v1; have := hr.o0; have := hr.o1; have := hr.h0; have := hr.h1
 have := hb.s0; have := hb.s1; have := hb.h0; have := hb.h1
 have := hm.p0; have := hm.p1; have := hm.b0; have := hm.b1; have := hm.c0; have := hm.c1; have := hm.m0; have := hm.m1; have := hm.t0; have := hm.t1
 have := hd.t0; have := hd.t1; have := hd.a0; have := hd.a1
 have := hk.a0; have := hk.a1; have := hk.k0; have := hk.k1; have := hk.e0; have := hk.f0; have := hk.e1; have := hk.f1; have := hk.q0; have := hk.q1
 have := ht.k0; have := ht.k1; have := ht.a0; have := ht.a1
 exact ⟨by unfold i64; omega, by unfold i64; omega, by unfold i64; omega, by unfold i64; omega, by unfold i64; omega, by unfold i64; omega, by unfold i64; omega, by unfold i64; omega, by unfold i64; omega, by unfold i64; omega, by unfold i64; omega, by unfold i64; omega, by unfold i64; omega, by unfold i64; omega, by unfold i64; omega, by unfold i64; omega, by unfold i64; omega, by unfold i64; omega, by unfold i64; omega, by unfold i64; omega, by unfold i64; omega, by unfold i64; omega, by unfold i64; omega, by unfold i64; omega⟩
theorem cw_valid {c : Cf} (h : CfOk c) : CfW c := by
 have := h.m0; have := h.m1; have := h.w0; have := h.w1; have := h.l0; have := h.l1; have := h.l2; have := h.s0; have := h.s1; have := h.t0; have := h.t1; have := h.k0; have := h.k1; have := h.v0; have := h.v1
 exact ⟨by unfold i64; omega, by unfold i64; omega, by unfold i64; omega, by unfold i64; omega, by unfold i64; omega, by unfold i64; omega, by unfold i64; omega, by unfold i64; omega⟩
def TellF2 (p : Nat → Prop) (w w' : World) (e : Ending) (r : Fv × Int) : Prop := ∃ s, e = .returned (.tuple #[.agg (fcs s r.1).toArray, r.2]) ∧ FlM w' p s r.1 ∧ Below w.heap.size w w'
def TellFP (p : Nat → Prop) (w w' : World) (e : Ending) (r : Fv × Prt × Int) : Prop := ∃ s, e = .returned (.tuple #[.agg (fcs s r.1).toArray, .agg (El.cells r.2.1).toArray, r.2.2]) ∧ FlM w' p s r.1 ∧ Below w.heap.size w w'
def TellFL (p : Nat → Prop) (w w' : World) (e : Ending) (r : Fv × List Prt × Int) : Prop := ∃ s A n c, e = .returned (.tuple #[.agg (fcs s r.1).toArray, .slice A n c, r.2.2]) ∧ FlM w' p s r.1 ∧ Se w' A n c r.2.1 ∧ In1 p A n ∧ Below w.heap.size w w'
def TellFI (p : Nat → Prop) (w w' : World) (e : Ending) (r : Fv × Int × Int) : Prop := ∃ s, e = .returned (.tuple #[.agg (fcs s r.1).toArray, r.2.1, r.2.2]) ∧ FlM w' p s r.1 ∧ Below w.heap.size w w'
def NewP (w : World) (p : Nat → Prop) : Prop := ∀ b, w.heap.size ≤ b → p b
def Off (l : List Nat) (b : Nat) : Prop := b ∉ l
theorem Off.imp {l l' : List Nat} (h : ∀ x ∈ l', x ∈ l) : ∀ b, Off l b → Off l' b := fun b hb hx => hb (h b hx)
theorem off_new {w : World} {l : List Nat} (h : ∀ x ∈ l, x < w.heap.size) : NewP w (Off l) := fun b hb hx => by have := h b hx; omega
theorem off_row {l : List Nat} {P : Nat} (h : P ∈ l) : ∀ b, Off l b → (some P : Option Nat) ≠ some b := fun b hb e => by cases e; exact hb h
theorem FlM.later {w : World} {l : List Nat} {s : Fs} {f : Fv} (h : FlM w (Off l) s f) {P : Nat} (hP : w.heap.size ≤ P) : FlM w (Off (P :: l)) s f := by
 have k : ∀ {A : Option Addr} {n : Nat}, In1 (Off l) A n → (0 < n → ∀ b o q, A = some ⟨b, o, q⟩ → b < w.heap.size) → In1 (Off (P :: l)) A n := fun hi hl h0 b o q e => by
  have h1 := hi h0 b o q e
  have h2 := hl h0 b o q e
  intro hx
  rcases List.mem_cons.1 hx with hx | hx
  ·omega
  ·exact h1 hx
 refine ⟨h.l, h.b, h.d, h.g, h.wide, k h.p1 (fun h0 b o q e => ?_), k h.p2 (fun h0 b o q e => ?_), k h.p3 (fun h0 b o q e => ?_), k h.p4 (fun h0 b o q e => ?_)⟩
 ·obtain ⟨b', o', e', hlt, _⟩ := h.l.rd.at_ h0; rw [e] at e'; cases e'; exact hlt
 ·obtain ⟨b', o', e', hlt, _⟩ := h.b.rd.at_ h0; rw [e] at e'; cases e'; exact hlt
 ·obtain ⟨b', o', e', hlt, _⟩ := h.d.rd.at_ h0; rw [e] at e'; cases e'; exact hlt
 ·obtain ⟨b', o', e', hlt, _⟩ := h.g.rd.at_ h0; rw [e] at e'; cases e'; exact hlt
def IsS (ty : TypeId) (k : Nat) : Prop := (∃ d, Tryz.prog.underlying ty = some d ∧ d.isRow = true) ∧ (Tryz.prog.info? ty).map (·.size) = some k
theorem is_flow : IsS 40 33 := ⟨⟨_, Tryz.underlying40, rfl⟩, by kernel_rfl⟩
theorem is_rtt : IsS 24 5 := ⟨⟨_, Tryz.underlying24, rfl⟩, by kernel_rfl⟩
theorem is_least : IsS 27 3 := ⟨⟨_, Tryz.underlying27, rfl⟩, by kernel_rfl⟩
theorem is_marks : IsS 29 5 := ⟨⟨_, Tryz.underlying29, rfl⟩, by kernel_rfl⟩
theorem is_rate : IsS 32 3 := ⟨⟨_, Tryz.underlying32, rfl⟩, by kernel_rfl⟩
theorem is_rack : IsS 34 6 := ⟨⟨_, Tryz.underlying34, rfl⟩, by kernel_rfl⟩
theorem is_win : IsS 36 2 := ⟨⟨_, Tryz.underlying36, rfl⟩, by kernel_rfl⟩
theorem is_timer : IsS 38 2 := ⟨⟨_, Tryz.underlying38, rfl⟩, by kernel_rfl⟩
theorem is_sent : IsS 57 9 := ⟨⟨_, Tryz.underlying57, rfl⟩, by kernel_rfl⟩
def setAll (cs : List Value) : Nat → List Value → List Value
 | _, [] => cs
 | o, v :: r => setAll (cs.set o v) (o + 1) r
section
variable {W W' : World} {B : Nat} {t : TypeId} {cs : List Value}
theorem Bx.range (h : Bx W B t cs) {o k : Nat} {vs : List Value} (hv : (cs.drop o).take k = vs) : W.rangeAt B o vs := fun j v hj => by
 rw [← hv, List.getElem?_take] at hj
 split at hj
 ·rw [List.getElem?_drop] at hj
  exact h.cell (o + j) hj
 ·cases hj
theorem Bx.there (h : Bx W B t cs) {o k : Nat} (hk : o + k ≤ cs.length) : W.there B o k := fun j hj =>
 ⟨by rw [h.cell (o + j) (List.getElem?_eq_getElem (by omega))]; rfl, h.free _⟩
theorem Bx.cells : ∀ (vs : List Value) {o : Nat} {W : World} {cs : List Value}, Bx W B t cs → Bx (W.setCells B o vs) B t (setAll cs o vs)
 | [], _, _, _, h => h
 | v :: r, o, _, _, h => Bx.cells r (h.set o v)
theorem grown_cells : ∀ (vs : List Value) (o : Nat) (W : World), W.grownBy (W.setCells B o vs) (some B)
 | [], o, W => ⟨rfl, rfl, rfl, Nat.le_refl _, fun _ _ _ => rfl⟩
 | v :: r, o, W => by
  have h := grown_cells r (o + 1) (W.setCell ⟨B, o, none⟩ v)
  refine ⟨h.os, h.tape, h.output, Zn (by simp) h.size, fun i hi hne => ?_⟩
  exact (h.block i (by simpa using hi) hne).trans (Below.heap_setCell W _ _ i (fun e => hne (by rw [e])))
variable {ty : TypeId} {k : Nat} {ops : Array Oper} {S : World → Prop} {op : Oper} {a : Act} {rest : List Oper} {Q : Exit → Act → World → Prop} {o : Nat} {vs : List Value}
theorem sub_y (hI : IsS ty k) (hw : Region.wanted op (yielded ops a.tmps) = true) (x : Operand) (ho : op.op = .load ty x) (hx : a.eval x = .pointer (some ⟨B, o, none⟩)) (hS : ∀ W, S W → Bx W B t cs) (hv : (cs.drop o).take k = vs) (hl : vs.length = k) :
  YieldsIf Tryz.prog ops S op (.agg vs.toArray) a := by
 obtain ⟨⟨d, hu, hd⟩, hi⟩ := hI
 exact yieldsIf_load_mid hw ty x ho B o hx vs d (fun w hw' => (hS w hw').range hv) hu hd (by rw [hi, hl])
theorem sub_load (hI : IsS ty k) (hgd : op.guard = none) (x : Operand) (ho : op.op = .load ty x) (hx : a.eval x = .pointer (some ⟨B, o, none⟩)) (h : Bx W B t cs) (hv : (cs.drop o).take k = vs) (hl : vs.length = k)
  (kk : wpList Tryz.prog ops Q rest (a.put op.dst (.agg vs.toArray)) W) : wpList Tryz.prog ops Q (op :: rest) a W := by
 obtain ⟨⟨d, hu, hd⟩, hi⟩ := hI
 exact wpList_load_mid hgd ty x ho B o hx vs d (h.range hv) hu hd (by rw [hi, hl]) kk
theorem sub_loadg (hI : IsS ty k) (hw : Region.wanted op (yielded ops a.tmps) = true) (x : Operand) (ho : op.op = .load ty x) (hx : a.eval x = .pointer (some ⟨B, o, none⟩)) (h : Bx W B t cs) (hv : (cs.drop o).take k = vs) (hl : vs.length = k)
  (kk : wpList Tryz.prog ops Q rest (a.put op.dst (.agg vs.toArray)) W) : wpList Tryz.prog ops Q (op :: rest) a W := by
 obtain ⟨⟨d, hu, hd⟩, hi⟩ := hI
 exact wpList_step fun K hK => by rw [if_pos hw]; exact wp_load_mid ty x ho B o hx vs d (h.range hv) hu hd (by rw [hi, hl]) (hK _ _ kk)
theorem sub_store (hI : IsS ty k) (hgd : op.guard = none) (x y : Operand) (ho : op.op = .store ty x y) (hx : a.eval x = .pointer (some ⟨B, o, none⟩)) (vs : List Value) (hy : a.eval y = .agg vs.toArray) (h : Bx W B t cs) (hb : o + k ≤ cs.length) (hl : vs.length = k) (h1 : vs.all (·.oneCell') = true)
  (kk : wpList Tryz.prog ops Q rest (a.put op.dst undef) (W.setCells B o vs)) : wpList Tryz.prog ops Q (op :: rest) a W := by
 obtain ⟨⟨d, hu, hd⟩, hi⟩ := hI
 refine wpList_store_mid hgd ty x y ho B o vs.toArray hx hy ?_ (by rw [hi]; simp [hl]) (by simpa using h1) kk
 simpa [hl] using h.there hb
theorem sub_end {K : Act → World → Prop} (hI : IsS ty k) (hw : Region.wanted op (yielded ops a.tmps) = true) (x y : Operand) (ho : op.op = .store ty x y) (hx : a.eval x = .pointer (some ⟨B, o, none⟩)) (vs : List Value) (hy : a.eval y = .agg vs.toArray) (h : Bx W B t cs) (hb : o + k ≤ cs.length) (hl : vs.length = k) (h1 : vs.all (·.oneCell') = true)
  (kk : K (a.put op.dst undef) (W.setCells B o vs)) : if Region.wanted op (yielded ops a.tmps) = true then Oper.wp Tryz.prog op a W K Q else K (a.put op.dst undef) W := by
 rw [if_pos hw]
 obtain ⟨⟨d, hu, hd⟩, hi⟩ := hI
 refine wp_store_mid ty x y ho B o vs.toArray hx hy ?_ (by rw [hi]; simp [hl]) (by simpa using h1) kk
 simpa [hl] using h.there hb
end
def scs (s : Fs) (f : Fv) (c : Cf) (now e : Int) : List Value :=
 [.bool f.up, .slice s.a1 s.n1 s.c1, .int .i64 f.next, .bool f.r.has, .int .i64 f.r.srtt, .int .i64 f.r.vr, .int .i64 f.r.rto, .int .i64 f.r.shift, .int .i64 f.b.span, .slice s.a2 s.n2 s.c2, .int .i64 f.b.high,
  .int .i64 f.m.pk, .int .i64 f.m.bt, .int .i64 f.m.ca, .int .i64 f.m.md, .int .i64 f.m.pt, .int .i64 f.d.total, .int .i64 f.d.last, .slice s.a3 s.n3 s.c3, .int .i64 f.k.at_, .int .i64 f.k.end_, .int .i64 f.k.took, .int .i64 f.k.far, .bool f.k.mixed, .int .i64 f.k.quarters,
  .int .i64 f.cw, .int .i64 f.th, .int .i64 f.tm.kd, .int .i64 f.tm.at_, .slice s.a4 s.n4 s.c4, .int .i64 f.rd, .bool f.cut, .bool f.pb,
  .int .i64 c.mss, .int .i64 c.most, .int .i64 c.least, .int .i64 c.longest, .int .i64 c.span, .bool c.vegas, .int .i64 c.total, .int .i64 c.keep, .int .i64 c.weave, .int .i64 now, .int .i64 e]
def Nw (n₀ : Nat) (l : List Nat) (b : Nat) : Prop := n₀ ≤ b ∧ b ∉ l
structure St (n₀ : Nat) (l : List Nat) (W : World) (S : Nat) (s : Fs) (f : Fv) (c : Cf) (now e : Int) : Prop where
 bx : Bx W S 101 (scs s f c now e)
 fm : FlM W (Nw n₀ (S :: l)) s f
 s0 : n₀ ≤ S
 off : S ∉ l
 old : ∀ b ∈ l, b < W.heap.size
structure Fr (n₀ : Nat) (l : List Nat) (W W' : World) : Prop where
 below : Below n₀ W W'
 at_ : ∀ b ∈ l, W'.heap[b]? = W.heap[b]?
section
variable {n₀ S : Nat} {l : List Nat} {W W' W'' : World} {s s' : Fs} {f f' : Fv} {c : Cf} {now e e' : Int}
theorem Fr.refl (n₀ : Nat) (l : List Nat) (W : World) : Fr n₀ l W W := ⟨Below.refl _ _, fun _ _ => rfl⟩
theorem Fr.trans (h : Fr n₀ l W W') (k : Fr n₀ l W' W'') : Fr n₀ l W W'' := ⟨h.below.trans k.below, fun b hb => (k.at_ b hb).trans (h.at_ b hb)⟩
theorem Fr.bx {B : Nat} {t : TypeId} {cs : List Value} (h : Fr n₀ l W W') (k : Bx W B t cs) (hB : B ∈ l) : Bx W' B t cs := (h.at_ B hB).trans k
theorem Fr.tail {H : Nat} (h : Fr n₀ (H :: l) W W') : Fr n₀ l W W' := ⟨h.below, fun b hb => h.at_ b (List.mem_cons_of_mem _ hb)⟩
theorem Fr.call (hb : Below W.heap.size W W') (hn : n₀ ≤ W.heap.size) (hl : ∀ b ∈ l, b < W.heap.size) : Fr n₀ l W W' := ⟨hb.mono hn, fun b h => hb.block b (hl b h)⟩
theorem Fr.grown {B : Nat} (hg : W.grownBy W' (some B)) (hn : n₀ ≤ W.heap.size) (hB : n₀ ≤ B) (hoff : B ∉ l) (hl : ∀ b ∈ l, b < W.heap.size) : Fr n₀ l W W' :=
 ⟨(Zb).grown hg hn (fun k hk => by cases hk; exact hB), fun b h => hg.block b (hl b h) (fun e => by cases e; exact hoff h)⟩
theorem St.size (h : St n₀ l W S s f c now e) : n₀ ≤ W.heap.size := Zl (Nat.lt_of_le_of_lt h.s0 h.bx.lt)
theorem St.call (h : St n₀ l W S s f c now e) (hb : Below W.heap.size W W') : St n₀ l W' S s f c now e :=
 ⟨h.bx.kept hb, h.fm.keep hb, h.s0, h.off, fun b k => Nat.lt_of_lt_of_le (h.old b k) hb.size⟩
theorem St.drew (h : St n₀ l W S s f c now e) : St n₀ l W.drew S s f c now e := h.call (Zb).drew
theorem St.fr (h : St n₀ l W S s f c now e) (hb : Below W.heap.size W W') : Fr n₀ l W W' := Fr.call hb h.size h.old
theorem St.put (h : St n₀ l W S s f c now e) (hg : W.grownBy W' (some S)) (hbx : Bx W' S 101 (scs s' f' c now e')) (hfm : FlM W (Nw n₀ (S :: l)) s' f') : St n₀ l W' S s' f' c now e' :=
 ⟨hbx, hfm.grown hg (fun b hb e => by cases e; exact hb.2 (List.mem_cons_self ..)), h.s0, h.off, fun b k => Nat.lt_of_lt_of_le (h.old b k) hg.size⟩
theorem St.frp (h : St n₀ l W S s f c now e) (hg : W.grownBy W' (some S)) : Fr n₀ l W W' := Fr.grown hg h.size h.s0 h.off h.old
theorem St.cells (h : St n₀ l W S s f c now e) (o : Nat) (vs : List Value) (hv : setAll (scs s f c now e) o vs = scs s' f' c now e') (hfm : FlM W (Nw n₀ (S :: l)) s' f') : St n₀ l (W.setCells S o vs) S s' f' c now e' :=
 h.put (grown_cells vs o W) (by have := Bx.cells vs (o := o) h.bx; rwa [hv] at this) hfm
theorem St.set (h : St n₀ l W S s f c now e) (o : Nat) (v : Value) (hv : (scs s f c now e).set o v = scs s' f' c now e') (hfm : FlM W (Nw n₀ (S :: l)) s' f') : St n₀ l (W.setCell ⟨S, o, none⟩ v) S s' f' c now e' :=
 h.cells o [v] hv hfm
theorem St.frc (h : St n₀ l W S s f c now e) (o : Nat) (vs : List Value) : Fr n₀ l W (W.setCells S o vs) := h.frp (grown_cells vs o W)
theorem St.frs (h : St n₀ l W S s f c now e) (o : Nat) (v : Value) : Fr n₀ l W (W.setCell ⟨S, o, none⟩ v) := h.frc o [v]
theorem St.more (h : St n₀ l W S s f c now e) {P : Nat} (hP : W.heap.size ≤ P) (hW : Below W.heap.size W W') (hlt : P < W'.heap.size) : St n₀ (P :: l) W' S s f c now e := by
 have h' := h.call hW
 have k : ∀ {A : Option Addr} {n : Nat}, In1 (Nw n₀ (S :: l)) A n → (0 < n → ∀ b o q, A = some ⟨b, o, q⟩ → b < W.heap.size) → In1 (Nw n₀ (S :: P :: l)) A n := fun hi hl h0 b o q e => by
  have h1 := hi h0 b o q e
  have h2 := hl h0 b o q e
  refine ⟨h1.1, fun hx => ?_⟩
  rcases List.mem_cons.1 hx with hx | hx
  ·exact h1.2 (by rw [hx]; exact List.mem_cons_self ..)
  ·rcases List.mem_cons.1 hx with hx | hx
   ·omega
   ·exact h1.2 (List.mem_cons_of_mem _ hx)
 refine ⟨h'.bx, ⟨h'.fm.l, h'.fm.b, h'.fm.d, h'.fm.g, h'.fm.wide, k h.fm.p1 (fun h0 b o q e => ?_), k h.fm.p2 (fun h0 b o q e => ?_), k h.fm.p3 (fun h0 b o q e => ?_), k h.fm.p4 (fun h0 b o q e => ?_)⟩, h.s0, ?_, ?_⟩
 ·obtain ⟨b', o', e', hlt, _⟩ := h.fm.l.rd.at_ h0; rw [e] at e'; cases e'; exact hlt
 ·obtain ⟨b', o', e', hlt, _⟩ := h.fm.b.rd.at_ h0; rw [e] at e'; cases e'; exact hlt
 ·obtain ⟨b', o', e', hlt, _⟩ := h.fm.d.rd.at_ h0; rw [e] at e'; cases e'; exact hlt
 ·obtain ⟨b', o', e', hlt, _⟩ := h.fm.g.rd.at_ h0; rw [e] at e'; cases e'; exact hlt
 ·intro hx
  rcases List.mem_cons.1 hx with hx | hx
  ·have := h.bx.lt; omega
  ·exact h.off hx
 ·intro b hb
  rcases List.mem_cons.1 hb with hb | hb
  ·rw [hb]; exact hlt
  ·exact h'.old b hb
end
theorem info_fl : (Tryz.prog.info? 40).map (·.size) = some 33 := by kernel_rfl
theorem fl_struct : ∃ fs, Tryz.prog.underlying 40 = some (.struct fs) := ⟨_, Tryz.underlying40⟩
section
variable {W : World} {B : Nat} {t : TypeId} {cs : List Value}
def fl_put := @g_put
def fl_grown := @g_grown
def fl_gset := @g_gset
def fl_load := @g_load 40 33 fl_struct info_fl
def fl_loadg := @g_loadg 40 33 fl_struct info_fl
theorem fl_store {ops : Array Oper} {rest : List Oper} {o : Oper} {a : Act} {Q : Exit → Act → World → Prop} (hgd : o.guard = none) (x y : Operand) (ho : o.op = .store 40 x y) (hx : a.eval x = .pointer (some ⟨B, 0, none⟩))
  (vs : List Value) (hy : a.eval y = .agg vs.toArray) (h : Bx W B t cs) (hl : cs.length = 33) (hv : vs.length = 33) (h1 : vs.all (·.oneCell') = true) (k : wpList Tryz.prog ops Q rest (a.put o.dst undef) (W.setRow B vs.toArray)) : wpList Tryz.prog ops Q (o :: rest) a W :=
 wpList_store_row hgd _ x y ho B vs.toArray hx hy t cs.toArray h (by rw [info_fl]; simp [hv]) (by simp [hl, hv]) (by simpa using h1) k
def fl_var := @g_var 40 33 fl_struct info_fl
def fl_yields := @g_yields 40 33 fl_struct info_fl
variable {fn : Func} {tmps : Array Value} {R : Ending → World → Prop} {v u : Value} {ds : List Deferred} {p q r : Tmp}
def fl_end1 := @g_end1 40 33 fl_struct info_fl
def fl_end2 := @g_end2 40 33 fl_struct info_fl
def fl_end3 := @g_end3 40 33 fl_struct info_fl
end
theorem info_cf : (Tryz.prog.info? 42).map (·.size) = some 9 := by kernel_rfl
theorem cf_struct : ∃ fs, Tryz.prog.underlying 42 = some (.struct fs) := ⟨_, Tryz.underlying42⟩
section
variable {W : World} {B : Nat} {t : TypeId} {cs : List Value}
def cf_put := @g_put
def cf_grown := @g_grown
def cf_load := @g_load 42 9 cf_struct info_cf
theorem cf_store {ops : Array Oper} {rest : List Oper} {o : Oper} {a : Act} {Q : Exit → Act → World → Prop} (hgd : o.guard = none) (x y : Operand) (ho : o.op = .store 42 x y) (hx : a.eval x = .pointer (some ⟨B, 0, none⟩))
  (vs : List Value) (hy : a.eval y = .agg vs.toArray) (h : Bx W B t cs) (hl : cs.length = 9) (hv : vs.length = 9) (h1 : vs.all (·.oneCell') = true) (k : wpList Tryz.prog ops Q rest (a.put o.dst undef) (W.setRow B vs.toArray)) : wpList Tryz.prog ops Q (o :: rest) a W :=
 wpList_store_row hgd _ x y ho B vs.toArray hx hy t cs.toArray h (by rw [info_cf]; simp [hv]) (by simp [hl, hv]) (by simpa using h1) k
def cf_var := @g_var 42 9 cf_struct info_cf
def cf_yields := @g_yields 42 9 cf_struct info_cf
variable {fn : Func} {tmps : Array Value} {R : Ending → World → Prop} {v u : Value} {ds : List Deferred} {p q r : Tmp}
def cf_end1 := @g_end1 42 9 cf_struct info_cf
end
theorem info_tv : (Tryz.prog.info? 46).map (·.size) = some 6 := by kernel_rfl
theorem tv_struct : ∃ fs, Tryz.prog.underlying 46 = some (.struct fs) := ⟨_, Tryz.underlying46⟩
section
variable {W : World} {B : Nat} {t : TypeId} {cs : List Value}
def tv_load := @g_load 46 6 tv_struct info_tv
variable {fn : Func} {tmps : Array Value} {R : Ending → World → Prop} {v u : Value} {ds : List Deferred} {p q r : Tmp}
end
theorem info_fp : (Tryz.prog.info? 57).map (·.size) = some 9 := by kernel_rfl
theorem fp_struct : ∃ fs, Tryz.prog.underlying 57 = some (.struct fs) := ⟨_, Tryz.underlying57⟩
section
variable {W : World} {B : Nat} {t : TypeId} {cs : List Value}
def fp_put := @g_put
def fp_grown := @g_grown
def fp_load := @g_load 57 9 fp_struct info_fp
theorem fp_store {ops : Array Oper} {rest : List Oper} {o : Oper} {a : Act} {Q : Exit → Act → World → Prop} (hgd : o.guard = none) (x y : Operand) (ho : o.op = .store 57 x y) (hx : a.eval x = .pointer (some ⟨B, 0, none⟩))
  (vs : List Value) (hy : a.eval y = .agg vs.toArray) (h : Bx W B t cs) (hl : cs.length = 9) (hv : vs.length = 9) (h1 : vs.all (·.oneCell') = true) (k : wpList Tryz.prog ops Q rest (a.put o.dst undef) (W.setRow B vs.toArray)) : wpList Tryz.prog ops Q (o :: rest) a W :=
 wpList_store_row hgd _ x y ho B vs.toArray hx hy t cs.toArray h (by rw [info_fp]; simp [hv]) (by simp [hl, hv]) (by simpa using h1) k
def fp_var := @g_var 57 9 fp_struct info_fp
variable {fn : Func} {tmps : Array Value} {R : Ending → World → Prop} {v u : Value} {ds : List Deferred} {p q r : Tmp}
end
def fw1 (w : World) (vs : List Value) : World := (w.alloc (.cells (fcs zfs zfv).toArray 40)).setRow w.heap.size vs.toArray
section
variable {w : World}
theorem fz1 (w : World) : Bx (w.alloc (.cells (fcs zfs zfv).toArray 40)) w.heap.size 40 (fcs zfs zfv) := Bx.new _ _ _
theorem fw1_box (w : World) (vs : List Value) : Bx (fw1 w vs) w.heap.size 40 vs := fl_put (fz1 w) vs
theorem fw1_below (w : World) (vs : List Value) : Below w.heap.size w (fw1 w vs) := ((Zb).alloc Zr _).grown (fl_grown _ _ _) (by simp) (fun k hk => by cases hk; exact Nat.le_refl _)
end
end Go.Proofs.YtbijhkhkigdddaaGreat
