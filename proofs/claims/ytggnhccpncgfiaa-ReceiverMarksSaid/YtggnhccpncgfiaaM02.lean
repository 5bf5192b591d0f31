/- The texts WvRead, WvLaw, T60, Ms, Sg, Rc, By, Bx, RcMem, RcLib, RcS, SpEnds. -/
import Derived.Below
import Derived.BigQuiet
import Derived.Deep.AppendLies
import Derived.Deep.DeepCutAuto
import Derived.Deep.MidRow
import Derived.Deep.QuietTactic
import Derived.IntWalk
import Derived.Laws.EntriesVeiled
import Derived.Laws.Rows
import Derived.Laws.Tables
import Derived.Lib.Hide
import Derived.LoopIn
import Derived.LoopNIn
import Derived.OrdersHeld
import Derived.Outline
import Derived.OwnWalkIn
import Derived.RangeFuncBound
import Derived.RangeFuncBox
import Derived.RangeFuncCalls
import Derived.RangeFuncLeaves
import Derived.RangeFuncNested
import Derived.Shelf.Abstract
import Derived.Shelf.RegionOpen
import Derived.TacticsInMore
import Derived.Test.YtggnhccpncgfiaaProg
import Derived.WalkKit
import Derived.WalkSmall
import Derived.WalkSpells
import Derived.Test.YtggnhccpncgfiaaM01
set_option linter.all false
namespace Go.Proofs.Ytggnhccpncgfiaa
/-- places in a row lie in one span -/
theorem run_one {d : Int} {p : Sp} {t : List Sp} (h : chain d (p :: t) = true) {a : Int} {k : Nat} (hp : p.1 ≤ a) (hk : 0 < k) (hr : ∀ i : Nat, i < k → inL (p :: t) (a + i)) (h0 : a < p.2) : a + k ≤ p.2 := by
  rcases Int.lt_or_le p.2 (a + k) with h1 | h1
  · exfalso
    have h2 := hr (p.2 - a).toNat (by omega)
    rw [show a + ((p.2 - a).toNat : Nat) = p.2 by omega] at h2
    exact end_out h List.mem_cons_self h2
  · exact h1
/-- the first span of a list that begins with base, if base is there -/
theorem head_base {base : Int} {l : List Sp} (h : chain (base - 1) l = true) (hb : inL l base) : ∃ q t, l = (base, q) :: t ∧ base < q := by
  cases l with
  | nil => exact absurd hb (inL_nil _)
  | cons p t =>
    obtain ⟨p1, p2⟩ := p
    have hc := ch_cons.1 h
    simp only at hc
    rcases (inL_cons _ _ _).1 hb with h1 | h1
    · simp only at h1
      exact ⟨p2, t, by rw [show p1 = base by omega], by omega⟩
    · have := low_in hc.2.2 h1; omega
section
variable {w : Wv} {k : Nat}
/-- what Got is behind a read of k places -/
theorem cut_form (h : Va w) (hk : k ≤ rdyW w) (h0 : 0 < k) : ∃ q t, w.got = (w.base, q) :: t ∧ w.base + k ≤ q ∧ chain q t = true ∧
    cutK w.got w.base k = (if w.base + k < q then [(w.base + k, q)] else []) ++ t := by
  have hin : ∀ i : Nat, i < k → inL w.got (w.base + i) := fun i hi => rdy_in w (by omega)
  have hb : inL w.got w.base := by have := hin 0 h0; simpa using this
  obtain ⟨q, t, e, hq⟩ := head_base h.ch hb
  have hch := h.ch
  rw [e] at hch
  have hc := ch_cons.1 hch
  simp only at hc
  have hle : w.base + k ≤ q := run_one hch (p := (w.base, q)) (Int.le_refl _) h0 (by rw [← e]; exact hin) hq
  refine ⟨q, t, e, hle, hc.2.2, ?_⟩
  unfold cutK
  rw [if_neg (by omega), e, cutL_cons, cutL_past hc.2.2 (by show w.base < w.base + k; omega) hle]
  congr 1
  unfold lft
  simp only
  rw [if_neg (by omega), show max w.base (w.base + (k : Int)) = w.base + k by omega]
  rfl
theorem cut_in_iff (h : Va w) (hk : k ≤ rdyW w) (n : Int) : inL (cutW w k).got n ↔ inL w.got n ∧ w.base + k ≤ n := by
  show inL (cutK w.got w.base k) n ↔ _
  by_cases h0 : k = 0
  · unfold cutK
    rw [if_pos h0, h0]
    constructor
    · intro hn; exact ⟨hn, by have := (up_in h hn).1; omega⟩
    · exact fun hn => hn.1
  · unfold cutK
    rw [if_neg h0, cutL_in _ (show w.base < w.base + (k : Int) by omega)]
    constructor
    · rintro ⟨h1, h2⟩
      refine ⟨h1, ?_⟩
      have := (up_in h h1).1
      simp only at h2
      omega
    · rintro ⟨h1, h2⟩
      refine ⟨h1, fun h3 => ?_⟩
      simp only at h3; omega
theorem cut_chain (h : Va w) (hk : k ≤ rdyW w) : chain (w.base + k - 1) (cutW w k).got = true := by
  show chain _ (cutK w.got w.base k) = true
  by_cases h0 : k = 0
  · unfold cutK; rw [if_pos h0, h0]; simpa using h.ch
  · obtain ⟨q, t, e, hle, hc, ec⟩ := cut_form h hk (by omega)
    rw [ec]
    have hq : q ≤ 4611686018427387904 ∧ 0 ≤ w.base := by
      have := h.ch
      rw [e] at this
      have := ch_cons.1 this
      simp only at this
      exact ⟨this.2.1.2.2, this.2.1.1⟩
    by_cases h1 : w.base + k < q
    · rw [if_pos h1, List.singleton_append, ch_cons]
      exact ⟨by simp only; omega, ⟨by simp only; omega, h1, hq.1⟩, hc⟩
    · rw [if_neg h1, List.nil_append]
      exact ch_weak hc (by omega)
theorem cut_up (h : Va w) (hk : k ≤ rdyW w) : upW (cutW w k) = upW w := by
  by_cases h0 : k = 0
  · have e : (cutW w k).got = w.got := by show cutK w.got w.base k = _; unfold cutK; rw [if_pos h0]
    unfold upW
    rw [e, h0]
    show lastOf (w.base + (0 : Nat)) w.got = _
    rw [show w.base + ((0 : Nat) : Int) = w.base by omega]
  · obtain ⟨q, t, e, hle, hc, ec⟩ := cut_form h hk (by omega)
    unfold upW
    rw [show (cutW w k).got = _ from ec, e, last_cons]
    show lastOf (w.base + k) _ = lastOf q t
    by_cases h1 : w.base + k < q
    · rw [if_pos h1, List.singleton_append, last_cons]
    · rw [if_neg h1, List.nil_append, show w.base + (k : Int) = q by omega]
theorem cut_len (h : Va w) (hk : k ≤ rdyW w) : (cutW w k).got.length ≤ w.got.length := by
  show (cutK w.got w.base k).length ≤ _
  by_cases h0 : k = 0
  · unfold cutK; rw [if_pos h0]; exact Nat.le_refl _
  · obtain ⟨q, t, e, hle, hc, ec⟩ := cut_form h hk (by omega)
    rw [ec, e, List.length_append, List.length_cons]
    split <;> simp <;> omega
/-- it is valid again -/
theorem cut_va (h : Va w) (hk : k ≤ rdyW w) : Va (cutW w k) := by
  have hup := cut_up h hk
  have hrl := rdy_le w
  have hbl := h.blen
  have htop := up_top h
  refine ⟨Nat.le_trans (cut_len h hk) h.len, h.cap0, h.cap1, ?_, ?_, ?_, ?_, ?_, cut_chain h hk, fun i hi => ?_⟩
  · show 0 ≤ w.base + (k : Int); have := h.base0; omega
  · show w.base + (k : Int) ≤ _; omega
  · rw [hup]
    have := h.up
    unfold edW at *
    show upW w ≤ min (w.base + (k : Int) + w.cap) _
    omega
  · rw [hup]
    show ((w.b.drop k).length : Int) = upW w - (w.base + k)
    rw [List.length_drop]; omega
  · rw [hup]; exact h.en
  · have hi' : i < (w.b.drop k).length := hi
    rw [List.length_drop] at hi'
    show byt (w.b.drop k) i = 0 ∨ inL (cutW w k).got (w.base + k + i)
    rw [byt_drop]
    rcases h.ok (k + i) (by omega) with h1 | h1
    · exact .inl h1
    · right
      rw [cut_in_iff h hk]
      exact ⟨by rw [show w.base + (k : Int) + i = w.base + ((k + i : Nat) : Int) by omega]; exact h1, by omega⟩
end
/-- the two answers of a Read -/
theorem read_cases (w : Wv) (n : Int) :
    (readR w n = (zw, [], 1) ∧ ¬ (Va w ∧ 0 ≤ n)) ∨
    (readR w n = (cutW w (min (rdyW w) n.toNat), w.b.take (min (rdyW w) n.toNat), 0) ∧ Va w ∧ 0 ≤ n) := by
  unfold readR
  by_cases h : Va w ∧ 0 ≤ n
  · right; exact ⟨if_pos ⟨(wmay_iff w).2 h.1, h.2⟩, h⟩
  · left; exact ⟨if_neg (fun h1 => h ⟨(wmay_iff w).1 h1.1, h1.2⟩), h⟩
theorem zw_put (p : Int) (bs : List Int) : (putR zw p bs).2.1 = 0 := by
  rcases put_cases zw p bs with h | h | h | h | h
  · rw [h.1]
  · rw [h.1]
  · rw [h.1]
  · rw [h.1]
  · exfalso
    have h1 := h.2.lt
    have h2 := high_le zw p bs.length
    have h3 := (low_ge zw p).1
    have h4 : edW zw = 0 := by decide
    have h5 : zw.base = 0 := rfl
    omega
/-- WeaveTwice: what the second Put of as many bytes answers, and what is behind -/
theorem twice_spec (w : Wv) (p : Int) (bs cs : List Int) (hl : bs.length = cs.length) :
    ((putR w p bs).2.2 ≠ 0 → (putR w p bs).2.1 = 0 ∧ (putR (putR w p bs).1 p cs).2.1 = 0) ∧
    ((putR w p bs).2.2 = 0 → putR (putR w p bs).1 p cs = ((putR w p bs).1, 0, 0) ∧ 0 ≤ (putR w p bs).2.1 ∧ (putR w p bs).2.1 ≤ bs.length ∧ Va (putR w p bs).1 ∧ Va w ∧
      edW (putR w p bs).1 = edW w ∧ rdyW w ≤ rdyW (putR w p bs).1) := by
  rcases put_cases w p bs with h | h | h | h | h
  · rw [h.1]; exact ⟨fun _ => ⟨rfl, zw_put p cs⟩, fun h => absurd h (by simp)⟩
  · rw [h.1]; exact ⟨fun _ => ⟨rfl, zw_put p cs⟩, fun h => absurd h (by simp)⟩
  · rw [h.1]
    refine ⟨fun h => absurd rfl h, fun _ => ⟨?_, Int.le_refl _, Int.natCast_nonneg _, h.2.1.1, h.2.1.1, rfl, Nat.le_refl _⟩⟩
    have h2 := h.2.2.1
    have h3 := h.2.2.2
    rw [hl] at h2 h3
    rcases put_cases w p cs with k | k | k | k | k
    · exact absurd h.2.1 k.2
    · exact absurd k.2.2 h2
    · exact k.1
    · exact absurd h3 k.2.2.2.1
    · have := k.2.lt; omega
  · rw [h.1]; exact ⟨fun _ => ⟨rfl, zw_put p cs⟩, fun h => absurd h (by simp)⟩
  · rw [h.1]
    have hp := h.2
    refine ⟨fun h => absurd rfl h, fun _ => ⟨put_twice hp hl, Int.natCast_nonneg _, ?_, hp.res, hp.va, rfl, ?_⟩⟩
    · show ((putN w.got (lowP w p) (highP w p bs.length) : Nat) : Int) ≤ bs.length
      have := putN_le w.got (lowP w p) (highP w p bs.length)
      have := high_le' w p bs.length
      have := (low_ge w p).2
      omega
    · refine rdy_mono rfl ?_ (fun n hn => (hp.in_iff n).2 (.inl hn))
      show w.b.length ≤ (putB w p bs).length
      rw [putB_len]; omega
end Go.Proofs.Ytggnhccpncgfiaa
namespace Go.Proofs.Ytggnhccpncgfiaa
section
variable {all : List Int} {w : Wv} {out : List Int}
end
def endW (w : Wv) (p : Int) : Wv := ⟨w.base, w.b, w.got, w.cap, p⟩
theorem shut_cases (w : Wv) (p : Int) :
    (wshutR w p = (zw, 1) ∧ ¬ (Va w ∧ 0 ≤ p ∧ p ≤ 2305843009213693952)) ∨
    (wshutR w p = (zw, 5) ∧ (Va w ∧ 0 ≤ p ∧ p ≤ 2305843009213693952) ∧ ((0 ≤ w.en ∧ w.en ≠ p) ∨ p < upW w)) ∨
    (wshutR w p = (endW w p, 0) ∧ (Va w ∧ 0 ≤ p ∧ p ≤ 2305843009213693952) ∧ ¬ ((0 ≤ w.en ∧ w.en ≠ p) ∨ p < upW w)) := by
  by_cases h1 : Va w ∧ 0 ≤ p ∧ p ≤ 2305843009213693952
  · have h1' : wmay w = true ∧ 0 ≤ p ∧ p ≤ 2305843009213693952 := ⟨(wmay_iff w).2 h1.1, h1.2⟩
    right
    by_cases h2 : (0 ≤ w.en ∧ w.en ≠ p) ∨ p < upW w
    · left; exact ⟨by unfold wshutR; rw [if_pos h1', if_pos h2], h1, h2⟩
    · right; exact ⟨by unfold wshutR; rw [if_pos h1', if_neg h2]; rfl, h1, h2⟩
  · left; exact ⟨by unfold wshutR; rw [if_neg (fun h => h1 ⟨(wmay_iff w).1 h.1, h.2⟩)], h1⟩
theorem end_va {w : Wv} {p : Int} (h : Va w) (hp : upW w ≤ p) : Va (endW w p) := ⟨h.len, h.cap0, h.cap1, h.base0, h.base1, h.up, h.blen, .inr hp, h.ch, h.ok⟩
theorem end_same {w : Wv} {p : Int} (h : Va w) (hp : upW w ≤ p) (h0 : 0 ≤ p) (h1 : p ≤ 2305843009213693952) : wshutR (endW w p) p = (endW w p, 0) := by
  have hen : (endW w p).en = p := rfl
  have hup : upW (endW w p) = upW w := rfl
  rcases shut_cases (endW w p) p with k | k | k
  · exact absurd ⟨end_va h hp, h0, h1⟩ k.2
  · exfalso; have := k.2.2; rw [hen, hup] at this; omega
  · exact k.1
end Go.Proofs.Ytggnhccpncgfiaa
namespace Go.Proofs.Ytggnhccpncgfiaa
def t60 (x : Int) : Bool := decide (0 ≤ x ∧ x ≤ 1152921504606846976)
theorem t60_iff (x : Int) : t60 x = true ↔ 0 ≤ x ∧ x ≤ 1152921504606846976 := by unfold t60; exact decide_eq_true_iff
end Go.Proofs.Ytggnhccpncgfiaa
namespace Go.Proofs.Ytggnhccpncgfiaa
/-- marks -/
structure Ms where
  pk : Int
  bt : Int
  ca : Int
  md : Int
  pt : Int
def zmk : Ms := ⟨0, 0, 0, 0, 0⟩
def mmay (m : Ms) : Bool := t60 m.pk && (t60 m.bt && (t60 m.ca && decide (0 ≤ m.md ∧ m.md ≤ m.ca ∧ 0 ≤ m.pt ∧ m.pt ≤ 1024)))
structure MsOk (m : Ms) : Prop where
  p0 : 0 ≤ m.pk
  p1 : m.pk ≤ 1152921504606846976
  b0 : 0 ≤ m.bt
  b1 : m.bt ≤ 1152921504606846976
  c0 : 0 ≤ m.ca
  c1 : m.ca ≤ 1152921504606846976
  m0 : 0 ≤ m.md
  m1 : m.md ≤ m.ca
  t0 : 0 ≤ m.pt
  t1 : m.pt ≤ 1024
theorem mmay_iff (m : Ms) : mmay m = true ↔ MsOk m := by
  unfold mmay
  rw [Bool.and_eq_true, Bool.and_eq_true, Bool.and_eq_true, t60_iff, t60_iff, t60_iff, decide_eq_true_eq]
  exact ⟨fun ⟨⟨a, b⟩, ⟨c, d⟩, ⟨e, f⟩, g, h, i, j⟩ => ⟨a, b, c, d, e, f, g, h, i, j⟩, fun h => ⟨⟨h.p0, h.p1⟩, ⟨h.b0, h.b1⟩, ⟨h.c0, h.c1⟩, h.m0, h.m1, h.t0, h.t1⟩⟩
/-- Told -/
def toldR (m : Ms) : Int × Int := if mmay m = true then (m.pk % 8, m.bt % 16777216) else (0, 0)
end Go.Proofs.Ytggnhccpncgfiaa
namespace Go.Proofs.Ytggnhccpncgfiaa
/-- a segment -/
structure Sg where
  kind : Int
  sub : Int
  fin : Bool
  ecn : Bool
  seq : Int
  dsn : Int
  got : Int
  dgot : Int
  win : Int
  ace : Int
  ce : Int
  sent : Int
  echo : Int
  sacks : List (Int × Int)
  b : List Int
def zs : Sg := ⟨0, 0, false, false, 0, 0, 0, 0, 0, 0, 0, 0, 0, [], []⟩
def smay (s : Sg) : Bool := decide (0 ≤ s.kind ∧ s.kind ≤ 4 ∧ 0 ≤ s.sub ∧ s.sub ≤ 3 ∧ 0 ≤ s.win ∧ s.win ≤ 65535 ∧ 0 ≤ s.ace ∧ s.ace ≤ 7 ∧ s.ce < 16777216 ∧ s.sacks.length ≤ 3 ∧ s.b.length ≤ 1460)
structure Sm (s : Sg) : Prop where
  kind0 : 0 ≤ s.kind
  kind1 : s.kind ≤ 4
  sub0 : 0 ≤ s.sub
  sub1 : s.sub ≤ 3
  win0 : 0 ≤ s.win
  win1 : s.win ≤ 65535
  ace0 : 0 ≤ s.ace
  ace1 : s.ace ≤ 7
  ce1 : s.ce < 16777216
  sacks : s.sacks.length ≤ 3
  bl : s.b.length ≤ 1460
theorem smay_iff (s : Sg) : smay s = true ↔ Sm s := by
  unfold smay
  rw [decide_eq_true_eq]
  exact ⟨fun ⟨a, b, c, d, e, f, g, h, i, j, k⟩ => ⟨a, b, c, d, e, f, g, h, i, j, k⟩, fun h => ⟨h.kind0, h.kind1, h.sub0, h.sub1, h.win0, h.win1, h.ace0, h.ace1, h.ce1, h.sacks, h.bl⟩⟩
def U32 (n : Int) : Prop := 0 ≤ n ∧ n < 4294967296
/-- what its types say -/
structure SgW (s : Sg) : Prop where
  seq : U32 s.seq
  dsn : U32 s.dsn
  got : U32 s.got
  dgot : U32 s.dgot
  ce : U32 s.ce
  sent : U32 s.sent
  echo : U32 s.echo
  sacks : ∀ p ∈ s.sacks, U32 p.1 ∧ U32 p.2
  b : Small s.b
theorem zs_w : SgW zs :=
  have z : U32 0 := ⟨by decide, by decide⟩
  ⟨z, z, z, z, z, z, z, fun p h => absurd h (by simp [zs]), fun x h => absurd h (by simp [zs])⟩
end Go.Proofs.Ytggnhccpncgfiaa
namespace Go.Proofs.Ytggnhccpncgfiaa
/-- a subflow's inlet -/
structure Inl where
  got : List Sp
  m : Ms
def zinl : Inl := ⟨[], zmk⟩
def inmay (x : Inl) : Bool := mayB x.got && mmay x.m
/-- a receiver -/
structure Rc where
  w : Wv
  s0 : Inl
  s1 : Inl
  s2 : Inl
  s3 : Inl
def zrc : Rc := ⟨zw, zinl, zinl, zinl, zinl⟩
def Rc.s (r : Rc) : Nat → Inl
  | 0 => r.s0
  | 1 => r.s1
  | 2 => r.s2
  | _ => r.s3
def Rc.put (r : Rc) (x : Inl) : Nat → Rc
  | 0 => ⟨r.w, x, r.s1, r.s2, r.s3⟩
  | 1 => ⟨r.w, r.s0, x, r.s2, r.s3⟩
  | 2 => ⟨r.w, r.s0, r.s1, x, r.s3⟩
  | _ => ⟨r.w, r.s0, r.s1, r.s2, x⟩
def Rc.weave (r : Rc) (w : Wv) : Rc := ⟨w, r.s0, r.s1, r.s2, r.s3⟩
def rcmay (r : Rc) : Bool := (inmay r.s0 && (inmay r.s1 && (inmay r.s2 && inmay r.s3))) && wmay r.w
structure RcOk (r : Rc) : Prop where
  w : Va r.w
  g : ∀ i, mayB (r.s i).got = true
  m : ∀ i, MsOk (r.s i).m
theorem inmay_iff (x : Inl) : inmay x = true ↔ mayB x.got = true ∧ MsOk x.m := by
  unfold inmay; rw [Bool.and_eq_true, mmay_iff]
theorem rcmay_iff (r : Rc) : rcmay r = true ↔ RcOk r := by
  unfold rcmay
  rw [Bool.and_eq_true, Bool.and_eq_true, Bool.and_eq_true, Bool.and_eq_true, inmay_iff, inmay_iff, inmay_iff, inmay_iff, wmay_iff]
  constructor
  · rintro ⟨⟨⟨a, b⟩, ⟨c, d⟩, ⟨e, f⟩, g, h⟩, k⟩
    refine ⟨k, fun i => ?_, fun i => ?_⟩
    · match i with
      | 0 => exact a
      | 1 => exact c
      | 2 => exact e
      | _ + 3 => exact g
    · match i with
      | 0 => exact b
      | 1 => exact d
      | 2 => exact f
      | _ + 3 => exact h
  · intro h
    exact ⟨⟨⟨h.g 0, h.m 0⟩, ⟨h.g 1, h.m 1⟩, ⟨h.g 2, h.m 2⟩, h.g 3, h.m 3⟩, h.w⟩
theorem Rc.put_s (r : Rc) (x : Inl) {i : Nat} (hi : i ≤ 3) (j : Nat) (hj : j ≤ 3) : (r.put x i).s j = if j = i then x else r.s j := by
  have h1 : i = 0 ∨ i = 1 ∨ i = 2 ∨ i = 3 := by omega
  have h2 : j = 0 ∨ j = 1 ∨ j = 2 ∨ j = 3 := by omega
  rcases h1 with rfl | rfl | rfl | rfl <;> rcases h2 with rfl | rfl | rfl | rfl <;> rfl
theorem Rc.put_s' (r : Rc) (x : Inl) {i : Nat} (hi : i ≤ 3) : (r.put x i).s i = x := by rw [r.put_s x hi i hi, if_pos rfl]
theorem Rc.put_w (r : Rc) (x : Inl) (i : Nat) : (r.put x i).w = r.w := by unfold Rc.put; split <;> rfl
theorem Rc.put_put (r : Rc) (x y : Inl) {i : Nat} (hi : i ≤ 3) : (r.put x i).put y i = r.put y i := by
  have h1 : i = 0 ∨ i = 1 ∨ i = 2 ∨ i = 3 := by omega
  rcases h1 with rfl | rfl | rfl | rfl <;> rfl
theorem Rc.weave_put (r : Rc) (w : Wv) (x : Inl) (i : Nat) : (r.weave w).put x i = (r.put x i).weave w := by unfold Rc.put; split <;> rfl
theorem Rc.weave_s (r : Rc) (w : Wv) (i : Nat) : (r.weave w).s i = r.s i := by unfold Rc.s; split <;> rfl
theorem rcok_put {r : Rc} (h : RcOk r) {x : Inl} (hg : mayB x.got = true) (hm : MsOk x.m) {i : Nat} (hi : i ≤ 3) : RcOk (r.put x i) := by
  have h1 : i = 0 ∨ i = 1 ∨ i = 2 ∨ i = 3 := by omega
  refine ⟨by rw [r.put_w]; exact h.w, fun j => ?_, fun j => ?_⟩
  · rcases h1 with rfl | rfl | rfl | rfl <;> match j with
      | 0 => first | exact hg | exact h.g 0
      | 1 => first | exact hg | exact h.g 1
      | 2 => first | exact hg | exact h.g 2
      | _ + 3 => first | exact hg | exact h.g 3
  · rcases h1 with rfl | rfl | rfl | rfl <;> match j with
      | 0 => first | exact hm | exact h.m 0
      | 1 => first | exact hm | exact h.m 1
      | 2 => first | exact hm | exact h.m 2
      | _ + 3 => first | exact hm | exact h.m 3
theorem rcok_weave {r : Rc} (h : RcOk r) {w : Wv} (hw : Va w) : RcOk (r.weave w) :=
  ⟨hw, fun i => by rw [r.weave_s]; exact h.g i, fun i => by rw [r.weave_s]; exact h.m i⟩
/-- how far all has come -/
def farR (w : Wv) : Int := if w.en = w.base + rdyW w then w.base + rdyW w + 1 else w.base + rdyW w
theorem far_bd {w : Wv} (h : Va w) : w.base + rdyW w ≤ farR w ∧ farR w ≤ w.base + rdyW w + 1 := by unfold farR; split <;> omega
theorem far_top {w : Wv} (h : Va w) : 0 ≤ farR w ∧ farR w ≤ upW w + 1 ∧ farR w ≤ edW w + 1 ∧ farR w ≤ 2305843009213693953 := by
  have h1 := far_bd h
  have h2 := rdy_le w
  have h3 := h.blen
  have h4 := h.base0
  have h5 := up_top h
  have h6 := h.up
  omega
/-- a number told by its low bits, near another one -/
def fstN (c : Int) : Int := if c < 2147483648 then 0 else c - 2147483648
def unwr (c low : Int) : Int := fstN c + (low - fstN c) % 4294967296
theorem unwr_low {c low : Int} (hc : c < 2147483648) (h0 : 0 ≤ low) (h1 : low < 4294967296) : unwr c low = low := by
  unfold unwr fstN; rw [if_pos hc]; omega
theorem unwr_bd {c low : Int} (h0 : 0 ≤ c) : 0 ≤ unwr c low ∧ unwr c low < c + 4294967296 := by
  unfold unwr fstN; split <;> omega
def l32 (n : Int) : Int := n % 4294967296
/-- the spans that are told -/
def sackL (l : List Sp) (g : Int) : List Sp := (l.filter fun s => decide (g < s.1)).take 3
def sacksR (l : List Sp) (g : Int) : List (Int × Int) := (sackL l g).map fun s => (l32 s.1, l32 s.2)
def winR (w : Wv) : Int := max 0 (min 65535 (edW w - farR w))
/-- what is told of a subflow -/
def ackS (r : Rc) (i : Nat) (echo : Int) : Sg :=
  ⟨3, i, false, true, 0, 0, l32 (gapIn (r.s i).got 0), l32 (farR r.w), winR r.w, (r.s i).m.pk % 8, (r.s i).m.bt % 16777216, 0, echo, sacksR (r.s i).got (gapIn (r.s i).got 0), []⟩
def ackR (r : Rc) (sub echo : Int) : Sg × Int := if rcmay r = true ∧ 0 ≤ sub ∧ sub ≤ 3 then (ackS r sub.toNat echo, 0) else (zs, 1)
/-- a segment's positions -/
def sizeS (x : Sg) : Int := if x.fin = true then 1 else x.b.length
def Form (x : Sg) : Prop := Sm x ∧ x.kind = 2 ∧ (x.fin = true → x.b = []) ∧ (x.fin = false → x.b ≠ [])
def formB (x : Sg) : Bool := smay x && (decide (x.kind = 2) && (if x.fin = true then decide (x.b.length = 0) else decide (0 < x.b.length)))
theorem formB_iff (x : Sg) : formB x = true ↔ Form x := by
  unfold formB Form
  rw [Bool.and_eq_true, Bool.and_eq_true, smay_iff, decide_eq_true_eq]
  cases hf : x.fin
  · simp [List.length_pos_iff]
  · simp
def seqR (r : Rc) (x : Sg) : Int := unwr (gapIn (r.s x.sub.toNat).got 0) x.seq
def atR (r : Rc) (x : Sg) : Int := unwr (farR r.w) x.dsn
/-- what the weave does -/
def wvR (r : Rc) (x : Sg) : Wv × Int := if x.fin = true then wshutR r.w (atR r x) else ((putR r.w (atR r x) x.b).1, (putR r.w (atR r x) x.b).2.2)
def addS (r : Rc) (x : Sg) : List Sp × Int := addR (r.s x.sub.toNat).got (seqR r x, seqR r x + sizeS x)
def mkR (r : Rc) (x : Sg) (marked : Bool) : Ms := if marked = true then ⟨(r.s x.sub.toNat).m.pk + 1, (r.s x.sub.toNat).m.bt + sizeS x, (r.s x.sub.toNat).m.ca, (r.s x.sub.toNat).m.md, (r.s x.sub.toNat).m.pt⟩ else (r.s x.sub.toNat).m
def takenR (r : Rc) (x : Sg) (marked : Bool) : Rc := (r.put ⟨(addS r x).1, mkR r x marked⟩ x.sub.toNat).weave (wvR r x).1
/-- Take's error, and 0 -/
def takeE (r : Rc) (x : Sg) (marked : Bool) : Int :=
  if rcmay r = false then 1
  else if formB x = false then 7
  else if x.fin = false ∧ edW r.w < atR r x + sizeS x then 4
  else if (wvR r x).2 ≠ 0 then (wvR r x).2
  else if (addS r x).2 ≠ 0 then (addS r x).2
  else if mmay (mkR r x marked) = false then 5
  else 0
def takeR (r : Rc) (x : Sg) (marked : Bool) : Rc × Sg × Int :=
  if takeE r x marked = 0 then (takenR r x marked, ackS (takenR r x marked) x.sub.toNat x.sent, 0) else (zrc, zs, takeE r x marked)
/-- Read -/
def rreadR (r : Rc) (n : Int) : Rc × List Int × Int :=
  if rcmay r = true then (if (readR r.w n).2.2 = 0 then (r.weave (readR r.w n).1, (readR r.w n).2.1, 0) else (zrc, [], (readR r.w n).2.2)) else (zrc, [], 1)
def rnewR (room : Int) : Rc × Int := (zrc.weave (newR room).1, (newR room).2)
/-- when Take takes -/
structure Taken (r : Rc) (x : Sg) (marked : Bool) : Prop where
  rok : RcOk r
  f : Form x
  edge : x.fin = true ∨ atR r x + sizeS x ≤ edW r.w
  w : (wvR r x).2 = 0
  a : (addS r x).2 = 0
  m : MsOk (mkR r x marked)
theorem take_iff (r : Rc) (x : Sg) (marked : Bool) : takeE r x marked = 0 ↔ Taken r x marked := by
  unfold takeE
  constructor
  · intro h
    split at h
    · cases h
    · next h1 =>
      split at h
      · cases h
      · next h2 =>
        split at h
        · cases h
        · next h3 =>
          split at h
          · next h4 => exact absurd h h4
          · next h4 =>
            split at h
            · next h5 => exact absurd h h5
            · next h5 =>
              split at h
              · cases h
              · next h6 =>
                refine ⟨(rcmay_iff r).1 (by simpa using h1), (formB_iff x).1 (by simpa using h2), ?_, by simpa using h4, by simpa using h5, (mmay_iff _).1 (by simpa using h6)⟩
                cases hf : x.fin
                · right; exact Int.not_lt.1 (fun hh => h3 ⟨hf, hh⟩)
                · left; rfl
  · intro h
    rw [if_neg (by rw [(rcmay_iff r).2 h.rok]; simp), if_neg (by rw [(formB_iff x).2 h.f]; simp), if_neg (fun hh => by
      rcases h.edge with k | k
      · rw [hh.1] at k; cases k
      · have := hh.2; omega), if_neg (by simp [h.w]), if_neg (by simp [h.a]), if_neg (by rw [(mmay_iff _).2 h.m]; simp)]
theorem take_zero {r : Rc} {x : Sg} {marked : Bool} (h : takeE r x marked = 0) : takeR r x marked = (takenR r x marked, ackS (takenR r x marked) x.sub.toNat x.sent, 0) := if_pos h
theorem take_err {r : Rc} {x : Sg} {marked : Bool} (h : takeE r x marked ≠ 0) : takeR r x marked = (zrc, zs, takeE r x marked) := if_neg h
end Go.Proofs.Ytggnhccpncgfiaa
namespace Go.Proofs.Ytggnhccpncgfiaa
open Go.RowKit
section
variable {w w' : World} {A : Option Addr} {n : Nat} {ls : List (List Int)}
end
theorem below_drewN {B : Nat} {a w : World} (h : Below B a w) (n : Nat) : Below B a (w.drewN n) := ⟨h.os, h.tape, h.output, h.size, h.block⟩
theorem ret_bool {a b : Bool} (h : a = b) : Ending.returned (.bool a) = .returned (.bool b) := by rw [h]
def sameB (l m : List Int) : Bool := decide (l = m)
/-- the first k are the same -/
def Pre (l m : List Int) (k : Nat) : Prop := ∀ i, i < k → byt l i = byt m i
/-- what the call has put together so far -/
structure Got (w : World) (base : Nat) (v : Value) (n : Nat) (l : List Int) : Prop where
  own : w.ownsRow base 5 1 v n (l.map (Value.int .u8))
  small : Small l
theorem Got.rd {w : World} {base : Nat} {v : Value} {n : Nat} {l : List Int} (h : Got w base v n l) : ∃ A c, v = .slice A n c ∧ n ≤ c ∧ c ≤ maxLen ∧ (A = none → c = 0) ∧ Rd w A n l := Rd.of_own h.own h.small
theorem info_u8 : (Try.prog.info? 5).map (fun i => (i.zero, i.size, i.bytes)) = some (some (.int .u8 0), 1, 1) := by kernel_rfl
/-- A slice value of length m and capacity d that reads as l. -/
structure Sl (w : World) (R : Option Addr) (m d : Nat) (l : List Int) : Prop where
  le : m ≤ d
  big : d ≤ maxLen
  nil : R = none → d = 0
  rd : Rd w R m l
section
variable {w w' : World} {R : Option Addr} {m d : Nat} {l : List Int}
theorem Sl.keep (h : Sl w R m d l) (hb : Below w.heap.size w w') : Sl w' R m d l := ⟨h.le, h.big, h.nil, h.rd.keep hb⟩
theorem Sl.alloc (h : Sl w R m d l) (o : Obj) : Sl (w.alloc o) R m d l := ⟨h.le, h.big, h.nil, h.rd.alloc o⟩
theorem Rd.block (w : World) {l : List Int} (hs : Small l) (t : TypeId) : Rd (w.alloc (.cells (l.map (Value.int .u8)).toArray t)) (some ⟨w.heap.size, 0, none⟩) l.length l :=
  ⟨rfl, hs, fun _ => ⟨w.heap.size, 0, rfl, by simp, fun i hi => by
    rw [Nat.zero_add, World.cell?_alloc_new, List.getElem?_toArray, List.getElem?_map, List.getElem?_eq_getElem hi]
    unfold byt; rw [List.getD_eq_getElem?_getD, List.getElem?_eq_getElem hi]; rfl⟩⟩
end
theorem Got.sl {w : World} {base : Nat} {v : Value} {n : Nat} {l : List Int} (h : Got w base v n l) : ∃ A c, v = .slice A n c ∧ Sl w A n c l := by
  obtain ⟨A, c, e, h1, h2, h3, h4⟩ := h.rd
  exact ⟨A, c, e, h1, h2, h3, h4⟩
theorem Sl.none (w : World) : Sl w .none 0 0 [] := ⟨Nat.le_refl _, by unfold maxLen; omega, fun _ => rfl, Rd.empty _ _⟩
/-- a slice whose row lies at or beyond base -/
structure Sb (w : World) (base : Nat) (R : Option Addr) (m d : Nat) (l : List Int) : Prop where
  sl : Sl w R m d l
  at_ : ∀ b o s, R = some ⟨b, o, s⟩ → base ≤ b
theorem Got.sb {w : World} {base : Nat} {v : Value} {n : Nat} {l : List Int} (h : Got w base v n l) : ∃ A c, v = .slice A n c ∧ Sb w base A n c l := by
  obtain ⟨A, c, e, hs⟩ := h.sl
  subst e
  refine ⟨A, c, rfl, hs, fun b o s e => ?_⟩
  subst e
  rcases h.own.2 with ⟨h1, _⟩ | ⟨g, cap, cur, h1, hg, _⟩
  · cases h1
  · cases h1; exact hg
theorem Sb.none (w : World) (base : Nat) : Sb w base .none 0 0 [] := ⟨Sl.none w, fun _ _ _ e => by cases e⟩
theorem Sb.mono {w : World} {base base' : Nat} {R : Option Addr} {m d : Nat} {l : List Int} (h : Sb w base R m d l) (hb : base' ≤ base) : Sb w base' R m d l := ⟨h.sl, fun b o s e => Nat.le_trans hb (h.at_ b o s e)⟩
theorem Sb.keep {w w' : World} {base : Nat} {R : Option Addr} {m d : Nat} {l : List Int} (h : Sb w base R m d l) (hb : Below w.heap.size w w') : Sb w' base R m d l := ⟨h.sl.keep hb, h.at_⟩
theorem Sb.set {w : World} {base : Nat} {R : Option Addr} {m d : Nat} {l : List Int} (h : Sb w base R m d l) {p : Addr} (hp : p.block < base) (u : Value) : Sb (w.setCell p u) base R m d l := by
  refine ⟨⟨h.sl.le, h.sl.big, h.sl.nil, h.sl.rd.len, h.sl.rd.small, fun h0 => ?_⟩, h.at_⟩
  obtain ⟨b, o, e, hlt, hc⟩ := h.sl.rd.at_ h0
  have hge := h.at_ b o _ e
  refine ⟨b, o, e, Nat.lt_of_lt_of_le hlt ((Below.refl 0 w).setCell (Nat.zero_le _) u).size, fun i hi => ?_⟩
  rw [← hc i hi]
  exact World.cell?_of_block (w := w) (Below.heap_setCell w p u b (by omega))
end Go.Proofs.Ytggnhccpncgfiaa
namespace Go.Proofs.Ytggnhccpncgfiaa
open Go.RowKit
/-- the block B holds just these cells -/
def Bx (W : World) (B : Nat) (t : TypeId) (cs : List Value) : Prop := W.heap[B]? = some (.cells cs.toArray t (0, 0))
section
variable {W W' : World} {B n : Nat} {t : TypeId} {cs : List Value}
theorem Bx.lt (h : Bx W B t cs) : B < W.heap.size := (Array.getElem?_eq_some_iff.1 h).1
theorem Bx.cell (h : Bx W B t cs) (i : Nat) {v : Value} (hv : cs[i]? = some v) : W.cell? ⟨B, i, none⟩ = some v := by
  rw [cell_of_row W B i _ _ _ h]; simpa using hv
theorem Bx.free (h : Bx W B t cs) (i : Nat) : W.frozen? ⟨B, i, none⟩ = false := frozen_of_row W B i _ _ h
theorem Bx.new (W : World) (t : TypeId) (cs : List Value) : Bx (W.alloc (.cells cs.toArray t)) W.heap.size t cs := heap_alloc_new W _
theorem Bx.alloc (h : Bx W B t cs) (o : Obj) : Bx (W.alloc o) B t cs := (Below.heap_alloc W o B h.lt).trans h
theorem Bx.below (h : Bx W B t cs) (hb : Below n W W') (hk : B < n) : Bx W' B t cs := (hb.block B hk).trans h
theorem Bx.kept (h : Bx W B t cs) (hb : Below W.heap.size W W') : Bx W' B t cs := h.below hb h.lt
theorem Bx.far (h : Bx W B t cs) {p : Addr} (hp : B ≠ p.block) (u : Value) : Bx (W.setCell p u) B t cs := (Below.heap_setCell W p u B hp).trans h
theorem Bx.drew (h : Bx W B t cs) : Bx W.drew B t cs := h
theorem Bx.grown {row : Option Nat} (h : Bx W B t cs) (hg : W.grownBy W' row) (hne : some B ≠ row) : Bx W' B t cs := (hg.block B h.lt hne).trans h
theorem Bx.set (h : Bx W B t cs) (i : Nat) (x : Value) : Bx (W.setCell ⟨B, i, none⟩ x) B t (cs.set i x) := by
  unfold Bx; rw [heap_setCell_same W B i _ _ _ h]; simp
end
end Go.Proofs.Ytggnhccpncgfiaa
namespace Go.Proofs.Ytggnhccpncgfiaa
open Go.RowKit
def n64 (n : Int) : Prop := -9223372036854775808 ≤ n ∧ n ≤ 9223372036854775807
/-- the six slices of a receiver -/
structure Rcs where
  wa : Option Addr
  wn : Nat
  wc : Nat
  ga : Option Addr
  gn : Nat
  gc : Nat
  a0 : Option Addr
  n0 : Nat
  c0 : Nat
  a1 : Option Addr
  n1 : Nat
  c1 : Nat
  a2 : Option Addr
  n2 : Nat
  c2 : Nat
  a3 : Option Addr
  n3 : Nat
  c3 : Nat
def zrcs : Rcs := ⟨none, 0, 0, none, 0, 0, none, 0, 0, none, 0, 0, none, 0, 0, none, 0, 0⟩
def rcs (s : Rcs) (r : Rc) : List Value :=
  [.int .i64 r.w.base, .slice s.wa s.wn s.wc, .slice s.ga s.gn s.gc, .int .i64 r.w.cap, .int .i64 r.w.en,
   .slice s.a0 s.n0 s.c0, .int .i64 r.s0.m.pk, .int .i64 r.s0.m.bt, .int .i64 r.s0.m.ca, .int .i64 r.s0.m.md, .int .i64 r.s0.m.pt,
   .slice s.a1 s.n1 s.c1, .int .i64 r.s1.m.pk, .int .i64 r.s1.m.bt, .int .i64 r.s1.m.ca, .int .i64 r.s1.m.md, .int .i64 r.s1.m.pt,
   .slice s.a2 s.n2 s.c2, .int .i64 r.s2.m.pk, .int .i64 r.s2.m.bt, .int .i64 r.s2.m.ca, .int .i64 r.s2.m.md, .int .i64 r.s2.m.pt,
   .slice s.a3 s.n3 s.c3, .int .i64 r.s3.m.pk, .int .i64 r.s3.m.bt, .int .i64 r.s3.m.ca, .int .i64 r.s3.m.md, .int .i64 r.s3.m.pt]
structure MsW (m : Ms) : Prop where
  pk : n64 m.pk
  bt : n64 m.bt
  ca : n64 m.ca
  md : n64 m.md
  pt : n64 m.pt
structure RcW (r : Rc) : Prop where
  base : n64 r.w.base
  cap : n64 r.w.cap
  en : n64 r.w.en
  m0 : MsW r.s0.m
  m1 : MsW r.s1.m
  m2 : MsW r.s2.m
  m3 : MsW r.s3.m
/-- a slice whose block, where it is not empty, is one of p -/
def InP (p : Nat → Prop) (A : Option Addr) (n : Nat) : Prop := 0 < n → ∀ b o s, A = some ⟨b, o, s⟩ → p b
theorem InP.zero (p : Nat → Prop) (A : Option Addr) : InP p A 0 := fun h => absurd h (Nat.lt_irrefl 0)
theorem InP.imp {p q : Nat → Prop} {A : Option Addr} {n : Nat} (h : InP p A n) (hp : ∀ b, p b → q b) : InP q A n := fun h0 b o s e => hp b (h h0 b o s e)
theorem InP.all (A : Option Addr) (n : Nat) : InP (fun _ => True) A n := fun _ _ _ _ _ => trivial
/-- the value of a receiver whose six slices read as its lists; their blocks are of p -/
structure RcM (w : World) (p : Nat → Prop) (s : Rcs) (r : Rc) : Prop where
  b : Sl w s.wa s.wn s.wc r.w.b
  g : Ss w s.ga s.gn s.gc r.w.got
  g0 : Ss w s.a0 s.n0 s.c0 r.s0.got
  g1 : Ss w s.a1 s.n1 s.c1 r.s1.got
  g2 : Ss w s.a2 s.n2 s.c2 r.s2.got
  g3 : Ss w s.a3 s.n3 s.c3 r.s3.got
  wide : RcW r
  pb : InP p s.wa s.wn
  pg : InP p s.ga s.gn
  p0 : InP p s.a0 s.n0
  p1 : InP p s.a1 s.n1
  p2 : InP p s.a2 s.n2
  p3 : InP p s.a3 s.n3
section
variable {w w' : World} {p q : Nat → Prop} {s : Rcs} {r : Rc}
theorem RcM.keep (h : RcM w p s r) (hb : Below w.heap.size w w') : RcM w' p s r := ⟨h.b.keep hb, h.g.keep hb, h.g0.keep hb, h.g1.keep hb, h.g2.keep hb, h.g3.keep hb, h.wide, h.pb, h.pg, h.p0, h.p1, h.p2, h.p3⟩
theorem RcM.imp (h : RcM w p s r) (hp : ∀ b, p b → q b) : RcM w q s r := ⟨h.b, h.g, h.g0, h.g1, h.g2, h.g3, h.wide, h.pb.imp hp, h.pg.imp hp, h.p0.imp hp, h.p1.imp hp, h.p2.imp hp, h.p3.imp hp⟩
theorem RcM.alloc (h : RcM w p s r) (o : Obj) : RcM (w.alloc o) p s r := h.keep ((Below.refl _ _).alloc (Nat.le_refl _) o)
theorem RcM.drew (h : RcM w p s r) : RcM w.drew p s r := h.keep (Below.refl _ _).drew
theorem slp_grown {A : Option Addr} {n c : Nat} {l : List Int} {row : Option Nat} (h : Sl w A n c l) (hi : InP p A n) (hg : w.grownBy w' row) (hne : ∀ b, p b → row ≠ some b) : Sl w' A n c l := by
  refine ⟨h.le, h.big, h.nil, h.rd.len, h.rd.small, fun h0 => ?_⟩
  obtain ⟨b, o, e, hlt, hc⟩ := h.rd.at_ h0
  have hh := hg.block b hlt (fun e2 => hne b (hi h0 b o _ e) e2.symm)
  refine ⟨b, o, e, Nat.lt_of_lt_of_le hlt hg.size, fun i hi => ?_⟩
  rw [← hc i hi]
  exact World.cell?_of_block (w := w) hh
theorem ssp_grown {A : Option Addr} {n c : Nat} {l : List Sp} {row : Option Nat} (h : Ss w A n c l) (hi : InP p A n) (hg : w.grownBy w' row) (hne : ∀ b, p b → row ≠ some b) : Ss w' A n c l := by
  refine ⟨h.le, h.max, h.nil, h.rd.len, h.rd.wide, fun h0 => ?_⟩
  obtain ⟨b, o, e, hlt, hc⟩ := h.rd.at_ h0
  have hh := hg.block b hlt (fun e2 => hne b (hi h0 b o _ e) e2.symm)
  refine ⟨b, o, e, Nat.lt_of_lt_of_le hlt hg.size, fun i hi => ?_⟩
  rw [← (hc i hi).1, ← (hc i hi).2]
  exact ⟨World.cell?_of_block (w := w) hh, World.cell?_of_block (w := w) hh⟩
theorem RcM.grown {row : Option Nat} (h : RcM w p s r) (hg : w.grownBy w' row) (hne : ∀ b, p b → row ≠ some b) : RcM w' p s r :=
  ⟨slp_grown h.b h.pb hg hne, ssp_grown h.g h.pg hg hne, ssp_grown h.g0 h.p0 hg hne, ssp_grown h.g1 h.p1 hg hne, ssp_grown h.g2 h.p2 hg hne, ssp_grown h.g3 h.p3 hg hne, h.wide, h.pb, h.pg, h.p0, h.p1, h.p2, h.p3⟩
end
theorem n64_0 : n64 0 := by unfold n64; omega
theorem w_zrc : RcW zrc := ⟨n64_0, n64_0, n64_0, ⟨n64_0, n64_0, n64_0, n64_0, n64_0⟩, ⟨n64_0, n64_0, n64_0, n64_0, n64_0⟩, ⟨n64_0, n64_0, n64_0, n64_0, n64_0⟩, ⟨n64_0, n64_0, n64_0, n64_0, n64_0⟩⟩
theorem RcM.zero (w : World) (p : Nat → Prop) : RcM w p zrcs zrc := ⟨Sl.none _, Ss.none _, Ss.none _, Ss.none _, Ss.none _, Ss.none _, w_zrc, InP.zero _ _, InP.zero _ _, InP.zero _ _, InP.zero _ _, InP.zero _ _, InP.zero _ _⟩
theorem rcs_len (s : Rcs) (r : Rc) : (rcs s r).length = 29 := rfl
/-- the cells of a segment -/
def sgs (G : Option Addr) (m d : Nat) (A : Option Addr) (n c : Nat) (x : Sg) : List Value :=
  [.int .i64 x.kind, .int .i64 x.sub, .bool x.fin, .bool x.ecn, .int .u32 x.seq, .int .u32 x.dsn, .int .u32 x.got, .int .u32 x.dgot, .int .i64 x.win, .int .i64 x.ace, .int .u32 x.ce, .int .u32 x.sent, .int .u32 x.echo, .slice G m d, .slice A n c]
end Go.Proofs.Ytggnhccpncgfiaa
namespace Go.Proofs.Ytggnhccpncgfiaa
open Go.RowKit
theorem info_rv : (Try.prog.info? 32).map (·.size) = some 29 := by kernel_rfl
theorem rv_struct : ∃ fs, Try.prog.underlying 32 = some (.struct fs) := ⟨_, Try.underlying32⟩
section
variable {W : World} {B : Nat} {t : TypeId} {cs : List Value}
theorem rv_put (h : Bx W B t cs) (vs : List Value) : Bx (W.setRow B vs.toArray) B t vs := setRow_heap W B _ vs.toArray t (0, 0) h
theorem rv_grown (W : World) (B : Nat) (vs : Array Value) : W.grownBy (W.setRow B vs) (some B) :=
  ⟨rfl, rfl, rfl, by simp [World.setRow], fun i _ hne => setRow_other W B i vs (fun e => hne (by rw [e]))⟩
/-- one is loaded whole, in a plain region -/
theorem rv_load {ops : Array Oper} {rest : List Oper} {o : Oper} {a : Act} {Q : Exit → Act → World → Prop} (hgd : o.guard = none) (x : Operand) (ho : o.op = .load 32 x) (hx : a.eval x = .pointer (some ⟨B, 0, none⟩))
    (h : Bx W B t cs) (hl : cs.length = 29) (k : wpList Try.prog ops Q rest (a.put o.dst (.agg cs.toArray)) W) : wpList Try.prog ops Q (o :: rest) a W := by
  obtain ⟨fs, hu⟩ := rv_struct
  exact wpList_load_row hgd _ x ho B hx t cs.toArray (0, 0) _ h hu rfl (by rw [info_rv]; simp [hl]) k
/-- one is loaded whole under a guard that holds -/
theorem rv_loadg {ops : Array Oper} {rest : List Oper} {o : Oper} {a : Act} {Q : Exit → Act → World → Prop} (hw : Region.wanted o (yielded ops a.tmps) = true) (x : Operand) (ho : o.op = .load 32 x) (hx : a.eval x = .pointer (some ⟨B, 0, none⟩))
    (h : Bx W B t cs) (hl : cs.length = 29) (k : wpList Try.prog ops Q rest (a.put o.dst (.agg cs.toArray)) W) : wpList Try.prog ops Q (o :: rest) a W := by
  obtain ⟨fs, hu⟩ := rv_struct
  exact wpList_step fun K hK => by rw [if_pos hw]; exact wp_load_row _ x ho B hx t cs.toArray (0, 0) _ h hu rfl (by rw [info_rv]; simp [hl]) (hK _ _ k)
/-- one is stored whole -/
theorem rv_store {ops : Array Oper} {rest : List Oper} {o : Oper} {a : Act} {Q : Exit → Act → World → Prop} (hgd : o.guard = none) (x y : Operand) (ho : o.op = .store 32 x y) (hx : a.eval x = .pointer (some ⟨B, 0, none⟩))
    (vs : List Value) (hy : a.eval y = .agg vs.toArray) (h : Bx W B t cs) (hl : cs.length = 29) (hv : vs.length = 29) (h1 : vs.all (·.oneCell') = true) (k : wpList Try.prog ops Q rest (a.put o.dst undef) (W.setRow B vs.toArray)) : wpList Try.prog ops Q (o :: rest) a W :=
  wpList_store_row hgd _ x y ho B vs.toArray hx hy t cs.toArray h (by rw [info_rv]; simp [hv]) (by simp [hl, hv]) (by simpa using h1) k
theorem rv_var (h : Bx W B t cs) (hl : cs.length = 29) : (Go.loadVar 32 ⟨B, 0, none⟩).run Try.prog W = .ok (.agg cs.toArray) W := by
  obtain ⟨fs, hu⟩ := rv_struct
  exact run_loadVar_row W B t 32 cs.toArray (0, 0) _ h hu rfl (by rw [info_rv]; simp [hl])
/-- one is loaded whole, in a region that draws its order -/
theorem rv_yields {ops : Array Oper} {S : World → Prop} {op : Oper} {a : Act} (hw : Region.wanted op (yielded ops a.tmps) = true) (x : Operand) (ho : op.op = .load 32 x)
    (hx : a.eval x = .pointer (some ⟨B, 0, none⟩)) (cs : List Value) (hl : cs.length = 29) (t : TypeId) (hS : ∀ W, S W → Bx W B t cs) : YieldsIf Try.prog ops S op (.agg cs.toArray) a := by
  obtain ⟨fs, hu⟩ := rv_struct
  exact .inl ⟨hw, fun w hw' => by
    unfold execOp
    simp only [ho, hx, Instr.loadAt, Instr.sureAddr, Sem.run_bind, Sem.run_pure, Result.andThen_ok, run_loadVar_row w B t 32 cs.toArray (0, 0) _ (hS w hw') hu rfl (by rw [info_rv]; simp [hl])]⟩
variable {fn : Func} {tmps : Array Value} {R : Ending → World → Prop} {v u : Value} {ds : List Deferred} {p q r : Tmp}
/-- a box alone, a box and one or two slots: what a call hands back -/
theorem rv_end1 (hr : fn.results = #[.cell p 32]) (h2 : tmps.getD p undef = .pointer (some ⟨B, 0, none⟩))
    (e : Bx W B t cs) (hl : cs.length = 29) (hd : ds = []) (h : R (.returned (.agg cs.toArray)) W) : bodyPost Try.prog fn R .ret { tmps := tmps, defers := ds } W := by
  have l2 := rv_var e hl
  have h2a : tmps[p]?.getD undef = .pointer (some ⟨B, 0, none⟩) := by simpa using h2
  refine bodyPost_ret (v := .agg cs.toArray) ?_ hd h
  simp [results, hr, h2a, asAddr, l2]
theorem rv_end2 (hr : fn.results = #[.cell p 32, .tmp q]) (h2 : tmps.getD p undef = .pointer (some ⟨B, 0, none⟩)) (h3 : tmps.getD q undef = v)
    (e : Bx W B t cs) (hl : cs.length = 29) (hd : ds = []) (h : R (.returned (.tuple #[.agg cs.toArray, v])) W) : bodyPost Try.prog fn R .ret { tmps := tmps, defers := ds } W := by
  have l2 := rv_var e hl
  have h2a : tmps[p]?.getD undef = .pointer (some ⟨B, 0, none⟩) := by simpa using h2
  have h2b : tmps[q]?.getD undef = v := by simpa using h3
  refine bodyPost_ret (v := .tuple #[.agg cs.toArray, v]) ?_ hd h
  simp [results, hr, h2a, h2b, asAddr, l2]
theorem rv_end3 (hr : fn.results = #[.cell p 32, .tmp q, .tmp r]) (h2 : tmps.getD p undef = .pointer (some ⟨B, 0, none⟩)) (h3 : tmps.getD q undef = v) (h4 : tmps.getD r undef = u)
    (e : Bx W B t cs) (hl : cs.length = 29) (hd : ds = []) (h : R (.returned (.tuple #[.agg cs.toArray, v, u])) W) : bodyPost Try.prog fn R .ret { tmps := tmps, defers := ds } W := by
  have l2 := rv_var e hl
  have h2a : tmps[p]?.getD undef = .pointer (some ⟨B, 0, none⟩) := by simpa using h2
  have h2b : tmps[q]?.getD undef = v := by simpa using h3
  have h2c : tmps[r]?.getD undef = u := by simpa using h4
  refine bodyPost_ret (v := .tuple #[.agg cs.toArray, v, u]) ?_ hd h
  simp [results, hr, h2a, h2b, h2c, asAddr, l2]
end
theorem info_sg : (Try.prog.info? 36).map (·.size) = some 15 := by kernel_rfl
theorem sg_struct : ∃ fs, Try.prog.underlying 36 = some (.struct fs) := ⟨_, Try.underlying36⟩
section
variable {W : World} {B : Nat} {t : TypeId} {cs : List Value}
theorem sg_put (h : Bx W B t cs) (vs : List Value) : Bx (W.setRow B vs.toArray) B t vs := setRow_heap W B _ vs.toArray t (0, 0) h
theorem sg_grown (W : World) (B : Nat) (vs : Array Value) : W.grownBy (W.setRow B vs) (some B) :=
  ⟨rfl, rfl, rfl, by simp [World.setRow], fun i _ hne => setRow_other W B i vs (fun e => hne (by rw [e]))⟩
theorem sg_gset (W : World) (q : Addr) (u : Value) : W.grownBy (W.setCell q u) (some q.block) :=
  ⟨rfl, rfl, rfl, by simp, fun i hi hne => Below.heap_setCell W q u i (fun e => hne (by rw [e]))⟩
/-- one is loaded whole, in a plain region -/
theorem sg_load {ops : Array Oper} {rest : List Oper} {o : Oper} {a : Act} {Q : Exit → Act → World → Prop} (hgd : o.guard = none) (x : Operand) (ho : o.op = .load 36 x) (hx : a.eval x = .pointer (some ⟨B, 0, none⟩))
    (h : Bx W B t cs) (hl : cs.length = 15) (k : wpList Try.prog ops Q rest (a.put o.dst (.agg cs.toArray)) W) : wpList Try.prog ops Q (o :: rest) a W := by
  obtain ⟨fs, hu⟩ := sg_struct
  exact wpList_load_row hgd _ x ho B hx t cs.toArray (0, 0) _ h hu rfl (by rw [info_sg]; simp [hl]) k
/-- one is loaded whole under a guard that holds -/
theorem sg_loadg {ops : Array Oper} {rest : List Oper} {o : Oper} {a : Act} {Q : Exit → Act → World → Prop} (hw : Region.wanted o (yielded ops a.tmps) = true) (x : Operand) (ho : o.op = .load 36 x) (hx : a.eval x = .pointer (some ⟨B, 0, none⟩))
    (h : Bx W B t cs) (hl : cs.length = 15) (k : wpList Try.prog ops Q rest (a.put o.dst (.agg cs.toArray)) W) : wpList Try.prog ops Q (o :: rest) a W := by
  obtain ⟨fs, hu⟩ := sg_struct
  exact wpList_step fun K hK => by rw [if_pos hw]; exact wp_load_row _ x ho B hx t cs.toArray (0, 0) _ h hu rfl (by rw [info_sg]; simp [hl]) (hK _ _ k)
/-- one is stored whole -/
theorem sg_store {ops : Array Oper} {rest : List Oper} {o : Oper} {a : Act} {Q : Exit → Act → World → Prop} (hgd : o.guard = none) (x y : Operand) (ho : o.op = .store 36 x y) (hx : a.eval x = .pointer (some ⟨B, 0, none⟩))
    (vs : List Value) (hy : a.eval y = .agg vs.toArray) (h : Bx W B t cs) (hl : cs.length = 15) (hv : vs.length = 15) (h1 : vs.all (·.oneCell') = true) (k : wpList Try.prog ops Q rest (a.put o.dst undef) (W.setRow B vs.toArray)) : wpList Try.prog ops Q (o :: rest) a W :=
  wpList_store_row hgd _ x y ho B vs.toArray hx hy t cs.toArray h (by rw [info_sg]; simp [hv]) (by simp [hl, hv]) (by simpa using h1) k
theorem sg_var (h : Bx W B t cs) (hl : cs.length = 15) : (Go.loadVar 36 ⟨B, 0, none⟩).run Try.prog W = .ok (.agg cs.toArray) W := by
  obtain ⟨fs, hu⟩ := sg_struct
  exact run_loadVar_row W B t 36 cs.toArray (0, 0) _ h hu rfl (by rw [info_sg]; simp [hl])
variable {fn : Func} {tmps : Array Value} {R : Ending → World → Prop} {v u : Value} {ds : List Deferred} {p q r : Tmp}
/-- a box alone, a box and one or two slots: what a call hands back -/
theorem sg_end1 (hr : fn.results = #[.cell p 36]) (h2 : tmps.getD p undef = .pointer (some ⟨B, 0, none⟩))
    (e : Bx W B t cs) (hl : cs.length = 15) (hd : ds = []) (h : R (.returned (.agg cs.toArray)) W) : bodyPost Try.prog fn R .ret { tmps := tmps, defers := ds } W := by
  have l2 := sg_var e hl
  have h2a : tmps[p]?.getD undef = .pointer (some ⟨B, 0, none⟩) := by simpa using h2
  refine bodyPost_ret (v := .agg cs.toArray) ?_ hd h
  simp [results, hr, h2a, asAddr, l2]
theorem sg_end2 (hr : fn.results = #[.cell p 36, .tmp q]) (h2 : tmps.getD p undef = .pointer (some ⟨B, 0, none⟩)) (h3 : tmps.getD q undef = v)
    (e : Bx W B t cs) (hl : cs.length = 15) (hd : ds = []) (h : R (.returned (.tuple #[.agg cs.toArray, v])) W) : bodyPost Try.prog fn R .ret { tmps := tmps, defers := ds } W := by
  have l2 := sg_var e hl
  have h2a : tmps[p]?.getD undef = .pointer (some ⟨B, 0, none⟩) := by simpa using h2
  have h2b : tmps[q]?.getD undef = v := by simpa using h3
  refine bodyPost_ret (v := .tuple #[.agg cs.toArray, v]) ?_ hd h
  simp [results, hr, h2a, h2b, asAddr, l2]
end
theorem info_rmk : (Try.prog.info? 27).map (·.size) = some 5 := by kernel_rfl
theorem rmk_struct : ∃ fs, Try.prog.underlying 27 = some (.struct fs) := ⟨_, Try.underlying27⟩
section
variable {W : World} {B : Nat} {t : TypeId} {cs : List Value}
theorem rmk_put (h : Bx W B t cs) (vs : List Value) : Bx (W.setRow B vs.toArray) B t vs := setRow_heap W B _ vs.toArray t (0, 0) h
theorem rmk_grown (W : World) (B : Nat) (vs : Array Value) : W.grownBy (W.setRow B vs) (some B) :=
  ⟨rfl, rfl, rfl, by simp [World.setRow], fun i _ hne => setRow_other W B i vs (fun e => hne (by rw [e]))⟩
/-- one is loaded whole, in a plain region -/
theorem rmk_load {ops : Array Oper} {rest : List Oper} {o : Oper} {a : Act} {Q : Exit → Act → World → Prop} (hgd : o.guard = none) (x : Operand) (ho : o.op = .load 27 x) (hx : a.eval x = .pointer (some ⟨B, 0, none⟩))
    (h : Bx W B t cs) (hl : cs.length = 5) (k : wpList Try.prog ops Q rest (a.put o.dst (.agg cs.toArray)) W) : wpList Try.prog ops Q (o :: rest) a W := by
  obtain ⟨fs, hu⟩ := rmk_struct
  exact wpList_load_row hgd _ x ho B hx t cs.toArray (0, 0) _ h hu rfl (by rw [info_rmk]; simp [hl]) k
/-- one is stored whole -/
theorem rmk_store {ops : Array Oper} {rest : List Oper} {o : Oper} {a : Act} {Q : Exit → Act → World → Prop} (hgd : o.guard = none) (x y : Operand) (ho : o.op = .store 27 x y) (hx : a.eval x = .pointer (some ⟨B, 0, none⟩))
    (vs : List Value) (hy : a.eval y = .agg vs.toArray) (h : Bx W B t cs) (hl : cs.length = 5) (hv : vs.length = 5) (h1 : vs.all (·.oneCell') = true) (k : wpList Try.prog ops Q rest (a.put o.dst undef) (W.setRow B vs.toArray)) : wpList Try.prog ops Q (o :: rest) a W :=
  wpList_store_row hgd _ x y ho B vs.toArray hx hy t cs.toArray h (by rw [info_rmk]; simp [hv]) (by simp [hl, hv]) (by simpa using h1) k
variable {fn : Func} {tmps : Array Value} {R : Ending → World → Prop} {v u : Value} {ds : List Deferred} {p q r : Tmp}
end
theorem info_rwv : (Try.prog.info? 25).map (·.size) = some 5 := by kernel_rfl
theorem rwv_struct : ∃ fs, Try.prog.underlying 25 = some (.struct fs) := ⟨_, Try.underlying25⟩
section
variable {W : World} {B : Nat} {t : TypeId} {cs : List Value}
theorem rwv_put (h : Bx W B t cs) (vs : List Value) : Bx (W.setRow B vs.toArray) B t vs := setRow_heap W B _ vs.toArray t (0, 0) h
theorem rwv_grown (W : World) (B : Nat) (vs : Array Value) : W.grownBy (W.setRow B vs) (some B) :=
  ⟨rfl, rfl, rfl, by simp [World.setRow], fun i _ hne => setRow_other W B i vs (fun e => hne (by rw [e]))⟩
/-- one is loaded whole, in a plain region -/
theorem rwv_load {ops : Array Oper} {rest : List Oper} {o : Oper} {a : Act} {Q : Exit → Act → World → Prop} (hgd : o.guard = none) (x : Operand) (ho : o.op = .load 25 x) (hx : a.eval x = .pointer (some ⟨B, 0, none⟩))
    (h : Bx W B t cs) (hl : cs.length = 5) (k : wpList Try.prog ops Q rest (a.put o.dst (.agg cs.toArray)) W) : wpList Try.prog ops Q (o :: rest) a W := by
  obtain ⟨fs, hu⟩ := rwv_struct
  exact wpList_load_row hgd _ x ho B hx t cs.toArray (0, 0) _ h hu rfl (by rw [info_rwv]; simp [hl]) k
/-- one is stored whole -/
theorem rwv_store {ops : Array Oper} {rest : List Oper} {o : Oper} {a : Act} {Q : Exit → Act → World → Prop} (hgd : o.guard = none) (x y : Operand) (ho : o.op = .store 25 x y) (hx : a.eval x = .pointer (some ⟨B, 0, none⟩))
    (vs : List Value) (hy : a.eval y = .agg vs.toArray) (h : Bx W B t cs) (hl : cs.length = 5) (hv : vs.length = 5) (h1 : vs.all (·.oneCell') = true) (k : wpList Try.prog ops Q rest (a.put o.dst undef) (W.setRow B vs.toArray)) : wpList Try.prog ops Q (o :: rest) a W :=
  wpList_store_row hgd _ x y ho B vs.toArray hx hy t cs.toArray h (by rw [info_rwv]; simp [hv]) (by simp [hl, hv]) (by simpa using h1) k
theorem rwv_var (h : Bx W B t cs) (hl : cs.length = 5) : (Go.loadVar 25 ⟨B, 0, none⟩).run Try.prog W = .ok (.agg cs.toArray) W := by
  obtain ⟨fs, hu⟩ := rwv_struct
  exact run_loadVar_row W B t 25 cs.toArray (0, 0) _ h hu rfl (by rw [info_rwv]; simp [hl])
variable {fn : Func} {tmps : Array Value} {R : Ending → World → Prop} {v u : Value} {ds : List Deferred} {p q r : Tmp}
theorem rwv_end2 (hr : fn.results = #[.cell p 25, .tmp q]) (h2 : tmps.getD p undef = .pointer (some ⟨B, 0, none⟩)) (h3 : tmps.getD q undef = v)
    (e : Bx W B t cs) (hl : cs.length = 5) (hd : ds = []) (h : R (.returned (.tuple #[.agg cs.toArray, v])) W) : bodyPost Try.prog fn R .ret { tmps := tmps, defers := ds } W := by
  have l2 := rwv_var e hl
  have h2a : tmps[p]?.getD undef = .pointer (some ⟨B, 0, none⟩) := by simpa using h2
  have h2b : tmps[q]?.getD undef = v := by simpa using h3
  refine bodyPost_ret (v := .tuple #[.agg cs.toArray, v]) ?_ hd h
  simp [results, hr, h2a, h2b, asAddr, l2]
end
end Go.Proofs.Ytggnhccpncgfiaa
namespace Go.Proofs.Ytggnhccpncgfiaa
open Go.RowKit
/-- a type of k cells in a row -/
def IsR (ty : TypeId) (k : Nat) : Prop := (∃ d, Try.prog.underlying ty = some d ∧ d.isRow = true) ∧ (Try.prog.info? ty).map (·.size) = some k
theorem ir_receiver : IsR 32 29 := ⟨⟨_, Try.underlying32, rfl⟩, by kernel_rfl⟩
theorem ir_weave : IsR 25 5 := ⟨⟨_, Try.underlying25, rfl⟩, by kernel_rfl⟩
theorem ir_inlet : IsR 29 6 := ⟨⟨_, Try.underlying29, rfl⟩, by kernel_rfl⟩
theorem ir_marks : IsR 27 5 := ⟨⟨_, Try.underlying27, rfl⟩, by kernel_rfl⟩
theorem ir_seg : IsR 36 15 := ⟨⟨_, Try.underlying36, rfl⟩, by kernel_rfl⟩
/-- some cells of a list anew -/
def setAllR (cs : List Value) : Nat → List Value → List Value
  | _, [] => cs
  | o, v :: r => setAllR (cs.set o v) (o + 1) r
section
variable {W W' : World} {B : Nat} {t : TypeId} {cs : List Value}
theorem Bx.rangeR (h : Bx W B t cs) {o k : Nat} {vs : List Value} (hv : (cs.drop o).take k = vs) : W.rangeAt B o vs := fun j v hj => by
  rw [← hv, List.getElem?_take] at hj
  split at hj
  · rw [List.getElem?_drop] at hj
    exact h.cell (o + j) hj
  · cases hj
theorem Bx.thereR (h : Bx W B t cs) {o k : Nat} (hk : o + k ≤ cs.length) : W.there B o k := fun j hj =>
  ⟨by rw [h.cell (o + j) (List.getElem?_eq_getElem (by omega))]; rfl, h.free _⟩
theorem Bx.cellsR : ∀ (vs : List Value) {o : Nat} {W : World} {cs : List Value}, Bx W B t cs → Bx (W.setCells B o vs) B t (setAllR cs o vs)
  | [], _, _, _, h => h
  | v :: r, o, _, _, h => Bx.cellsR r (h.set o v)
theorem grown_cellsR : ∀ (vs : List Value) (o : Nat) (W : World), W.grownBy (W.setCells B o vs) (some B)
  | [], o, W => ⟨rfl, rfl, rfl, Nat.le_refl _, fun _ _ _ => rfl⟩
  | v :: r, o, W => by
    have h := grown_cellsR r (o + 1) (W.setCell ⟨B, o, none⟩ v)
    refine ⟨h.os, h.tape, h.output, Nat.le_trans (by simp) h.size, fun i hi hne => ?_⟩
    exact (h.block i (by simpa using hi) hne).trans (Below.heap_setCell W _ _ i (fun e => hne (by rw [e])))
variable {ty : TypeId} {k : Nat} {ops : Array Oper} {S : World → Prop} {op : Oper} {a : Act} {rest : List Oper} {Q : Exit → Act → World → Prop} {o : Nat} {vs : List Value}
/-- a struct in a box is loaded, in a region that draws its order -/
theorem rsub_y (hI : IsR ty k) (hw : Region.wanted op (yielded ops a.tmps) = true) (x : Operand) (ho : op.op = .load ty x) (hx : a.eval x = .pointer (some ⟨B, o, none⟩)) (hS : ∀ W, S W → Bx W B t cs) (hv : (cs.drop o).take k = vs) (hl : vs.length = k) :
    YieldsIf Try.prog ops S op (.agg vs.toArray) a := by
  obtain ⟨⟨d, hu, hd⟩, hi⟩ := hI
  exact yieldsIf_load_mid hw ty x ho B o hx vs d (fun w hw' => (hS w hw').rangeR hv) hu hd (by rw [hi, hl])
/-- the same in a plain region -/
theorem rsub_load (hI : IsR ty k) (hgd : op.guard = none) (x : Operand) (ho : op.op = .load ty x) (hx : a.eval x = .pointer (some ⟨B, o, none⟩)) (h : Bx W B t cs) (hv : (cs.drop o).take k = vs) (hl : vs.length = k)
    (kk : wpList Try.prog ops Q rest (a.put op.dst (.agg vs.toArray)) W) : wpList Try.prog ops Q (op :: rest) a W := by
  obtain ⟨⟨d, hu, hd⟩, hi⟩ := hI
  exact wpList_load_mid hgd ty x ho B o hx vs d (h.rangeR hv) hu hd (by rw [hi, hl]) kk
theorem rsub_loadg (hI : IsR ty k) (hw : Region.wanted op (yielded ops a.tmps) = true) (x : Operand) (ho : op.op = .load ty x) (hx : a.eval x = .pointer (some ⟨B, o, none⟩)) (h : Bx W B t cs) (hv : (cs.drop o).take k = vs) (hl : vs.length = k)
    (kk : wpList Try.prog ops Q rest (a.put op.dst (.agg vs.toArray)) W) : wpList Try.prog ops Q (op :: rest) a W := by
  obtain ⟨⟨d, hu, hd⟩, hi⟩ := hI
  exact wpList_step fun K hK => by rw [if_pos hw]; exact wp_load_mid ty x ho B o hx vs d (h.rangeR hv) hu hd (by rw [hi, hl]) (hK _ _ kk)
theorem rsub_store (hI : IsR ty k) (hgd : op.guard = none) (x y : Operand) (ho : op.op = .store ty x y) (hx : a.eval x = .pointer (some ⟨B, o, none⟩)) (vs : List Value) (hy : a.eval y = .agg vs.toArray) (h : Bx W B t cs) (hb : o + k ≤ cs.length) (hl : vs.length = k) (h1 : vs.all (·.oneCell') = true)
    (kk : wpList Try.prog ops Q rest (a.put op.dst undef) (W.setCells B o vs)) : wpList Try.prog ops Q (op :: rest) a W := by
  obtain ⟨⟨d, hu, hd⟩, hi⟩ := hI
  refine wpList_store_mid hgd ty x y ho B o vs.toArray hx hy ?_ (by rw [hi]; simp [hl]) (by simpa using h1) kk
  simpa [hl] using h.thereR hb
/-- a store of a struct that ends what is held of the world -/
theorem rsub_end {K : Act → World → Prop} (hI : IsR ty k) (hw : Region.wanted op (yielded ops a.tmps) = true) (x y : Operand) (ho : op.op = .store ty x y) (hx : a.eval x = .pointer (some ⟨B, o, none⟩)) (vs : List Value) (hy : a.eval y = .agg vs.toArray) (h : Bx W B t cs) (hb : o + k ≤ cs.length) (hl : vs.length = k) (h1 : vs.all (·.oneCell') = true)
    (kk : K (a.put op.dst undef) (W.setCells B o vs)) : if Region.wanted op (yielded ops a.tmps) = true then Oper.wp Try.prog op a W K Q else K (a.put op.dst undef) W := by
  rw [if_pos hw]
  obtain ⟨⟨d, hu, hd⟩, hi⟩ := hI
  refine wp_store_mid ty x y ho B o vs.toArray hx hy ?_ (by rw [hi]; simp [hl]) (by simpa using h1) kk
  simpa [hl] using h.thereR hb
end
/-- the cells of marks -/
def mcs (m : Ms) : List Value := [.int .i64 m.pk, .int .i64 m.bt, .int .i64 m.ca, .int .i64 m.md, .int .i64 m.pt]
end Go.Proofs.Ytggnhccpncgfiaa
namespace Go.Proofs.Ytggnhccpncgfiaa
open Go.RowKit Go.Shelf
attribute [local go_sem] Oper.semAt_some
set_option maxRecDepth 100000 in
set_option maxHeartbeats 2000000 in
theorem ends1_in (F : Fence) (n : Nat) (h7 : F.fn 100) (hro : F.round = none) (hn : 1 ≤ n) (r Bs b o len cap : Nat) (l : List Sp) (hl : l.length = len) (n₀ : Nat) (hb : b < n₀) (J Jx : List Sp → World → Prop) (hreach : len ≤ 1000000000)
    (W : World) (hn0 : n₀ ≤ W.heap.size) (hJ : AbidesFrom W.heap.size J)
    (hY : ∀ pre x W, J pre W → pre.length < len → YieldAt F (n - 1) Try.prog r #[.int .i64 x.1, .int .i64 x.2] W fun e W' =>
      (e = .returned (.bool true) ∧ J (pre ++ [x]) W' ∧ Below n₀ W W') ∨ (e = .returned (.bool false) ∧ Jx (pre ++ [x]) W'))
    (hBs : W.cell? ⟨Bs, 0, none⟩ = some (.slice (some ⟨b, o, none⟩) len cap))
    (hc : ∀ i, i < len → W.cell? ⟨b, o + i * 2, none⟩ = some (.int .i64 (sp l i).1) ∧ W.cell? ⟨b, o + i * 2 + 1, none⟩ = some (.int .i64 (sp l i).2)) (h0 : J [] W) :
    CallsIn F n Try.prog 100 #[.func (.yield r) #[] #[], .pointer (some ⟨Bs, 0, none⟩)] W fun e W' => (∃ v, e = .returned v) ∧
      ((∃ ys, ys = l ∧ J ys W') ∨ (∃ pre, (∃ k, k ≤ len ∧ pre = l.take k) ∧ Jx pre W')) := by
  refine callsIn_of_wp Try.func100 rfl h7 ?_ hro
  simp only [Try.ntmps100, List.size_toArray, List.length_cons, List.length_nil, Nat.reduceAdd, Nat.reduceSub, Array.replicate_succ, Array.replicate_zero, List.push_toArray, List.append_toArray, List.nil_append, List.cons_append]
  gi_wp2
  gi_loopw [7] (fun i wr => ∃ k : Nat, k ≤ len ∧ i = .int .i64 k ∧ J (l.take k) wr ∧ Below n₀ W wr)
    (fun i _ => len - (intOf i).toNat)
  case atStart => exact ⟨0, Nat.zero_le _, rfl, by simpa using h0, Below.refl _ _⟩
  case round =>
    obtain ⟨k, hk, rfl, hJs, hnx⟩ := hrel
    by_cases hlt : k < len
    · have c1 : wr.cell? ⟨b, o + k * 2, none⟩ = some (.int .i64 (sp l k).1) := (hnx.cell (p := ⟨b, o + k * 2, none⟩) hb).trans (hc k hlt).1
      have c2 : wr.cell? ⟨b, o + k * 2 + 1, none⟩ = some (.int .i64 (sp l k).2) := (hnx.cell (p := ⟨b, o + k * 2 + 1, none⟩) hb).trans (hc k hlt).2
      have hJa : J (l.take k) (wr.alloc (.cells #[.int .i64 (sp l k).1, .int .i64 (sp l k).2] 60)) := hJ _ wr _ none hJs (World.grownBy_alloc _ _ _) (fun r e => by cases e)
      obtain ⟨fn, tmps, assign, body, hy, hR⟩ := hY _ (sp l k) _ hJa (by rw [List.length_take]; omega)
      gi_wp2
      refine hR.mono ?_
      rintro e W3 (⟨rfl, hJ3, hk3⟩ | ⟨rfl, hJx3⟩)
      · gi_wp2
        go_roundw
        case rel => exact ⟨k + 1, by omega, by simp, by rw [take_sp (by omega)]; exact hJ3, hnx.trans (((Below.refl n₀ wr).alloc (by have := hnx.size; have := hn0; omega) _).trans hk3)⟩
        case measure => simp [intOf]; omega
      · gi_wp2
        refine bodyPost_ret (results_none rfl _ _ _) rfl ?_
        exact ⟨⟨_, rfl⟩, .inr ⟨_, ⟨k + 1, by omega, (take_sp (by omega)).symm⟩, hJx3⟩⟩
    · obtain rfl : k = len := by omega
      gi_wp2
      go_end0
      exact ⟨⟨_, rfl⟩, .inl ⟨_, rfl, by rw [← hl, List.take_length] at hJs; exact hJs⟩⟩
set_option maxRecDepth 100000 in
set_option maxHeartbeats 1000000 in
theorem ends10_in (F : Fence) (n : Nat) (h7 : F.fn 100) (hro : F.round = none) (r Bs cap : Nat) (A : Option Addr) (J : List Sp → World → Prop) (W : World) (hBs : W.cell? ⟨Bs, 0, none⟩ = some (.slice A 0 cap)) (h0 : J [] W) :
    CallsIn F n Try.prog 100 #[.func (.yield r) #[] #[], .pointer (some ⟨Bs, 0, none⟩)] W fun e W' => (∃ v, e = .returned v) ∧ J [] W' := by
  refine callsIn_of_wp Try.func100 rfl h7 ?_ hro
  simp only [Try.ntmps100, List.size_toArray, List.length_cons, List.length_nil, Nat.reduceAdd, Nat.reduceSub, Array.replicate_succ, Array.replicate_zero, List.push_toArray, List.append_toArray, List.nil_append, List.cons_append]
  gi_wp2
  gi_loopw [7] (fun i wr => i = .int .i64 0 ∧ J [] wr) (fun _ _ => 0)
  case atStart => exact ⟨rfl, h0⟩
  case round =>
    obtain ⟨rfl, hJs⟩ := hrel
    gi_wp2
    go_end0
    exact ⟨⟨_, rfl⟩, hJs⟩
set_option maxHeartbeats 1000000 in
theorem ends_in (F : Fence) (n : Nat) (h5 : F.fn 80) (hro : F.round = none) (a : Option Addr) (len cap : Nat) (w : World) :
    CallsIn F n Try.prog 80 #[.slice a len cap] w fun e w' => e = .returned (.func (.func 100) #[] #[.pointer (some ⟨w.heap.size, 0, none⟩)]) ∧ w' = w.alloc (.cells #[.slice a len cap] 23) := by
  refine callsIn_of_wp Try.func80 rfl h5 ?_ hro
  simp only [Try.ntmps80, List.size_toArray, List.length_cons, List.length_nil, Nat.reduceAdd, Nat.reduceSub, Array.replicate_succ, Array.replicate_zero, List.push_toArray, List.append_toArray, List.nil_append, List.cons_append]
  gi_wp2
  go_ret
  exact ⟨rfl, rfl⟩
theorem ends_stops (F : Fence) (n : Nat) (h7 : F.fn 100) (hro : F.round = none) (hn : 1 ≤ n) (Bs n₀ : Nat) (A : Option Addr) (len cap : Nat) (l : List Sp) (hreach : len ≤ 1000000000) (w : World) (hBs : Bs < w.heap.size) (hn₀ : n₀ ≤ w.heap.size)
    (hc : w.cell? ⟨Bs, 0, none⟩ = some (.slice A len cap)) (hI : Rs w A len l) (hlt : ∀ b o, A = some ⟨b, o, none⟩ → 0 < len → b < n₀) :
    SeqStopsK F n Try.prog 100 #[.pointer (some ⟨Bs, 0, none⟩)] (fun x : Sp => #[Value.int .i64 x.1, Value.int .i64 x.2]) (Below n₀) (fun ys => ys = l)
      (fun pre => ∃ k, k ≤ len ∧ pre = l.take k) len w := fun r J Jx W hW hJ _ hY h0 => by
  have hc' := (hW.cell (p := ⟨Bs, 0, none⟩) hBs).trans hc
  have hI' := hI.keep_of (hW.mono hn₀) hlt
  rcases Nat.eq_zero_or_pos len with hz | hz
  · subst hz
    have hl0 : l = [] := List.eq_nil_of_length_eq_zero hI.len
    exact (ends10_in F n h7 hro r Bs cap A J W hc' h0).mono fun e W' ⟨he, hj⟩ => ⟨he, .inl ⟨_, hl0.symm, hj⟩⟩
  · obtain ⟨b, o, rfl, _, hcs⟩ := hI'.at_ hz
    exact ends1_in F n h7 hro hn r Bs b o len cap l hI.len n₀ (hlt b o rfl hz) J Jx hreach W (Nat.le_trans hn₀ hW.size) hJ hY hc' hcs h0
end Go.Proofs.Ytggnhccpncgfiaa
