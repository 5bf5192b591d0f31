/- Package keep: Shut, Part as contracts of the calls. -/
import Derived.Test.YtmnedaholdacnaaProg
import Derived.Test.YtmnedaholdacnaaKeB
import Derived.WalkKit
import Derived.WalkSpells
import Derived.WalkSmall
import Derived.Lib.Hide
import Derived.Below
import Derived.Outline
import Derived.Deep.RegionHeld3
namespace Go.Proofs.Ytmnedaholdacnaa
open Go.RowKit

def zk : Kp := ⟨0, [], 0, false⟩
def shutR (k : Kp) : Kp × Int := if kmay k = true then (⟨k.base, k.l, k.cap, true⟩, 0) else (zk, 1)
def partR (k : Kp) (p n : Int) : List Int := if kmay k = true ∧ k.base ≤ p ∧ 0 ≤ n then (k.l.drop (p - k.base).toNat).take n.toNat else []
def ackR (k : Kp) (u : Int) : Kp × Int := if kmay k = true then (if k.base + k.l.length < u then (zk, 3) else (⟨max k.base u, k.l.drop (u - k.base).toNat, k.cap, k.sh⟩, 0)) else (zk, 1)
def room (k : Kp) (n : Nat) : Nat := min n (min (k.cap - k.l.length).toNat (2305843009213693952 - (k.base + k.l.length)).toNat)
def writeR (k : Kp) (b : List Int) : Kp × Int × Int := if kmay k = true then (if k.sh = true then (zk, 0, 9) else (⟨k.base, k.l ++ b.take (room k b.length), k.cap, false⟩, (room k b.length : Nat), 0)) else (zk, 0, 1)

/-- what a call tells that hands back a buffer and an error -/
def Told2 (w w' : World) (e : Ending) (x : Kp × Int) : Prop := ∃ R m d, e = .returned (.tuple #[.agg #[.int .i64 x.1.base, .slice R m d, .int .i64 x.1.cap, .bool x.1.sh], .int .i64 x.2]) ∧ Sb w' w.heap.size R m d x.1.l ∧ Below w.heap.size w w'

set_option maxHeartbeats 1000000 in
theorem shut_any (base : Int) (A : Option Addr) (n c : Nat) (cap : Int) (sh : Bool) (l : List Int) (w : World) (hs : Sl w A n c l) (hn : n ≤ 140737488355328) :
    Calls Try.prog 14 #[.agg #[.int .i64 base, .slice A n c, .int .i64 cap, .bool sh]] w fun e w' => Told2 w w' e (shutR ⟨base, l, cap, sh⟩) := by
  unfold Told2
  obtain ⟨B, hB⟩ : ∃ B, w.heap.size = B := ⟨_, rfl⟩
  have e0 := (Boxed4.new w 24 (.int .i64 base) (.slice A n c) (.int .i64 cap) (.bool sh)).alloc (.cells #[.int .i64 0, .slice none 0 0, .int .i64 0, .bool false] 24)
  have r0 := Boxed4.new (w.alloc (.cells #[.int .i64 base, .slice A n c, .int .i64 cap, .bool sh] 24)) 24 (.int .i64 0) (.slice none 0 0) (.int .i64 0) (.bool false)
  have hb : Below w.heap.size w ((w.alloc (.cells #[.int .i64 base, .slice A n c, .int .i64 cap, .bool sh] 24)).alloc (.cells #[.int .i64 0, .slice none 0 0, .int .i64 0, .bool false] 24)) := ((Below.refl _ _).alloc (Nat.le_refl _) _).alloc (by simp) _
  rw [World.size_alloc] at r0
  rw [hB] at e0 r0 hb
  obtain ⟨w0, hw0⟩ : ∃ w0, (w.alloc (.cells #[.int .i64 base, .slice A n c, .int .i64 cap, .bool sh] 24)).alloc (.cells #[.int .i64 0, .slice none 0 0, .int .i64 0, .bool false] 24) = w0 := ⟨_, rfl⟩
  rw [hw0] at e0 r0 hb
  have g0 := e0.c0
  have g1 := e0.c1
  have g2 := e0.c2
  have g3 := e0.c3
  have hsk : ∀ {w' : World}, Below B w w' → Sl w' A n c l := fun h => hs.keep (by rw [hB]; exact h)
  have hm := may_any base A n c cap sh l w0 hs.rd.len hn
  cases hk : kmay ⟨base, l, cap, sh⟩ with
  | false =>
    have he : shutR ⟨base, l, cap, sh⟩ = (zk, 1) := by unfold shutR; rw [hk]; rfl
    rw [he]
    rw [hk] at hm
    clear hk
    go_enter Try.func14, Try.ntmps14
    rw [hB]
    go_wp2_with (refine hm.mono ?_; rintro e w1 ⟨rfl, hb1⟩; have r1 := r0.kept hb1; have f0 := r1.free 0; have f1 := r1.free 1; have f2 := r1.free 2; have f3 := r1.free 3; have x0 := r1.c0; have x1 := r1.c1; have x2 := r1.c2; have x3 := r1.c3)
    have rz := r1.set (.int .i64 0) (.slice none 0 0) (.int .i64 0) (.bool false)
    have y0 := rz.c0
    have y1 := rz.c1
    have y2 := rz.c2
    have y3 := rz.c3
    have b1 := hb.trans (hb1.mono (Nat.le_of_lt e0.lt))
    have b2 := ((((b1.setCell (p := ⟨B + 1, 0, none⟩) (by simp) (.int .i64 0)).setCell (p := ⟨B + 1, 1, none⟩) (by simp) (.slice none 0 0)).setCell (p := ⟨B + 1, 2, none⟩) (by simp) (.int .i64 0)).setCell (p := ⟨B + 1, 3, none⟩) (by simp) (.bool false))
    exact bodyPost_ret (v := .tuple #[.agg #[.int .i64 0, .slice none 0 0, .int .i64 0, .bool false], .int .i64 1]) (by simp [results, Try.results14, go_sem, y0, y1, y2, y3]) rfl ⟨none, 0, 0, rfl, Sb.none _ _, b2⟩
  | true =>
    have he : shutR ⟨base, l, cap, sh⟩ = (⟨base, l, cap, true⟩, 0) := by unfold shutR; rw [hk]; rfl
    have hk' := kmay_iff.1 hk
    simp only [hs.rd.len] at hk'
    obtain ⟨k2, k3, k4, k0, k1⟩ := hk'
    have hn1 : n ≤ 1000000 := by omega
    rw [he]
    rw [hk] at hm
    clear hk k0 k1 k2 k3 k4
    go_enter Try.func14, Try.ntmps14
    rw [hB]
    go_wp2_with (first
      | (go_at_call 19; refine hm.mono ?_; rintro e w1 ⟨rfl, hb1⟩; have e1 := e0.kept hb1; have r1 := r0.kept hb1; have b1 := hb.trans (hb1.mono (Nat.le_of_lt e0.lt)); have x0 := e1.c0; have x1 := e1.c1)
      | (go_at_call 26; refine (clone_any _ _ _ l _ (hsk b1) hn1).mono ?_; rintro e w2 ⟨R, d, rfl, s2, hb2⟩; have e2 := e1.kept hb2; have r2 := r1.kept hb2; have b2 := b1.trans (hb2.mono (Nat.le_of_lt e1.lt)); have q1 := e2.c1; have q3 := e2.free 1; have e3 := e2.set1 (.slice R n d); have e3c := e3.c3; have e3f := e3.free 3; have e4 := e3.set3 (.bool true); have u0 := e4.c0; have u1 := e4.c1; have u2 := e4.c2; have u3 := e4.c3; have r4 := (r2.far (p := ⟨B, 1, none⟩) (by simp) (.slice R n d)).far (p := ⟨B, 3, none⟩) (by simp) (.bool true); have v0 := r4.c0; have v1 := r4.c1; have v2 := r4.c2; have v3 := r4.c3; have vf0 := r4.free 0; have vf1 := r4.free 1; have vf2 := r4.free 2; have vf3 := r4.free 3))
    have hr2 := r1.lt
    have rz := r4.set (.int .i64 base) (.slice R n d) (.int .i64 cap) (.bool true)
    have y0 := rz.c0
    have y1 := rz.c1
    have y2 := rz.c2
    have y3 := rz.c3
    have b3 := ((((((b2.setCell (p := ⟨B, 1, none⟩) (by simp) (.slice R n d)).setCell (p := ⟨B, 3, none⟩) (by simp) (.bool true)).setCell (p := ⟨B + 1, 0, none⟩) (by simp) (.int .i64 base)).setCell (p := ⟨B + 1, 1, none⟩) (by simp) (.slice R n d)).setCell (p := ⟨B + 1, 2, none⟩) (by simp) (.int .i64 cap)).setCell (p := ⟨B + 1, 3, none⟩) (by simp) (.bool true))
    exact bodyPost_ret (v := .tuple #[.agg #[.int .i64 base, .slice R n d, .int .i64 cap, .bool true], .int .i64 0]) (by simp [results, Try.results14, go_sem, y0, y1, y2, y3]) rfl ⟨R, n, d, rfl, ((((((s2.set (p := ⟨B, 1, none⟩) (by simp; omega) (.slice R n d)).set (p := ⟨B, 3, none⟩) (by simp; omega) (.bool true)).set (p := ⟨B + 1, 0, none⟩) hr2 (.int .i64 base)).set (p := ⟨B + 1, 1, none⟩) hr2 (.slice R n d)).set (p := ⟨B + 1, 2, none⟩) hr2 (.int .i64 cap)).set (p := ⟨B + 1, 3, none⟩) hr2 (.bool true)).mono (Nat.le_of_lt e1.lt), b3⟩
end Go.Proofs.Ytmnedaholdacnaa
