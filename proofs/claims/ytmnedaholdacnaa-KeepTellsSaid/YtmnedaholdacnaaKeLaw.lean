/- The laws of package keep: the answers where a buffer is not valid. -/
import Derived.Test.YtmnedaholdacnaaKeWrite
import Derived.Test.YtmnedaholdacnaaKeIn
import Derived.Test.YtmnedaholdacnaaKeSame
namespace Go.Proofs.Ytmnedaholdacnaa

theorem write_bad {k : Kp} (h : kmay k = false) (b : List Int) : writeR k b = (⟨0, [], 0, false⟩, 0, 1) := by unfold writeR; rw [h]; rfl
theorem ack_bad {k : Kp} (h : kmay k = false) (u : Int) : ackR k u = (⟨0, [], 0, false⟩, 1) := by unfold ackR; rw [h]; rfl
theorem shut_bad {k : Kp} (h : kmay k = false) : shutR k = (⟨0, [], 0, false⟩, 1) := by unfold shutR; rw [h]; rfl
theorem part_bad {k : Kp} (h : kmay k = false) (p n : Int) : partR k p n = [] := by unfold partR; rw [h]; rfl
theorem end_bad {k : Kp} (h : kmay k = false) : kend k = 0 := by unfold kend; rw [h]; rfl
theorem Boxed4.drew {W : World} {B : Nat} {t : TypeId} {a b c d : Value} (h : Boxed4 W B t a b c d) : Boxed4 W.drew B t a b c d := h
theorem kmay_sh {x y : Int} {l : List Int} {s : Bool} (b : Bool) (h : kmay ⟨x, l, y, s⟩ = true) : kmay ⟨x, l, y, b⟩ = true := h
theorem shut_ok {x y : Int} {l : List Int} {s : Bool} (h : kmay ⟨x, l, y, s⟩ = true) : shutR ⟨x, l, y, s⟩ = (⟨x, l, y, true⟩, 0) := by unfold shutR; rw [if_pos h]
theorem write_shut {x y : Int} {l : List Int} {s : Bool} (h : kmay ⟨x, l, y, s⟩ = true) (b : List Int) : writeR ⟨x, l, y, true⟩ b = (⟨0, [], 0, false⟩, 0, 9) := by
  unfold writeR; rw [if_pos (kmay_sh true h)]; rfl
theorem ack_none {x y : Int} {l : List Int} {s : Bool} (b : Bool) (h : kmay ⟨x, l, y, s⟩ = true) {u : Int} (hu : x + l.length < u) : ackR ⟨x, l, y, b⟩ u = (⟨0, [], 0, false⟩, 3) := by
  unfold ackR; rw [if_pos (kmay_sh b h), if_pos hu]; rfl
theorem ack_ok {x y : Int} {l : List Int} {s : Bool} (b : Bool) (h : kmay ⟨x, l, y, s⟩ = true) {u : Int} (hu : ¬ (x + l.length < u)) : ackR ⟨x, l, y, b⟩ u = (⟨max x u, l.drop (u - x).toNat, y, b⟩, 0) := by
  unfold ackR; rw [if_pos (kmay_sh b h), if_neg hu]
theorem end_ok {x y : Int} {l : List Int} {s : Bool} (b : Bool) (h : kmay ⟨x, l, y, s⟩ = true) : kend ⟨x, l, y, b⟩ = x + l.length := by unfold kend; rw [if_pos (kmay_sh b h)]
end Go.Proofs.Ytmnedaholdacnaa
