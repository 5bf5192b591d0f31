/- The laws of package keep: the answers where a buffer is not valid. -/
import Derived.Test.YtmnedaholdacnaaKeWrite
import Derived.Test.YtmnedaholdacnaaKeIn
namespace Go.Proofs.Ytmnedaholdacnaa

theorem write_bad {k : Kp} (h : kmay k = false) (b : List Int) : writeR k b = (⟨0, [], 0, false⟩, 0, 1) := by unfold writeR; rw [h]; rfl
theorem ack_bad {k : Kp} (h : kmay k = false) (u : Int) : ackR k u = (⟨0, [], 0, false⟩, 1) := by unfold ackR; rw [h]; rfl
theorem shut_bad {k : Kp} (h : kmay k = false) : shutR k = (⟨0, [], 0, false⟩, 1) := by unfold shutR; rw [h]; rfl
theorem part_bad {k : Kp} (h : kmay k = false) (p n : Int) : partR k p n = [] := by unfold partR; rw [h]; rfl
theorem end_bad {k : Kp} (h : kmay k = false) : kend k = 0 := by unfold kend; rw [h]; rfl
end Go.Proofs.Ytmnedaholdacnaa
