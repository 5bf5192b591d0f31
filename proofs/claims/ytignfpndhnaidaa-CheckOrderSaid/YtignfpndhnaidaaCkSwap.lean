/- Package check: what the second sum is, and two bytes that change places. No program. -/
import Derived.Test.YtignfpndhnaidaaCkDiff
namespace Go.Proofs.Ytignfpndhnaidaa
open Go.RowKit

/-- each byte as often as it is told: the last one once -/
def wt : List Int → Int
  | [] => 0
  | c :: l => ((l.length : Int) + 1) * c + wt l
theorem run_snd (l : List Int) : ∀ (x y : Int), (run (x % 65521, y % 65521) l).2 = (y + (l.length : Int) * x + wt l) % 65521 := by
  induction l with
  | nil => intro x y; show y % 65521 = (y + ((0 : Nat) : Int) * x + 0) % 65521; simp
  | cons c l ih =>
    intro x y
    have e : run (x % 65521, y % 65521) (c :: l) = run (stp (x % 65521, y % 65521) c) l := rfl
    have e2 : stp (x % 65521, y % 65521) c = ((x + c) % 65521, (y + (x + c)) % 65521) := by
      unfold stp; simp only [Prod.mk.injEq]; omega
    rw [e, e2, ih]
    show _ = (y + ((l.length + 1 : Nat) : Int) * x + (((l.length : Int) + 1) * c + wt l)) % 65521
    have h1 : (l.length : Int) * (x + c) = (l.length : Int) * x + (l.length : Int) * c := Int.mul_add _ _ _
    have h2 : ((l.length + 1 : Nat) : Int) * x = (l.length : Int) * x + x := by rw [show ((l.length + 1 : Nat) : Int) = (l.length : Int) + 1 by omega, Int.add_mul, Int.one_mul]
    have h3 : ((l.length : Int) + 1) * c = (l.length : Int) * c + c := by rw [Int.add_mul, Int.one_mul]
    rw [h1, h2, h3]
    congr 1
    omega
theorem adler_snd (l : List Int) : adler l / 65536 = ((l.length : Int) + wt l) % 65521 := by
  have h := run_snd l 1 0
  have h1 : ((1 : Int) % 65521, (0 : Int) % 65521) = (1, 0) := rfl
  rw [h1, Int.mul_one, Int.zero_add] at h
  have hr := run_res res1 l
  unfold Res at hr
  unfold adler
  omega
theorem wt_set : ∀ (l : List Int) (i : Nat) (z : Int), i < l.length → wt (l.set i z) = wt l + ((l.length : Int) - (i : Int)) * (z - byt l i)
  | [], i, z, h => by simp at h
  | c :: l, 0, z, _ => by
    rw [List.set_cons_zero]
    show ((l.length : Int) + 1) * z + wt l = ((l.length : Int) + 1) * c + wt l + (((l.length + 1 : Nat) : Int) - ((0 : Nat) : Int)) * (z - c)
    rw [show ((l.length + 1 : Nat) : Int) - ((0 : Nat) : Int) = (l.length : Int) + 1 by omega, Int.mul_sub]
    omega
  | c :: l, i + 1, z, h => by
    rw [List.set_cons_succ]
    have ih := wt_set l i z (by simpa using h)
    show (((l.set i z).length : Int) + 1) * c + wt (l.set i z) = ((l.length : Int) + 1) * c + wt l + (((l.length + 1 : Nat) : Int) - ((i + 1 : Nat) : Int)) * (z - byt l i)
    rw [ih, List.length_set, show ((l.length + 1 : Nat) : Int) - ((i + 1 : Nat) : Int) = (l.length : Int) - (i : Int) by omega]
    omega

/-- two bytes that change places have another sum, unless that comes round -/
theorem swapped {l : List Int} {i k : Nat} (hik : i < k) (hk : k < l.length) (h : ((byt l i - byt l k) * ((k : Int) - (i : Int))).tmod 65521 ≠ 0) : adler ((l.set i (byt l k)).set k (byt l i)) ≠ adler l := by
  intro he
  apply h
  have e1 := adler_snd ((l.set i (byt l k)).set k (byt l i))
  have e2 := adler_snd l
  have e3 := wt_set (l.set i (byt l k)) k (byt l i) (by rw [List.length_set]; exact hk)
  have e4 := wt_set l i (byt l k) (by omega)
  rw [byt_set_ne _ (by omega)] at e3
  rw [List.length_set] at e3
  rw [List.length_set, List.length_set, e3, e4] at e1
  rw [he, e2] at e1
  obtain ⟨p, hp⟩ : ∃ p, byt l i - byt l k = p := ⟨_, rfl⟩
  have hp' : byt l k - byt l i = -p := by omega
  rw [hp, hp'] at e1
  rw [hp]
  have m1 : ((l.length : Int) - (i : Int)) * -p = -((l.length : Int) * p) + (i : Int) * p := by rw [Int.mul_neg, Int.sub_mul]; omega
  have m2 : ((l.length : Int) - (k : Int)) * p = (l.length : Int) * p - (k : Int) * p := Int.sub_mul _ _ _
  have m3 : p * ((k : Int) - (i : Int)) = (k : Int) * p - (i : Int) * p := by rw [Int.mul_comm, Int.sub_mul]
  rw [m1, m2] at e1
  rw [m3]
  have hd : (65521 : Int) ∣ (k : Int) * p - (i : Int) * p := by
    apply Int.dvd_of_emod_eq_zero
    omega
  exact Int.tmod_eq_zero_of_dvd hd
theorem prod_bd {a b : Int} (h0 : -255 ≤ a) (h1 : a ≤ 255) (h2 : 0 ≤ b) (h3 : b ≤ 3000) : -765000 ≤ a * b ∧ a * b ≤ 765000 := by
  have u := Int.mul_le_mul_of_nonneg_right h1 h2
  have v := Int.mul_le_mul_of_nonneg_right h0 h2
  omega
end Go.Proofs.Ytignfpndhnaidaa
