/- WhereAll's arithmetic: how many cells the first sectors have. No condition beyond the size's bounds. -/
import Derived.Test.YtleoiibeaaagjaaWMath
namespace Go.Proofs.Ytleoiibeaaagjaa

def cntF (x y k : Int) : Int := min (16 * (k / acrossF x)) y * x + thF x y k * min (16 * (k % acrossF x)) x
theorem cnt_zero {x y : Int} (m : mayB x y = true) : cntF x y 0 = 0 := by
  obtain ⟨m1, m2, m3, m4⟩ := (mayB_iff x y).1 m
  unfold cntF
  rw [Int.zero_ediv, Int.zero_emod]
  have a : min (16 * (0 : Int)) y = 0 := by omega
  have b : min (16 * (0 : Int)) x = 0 := by omega
  rw [a, b]; simp
theorem cnt_all {x y : Int} (m : mayB x y = true) : cntF x y (acrossF x * acrossF y) = x * y := by
  obtain ⟨m1, m2, m3, m4⟩ := (mayB_iff x y).1 m
  have a := across_bd m1 m2
  have b := across_bd m3 m4
  unfold cntF
  rw [Int.mul_ediv_cancel_left _ (by omega), Int.mul_emod_right]
  have c : min (16 * acrossF y) y = y := by omega
  have d : min (16 * (0 : Int)) x = 0 := by omega
  rw [c, d, Int.mul_zero, Int.add_zero, Int.mul_comm]
theorem cnt_succ {x y k : Int} (hk : isSectorB x y k = true) : cntF x y (k + 1) = cntF x y k + twF x k * thF x y k := by
  obtain ⟨m, k0, k1⟩ := (isSectorB_iff x y k).1 hk
  obtain ⟨m1, m2, m3, m4⟩ := (mayB_iff x y).1 m
  have a := across_bd m1 m2
  have b := across_bd m3 m4
  obtain ⟨q0, q1, r0, r1, e⟩ := sector_bd hk
  have hth : thF x y k = min (y - k / acrossF x * 16) 16 := rfl
  have htw : twF x k = min (x - k % acrossF x * 16) 16 := rfl
  by_cases h : k % acrossF x + 1 < acrossF x
  · have r := rowcol (tw := acrossF x) (th := acrossF y) (X := k % acrossF x + 1) (Y := k / acrossF x) (by omega) h r0 r1
    have e1 : k / acrossF x * acrossF x + (k % acrossF x + 1) = k + 1 := by omega
    rw [e1] at r
    have t1 : thF x y (k + 1) = thF x y k := by unfold thF; rw [r.2.2.2]
    unfold cntF
    rw [t1, r.2.2.1, r.2.2.2]
    have u1 : twF x k = 16 := by omega
    have u2 : min (16 * (k % acrossF x + 1)) x = min (16 * (k % acrossF x)) x + 16 := by omega
    rw [u1, u2, Int.mul_add, Int.mul_comm 16 (thF x y k)]
    omega
  · have e1 : (k / acrossF x + 1) * acrossF x = k / acrossF x * acrossF x + acrossF x := by rw [Int.add_mul, Int.one_mul]
    have e2 : k + 1 = acrossF x * (k / acrossF x + 1) := by rw [Int.mul_comm]; omega
    unfold cntF
    rw [e2, Int.mul_ediv_cancel_left _ (by omega), Int.mul_emod_right]
    have u1 : min (16 * (k / acrossF x + 1)) y = min (16 * (k / acrossF x)) y + thF x y k := by omega
    have u2 : min (16 * (0 : Int)) x = 0 := by omega
    have u3 : min (16 * (k % acrossF x)) x + twF x k = x := by omega
    rw [u1, u2, Int.mul_zero, Int.add_zero, Int.add_mul, Int.add_assoc, Int.mul_comm (twF x k), ← Int.mul_add, u3]
theorem cnt_bd {x y k : Int} (m : mayB x y = true) (k0 : 0 ≤ k) (k1 : k ≤ acrossF x * acrossF y) : 0 ≤ cntF x y k ∧ cntF x y k ≤ 2097152 := by
  obtain ⟨m1, m2, m3, m4⟩ := (mayB_iff x y).1 m
  have a := across_bd m1 m2
  by_cases h : k = acrossF x * acrossF y
  · rw [h, cnt_all m]; have := may_mul m; omega
  · have hk := (isSectorB_iff x y k).2 ⟨m, k0, by omega⟩
    obtain ⟨q0, q1, r0, r1, e⟩ := sector_bd hk
    have sb := size_bd hk
    unfold cntF
    have p1 := mul_bd (w := min (16 * (k / acrossF x)) y) (h := x) (W := 1024) (H := 1024) (by omega) (by omega) (by omega) (by omega)
    have p2 := mul_bd (w := thF x y k) (h := min (16 * (k % acrossF x)) x) (W := 1024) (H := 1024) (by omega) (by omega) (by omega) (by omega)
    omega

end Go.Proofs.Ytleoiibeaaagjaa
