/- What tally.Add answers: the sum of two counts, 2^64 - 1 at most; the statements' example. Conditions: the counts are numbers of 64 bits. -/
import Derived.Test.YtgbadbkipaccgaaGreatBW
import Derived.Laws.BitsAllLaws
namespace Go.Proofs.YtgbadbkipaccgaaGreat
open Go.RowKit

/-- a count: a number of 64 bits -/
def U (a : Int) : Prop := 0 ≤ a ∧ a ≤ 18446744073709551615
def addF (a b : Int) : Int := if a + b ≤ 18446744073709551615 then a + b else 18446744073709551615
theorem addF_u {a b : Int} (ha : U a) (hb : U b) : U (addF a b) := by
  unfold U at *
  unfold addF
  split <;> omega
theorem addF_comm (a b : Int) : addF a b = addF b a := by
  unfold addF
  rw [Int.add_comm]
theorem addF_le {a b : Int} (ha : U a) (hb : U b) : a ≤ addF a b ∧ b ≤ addF a b := by
  unfold U at *
  unfold addF
  split <;> omega

theorem u_wf {n : Int} (h : (Lit.int .u64 n).wf = true) : U n := by
  simp [Lit.wf, IntKind.min, IntKind.max, IntKind.signed, IntKind.bits] at h
  unfold U
  omega

set_option maxHeartbeats 400000 in
theorem add_any (a b : Int) (w : World) (ha : U a) (hb : U b) :
    Calls Tryz.prog 40 #[.int .u64 a, .int .u64 b] w fun e w' => e = .returned (.int .u64 (addF a b)) ∧ w' = w := by
  unfold U at ha hb
  by_cases h : a ≤ 18446744073709551615 - b
  · have H : Hid (addF a b = a + b) := hide (by unfold addF; rw [if_pos (by omega)])
    go_enter Tryz.func40, Tryz.ntmps40
    go_wp2
    go_ret
    exact ⟨ret_int H.out.symm, rfl⟩
  · have H : Hid (addF a b = 18446744073709551615) := hide (by unfold addF; rw [if_neg (by omega)])
    go_enter Tryz.func40, Tryz.ntmps40
    go_wp2
    go_ret
    exact ⟨ret_int H.out.symm, rfl⟩

theorem u64_not (b : Int) (hb : U b) : bits .xor .u64 18446744073709551615 b = 18446744073709551615 - b := by
  unfold U at hb
  obtain ⟨B, rfl⟩ := Int.eq_ofNat_of_zero_le hb.1
  show IntKind.u64.wrap ((BitVec.ofInt 64 18446744073709551615 ^^^ BitVec.ofInt 64 (B : Int)).toNat : Int) = _
  have h1 : BitVec.ofInt 64 18446744073709551615 = BitVec.allOnes 64 := by decide
  rw [h1, BitVec.allOnes_xor, BitVec.toNat_not, ofInt_u64 B (by omega), IntKind.wrap_u64]
  omega

end Go.Proofs.YtgbadbkipaccgaaGreat
