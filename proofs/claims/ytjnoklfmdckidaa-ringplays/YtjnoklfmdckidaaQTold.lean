/- Rings of the call's own: the law's told, RingJumps' and RingNone's walks. No condition. -/
import Derived.Test.YtjnoklfmdckidaaQPop
namespace Go.Proofs.Ytjnoklfmdckidaa
open Go.RowKit
set_option maxRecDepth 20000

/-- a ring at p that lies above all that was there in w0 -/
def Mine (w0 w : World) (p : Nat) (a : Int) (L : List (Int × Int)) : Prop := ∃ FP, Rg w p FP a L ∧ (∀ b, FP b → w0.heap.size ≤ b) ∧ Gr w0 w
theorem Mine.g {w0 w : World} {p : Nat} {a : Int} {L : List (Int × Int)} (h : Mine w0 w p a L) : Gr w0 w := by
  obtain ⟨FP, h1, h2, h3⟩ := h
  exact h3
theorem Mine.gr {w0 w w' : World} {p : Nat} {a : Int} {L : List (Int × Int)} (h : Mine w0 w p a L) (g : Gr w w') : Mine w0 w' p a L := by
  obtain ⟨FP, h1, h2, h3⟩ := h
  exact ⟨FP, h1.gr g, h2, h3.trans g⟩
theorem Mine.ge {w0 w : World} {p : Nat} {a : Int} {L : List (Int × Int)} (h : Mine w0 w p a L) : w0.heap.size ≤ p := by
  obtain ⟨FP, h1, h2, h3⟩ := h
  exact h2 p h1.fp
theorem mnew {w0 w : World} (hg : Gr w0 w) (a : Int) (h0 : 0 ≤ a) (h1 : a ≤ 1099511627776) :
    Calls Try.prog 9 #[.int .i64 a] w fun e w' => (∃ p, e = .returned (.pointer (some ⟨p, 0, none⟩)) ∧ Mine w0 w' p a []) := by
  refine (qnew_yes a w h0 h1).mono ?_
  rintro e w' ⟨rfl, hr, _, hg'⟩
  exact ⟨_, rfl, _, hr, fun b hb => by rw [hb]; exact Below.size hg, hg.trans hg'⟩
theorem mput {w0 w : World} {p : Nat} {a : Int} {L : List (Int × Int)} (h : Mine w0 w p a L) (k x : Int) (hk1 : a ≤ k) (hk2 : k ≤ a + 255) (hL : L.length ≤ 1000000) (ha : a ≤ 4611686018427387904) :
    Calls Try.prog 11 #[.pointer (some ⟨p, 0, none⟩), .int .i64 k, .int .i64 x] w fun e w' => e = .returned (.bool true) ∧ Mine w0 w' p a (L ++ [(k, x)]) := by
  obtain ⟨FP, h1, h2, h3⟩ := h
  refine (qput_yes h1 k x hk1 hk2 hL ha).mono ?_
  rintro e w' ⟨rfl, ⟨FP', hr, hfp⟩, hk⟩
  refine ⟨rfl, FP', hr, fun b hb => ?_, hk.gr h3 h2⟩
  rcases hfp b hb with hb | hb
  · exact h2 b hb
  · exact Nat.le_trans (Below.size h3) hb
theorem mput_no {w0 w : World} {p : Nat} {a : Int} {L : List (Int × Int)} (h : Mine w0 w p a L) (k x : Int) (hk : k < a ∨ a + 255 < k) (hb : k ≤ 9223372036854775807) :
    Calls Try.prog 11 #[.pointer (some ⟨p, 0, none⟩), .int .i64 k, .int .i64 x] w fun e w' => e = .returned (.bool false) ∧ Mine w0 w' p a L := by
  have H := h
  obtain ⟨FP, h1, h2, h3⟩ := h
  refine (qput_no h1 k x hk hb).mono ?_
  rintro e w' ⟨rfl, rfl⟩
  exact ⟨rfl, H⟩
theorem mpop {w0 w : World} {p : Nat} {a : Int} {L : List (Int × Int)} (h : Mine w0 w p a L) (ha : a ≤ 4611686018427387904) {m : Nat} {k x : Int} (hf : FirstMin L m k x) (hL : L.length ≤ 1000000) :
    Calls Try.prog 13 #[.pointer (some ⟨p, 0, none⟩)] w fun e w' => e = .returned (.tuple #[.int .i64 k, .int .i64 x, .bool true]) ∧ Mine w0 w' p k (L.eraseIdx m) := by
  obtain ⟨FP, h1, h2, h3⟩ := h
  refine (qpop_yes h1 ha hf hL).mono ?_
  rintro e w' ⟨rfl, hr, hk⟩
  exact ⟨rfl, FP, hr, h2, hk.gr h3 h2⟩
theorem mpop_no {w0 w : World} {p : Nat} {a : Int} (h : Mine w0 w p a []) :
    Calls Try.prog 13 #[.pointer (some ⟨p, 0, none⟩)] w fun e w' => e = .returned (.tuple #[.int .i64 0, .int .i64 0, .bool false]) ∧ Mine w0 w' p a [] := by
  have H := h
  obtain ⟨FP, h1, h2, h3⟩ := h
  refine (qpop_no h1).mono ?_
  rintro e w' ⟨rfl, rfl⟩
  exact ⟨rfl, H⟩
theorem mlen {w0 w : World} {p : Nat} {a : Int} {L : List (Int × Int)} (h : Mine w0 w p a L) :
    Calls Try.prog 18 #[.pointer (some ⟨p, 0, none⟩)] w fun e w' => e = .returned (.int .i64 (L.length : Int)) ∧ Mine w0 w' p a L := by
  have H := h
  obtain ⟨FP, h1, h2, h3⟩ := h
  refine (qlen_any h1).mono ?_
  rintro e w' ⟨rfl, rfl⟩
  exact ⟨rfl, H⟩
theorem mat {w0 w : World} {p : Nat} {a : Int} {L : List (Int × Int)} (h : Mine w0 w p a L) :
    Calls Try.prog 17 #[.pointer (some ⟨p, 0, none⟩)] w fun e w' => e = .returned (.int .i64 a) ∧ Mine w0 w' p a L := by
  have H := h
  obtain ⟨FP, h1, h2, h3⟩ := h
  refine (qat_any h1).mono ?_
  rintro e w' ⟨rfl, rfl⟩
  exact ⟨rfl, H⟩
theorem mjump {w0 w : World} {p : Nat} {a : Int} (h : Mine w0 w p a []) (k : Int) (h1 : a ≤ k) (h2 : k ≤ 1099511627776) :
    Calls Try.prog 15 #[.pointer (some ⟨p, 0, none⟩), .int .i64 k] w fun e w' => e = .returned (.bool true) ∧ Mine w0 w' p k [] := by
  obtain ⟨FP, h3, h4, h5⟩ := h
  refine (qjump_yes h3 k h1 h2).mono ?_
  rintro e w' ⟨rfl, hr, hk⟩
  exact ⟨rfl, FP, hr, h4, hk.gr h5 h4⟩
theorem mjump_no {w0 w : World} {p : Nat} {a : Int} {L : List (Int × Int)} (h : Mine w0 w p a L) (k : Int) (hk : 0 < L.length ∨ k < a ∨ 1099511627776 < k) :
    Calls Try.prog 15 #[.pointer (some ⟨p, 0, none⟩), .int .i64 k] w fun e w' => e = .returned (.bool false) ∧ Mine w0 w' p a L := by
  have H := h
  obtain ⟨FP, h3, h4, h5⟩ := h
  by_cases hl : 0 < L.length
  · refine (qjump_full h3 k hl).mono ?_
    rintro e w' ⟨rfl, rfl⟩
    exact ⟨rfl, H⟩
  · obtain rfl : L = [] := List.eq_nil_of_length_eq_zero (by omega)
    refine (qjump_no h3 k (by rcases hk with hk | hk; exact absurd hk hl; exact hk)).mono ?_
    rintro e w' ⟨rfl, rfl⟩
    exact ⟨rfl, H⟩

theorem told_first : FirstMin [(12, 1), (10, 2), (12, 3)] 1 10 2 := by
  refine ⟨rfl, by simp, fun j e hj he => ?_⟩
  obtain rfl : j = 0 := by omega
  simp only [List.getElem?_cons_zero, Option.some.injEq] at he
  subst he
  simp
set_option maxHeartbeats 1000000 in
theorem told7_any (w : World) : Calls Try.prog 10 #[] w fun e w' => e = .returned (.bool true) ∧ Gr w w' := by
  go_enter Try.func10, Try.ntmps10
  go_wp2_with fail
  refine (mnew (Gr.refl w) 10 (by omega) (by omega)).mono ?_
  rintro e w1 ⟨p, rfl, hM⟩
  go_wp2_with fail
  refine (mput hM 12 1 (by omega) (by omega) (by simp) (by omega)).mono ?_
  clear hM
  rintro e w2 ⟨rfl, hM⟩
  go_wp2_with fail
  refine (mput hM 10 2 (by omega) (by omega) (by simp) (by omega)).mono ?_
  clear hM
  rintro e w3 ⟨rfl, hM⟩
  go_wp2_with fail
  refine (mput hM 12 3 (by omega) (by omega) (by simp) (by omega)).mono ?_
  clear hM
  rintro e w4 ⟨rfl, hM⟩
  go_wp2_with fail
  refine (mput_no hM 9 4 (by omega) (by omega)).mono ?_
  clear hM
  rintro e w5 ⟨rfl, hM⟩
  go_wp2_with fail
  refine (mpop hM (by omega) told_first (by simp)).mono ?_
  clear hM
  rintro e w6 ⟨rfl, hM⟩
  go_wp2_with fail
  refine (mlen hM).mono ?_
  clear hM
  rintro e w7 ⟨rfl, hM⟩
  go_wp2_with fail
  go_ret
  exact ⟨rfl, hM.g⟩
end Go.Proofs.Ytjnoklfmdckidaa
