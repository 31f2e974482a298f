/- PackTurned's walk: it answers true at every input where the package's variables hold what its text lays; nothing that was there is written. -/
import Derived.Test.YtakmiafloolpmaaDoorPCuts
namespace Go.Proofs.YtakmiafloolpmaaDoor
open Go.RowKit
set_option maxRecDepth 20000

theorem rowL_copy {w1 u w0 : World} {B n cc : Nat} {v' : Value} {f : Nat → Int} (h : w1.ownsRow B 5 1 v' (0 + n) ([] ++ cel .u8 n f)) (hn : 0 < n) (hg : u.grownBy w1 (Value.slice (some ⟨B, 0, none⟩) 0 cc).ownBlock) (h0 : Gr w0 u) (hB : w0.heap.size ≤ B) (hb : ∀ i, i < n → 0 ≤ f i ∧ f i ≤ 255) :
    ∃ g c, v' = .slice (some ⟨g, 0, none⟩) n c ∧ OwnB w1 w0.heap.size g n c f ∧ Gr w0 w1 := by
  rw [Nat.zero_add, List.nil_append] at h
  rcases h.2 with ⟨_, h0'⟩ | ⟨g, cap, cur, rfl, hb', r⟩
  · omega
  · refine ⟨g, cap, rfl, ⟨own_mono h hB, hb⟩, Gr.grown h0 hg ?_⟩
    intro k hk
    simp [Value.ownBlock] at hk
    omega

theorem wrap8 (n : Int) : IntKind.u8.wrap n = n % 256 := by simp [IntKind.wrap, IntKind.bits, IntKind.signed]
theorem xor8_eq (a b : Int) : bits .xor .u8 a b = IntKind.u8.wrap ((BitVec.ofInt 8 a ^^^ BitVec.ofInt 8 b).toNat : Int) := rfl
theorem xor8_bd (a b : Int) : 0 ≤ bits .xor .u8 a b ∧ bits .xor .u8 a b ≤ 255 := by
  rw [xor8_eq, wrap8]
  omega
theorem xor8_zero {a : Int} (h : 0 ≤ a ∧ a ≤ 255) : bits .xor .u8 a 0 = a := by
  obtain ⟨k, rfl⟩ : ∃ k : Nat, a = k := ⟨a.toNat, by omega⟩
  have h1 : (BitVec.ofInt 8 (k : Int)).toNat = k := by
    rw [BitVec.ofInt_natCast, BitVec.toNat_ofNat]; exact Nat.mod_eq_of_lt (by omega)
  have h2 : (BitVec.ofInt 8 0).toNat = 0 := by decide
  rw [xor8_eq, BitVec.toNat_xor, h1, h2, Nat.xor_zero, wrap8]
  omega
theorem sameTB_of {W H : Int} {n m : Nat} {f g : Nat → Int} (h1 : n = m) (h : ∀ i, i < n → f i = g i) : sameTB W H n f W H m g = true := by simp [sameTB, sameB, h1]; intro i hi; exact h i (by omega)
theorem sameB_of {n m : Nat} {f g : Nat → Int} (h1 : n = m) (h : ∀ i, i < n → f i = g i) : sameB n f m g = true := (sameB_iff _ _ _ _).2 ⟨h1, h⟩

end Go.Proofs.YtakmiafloolpmaaDoor
