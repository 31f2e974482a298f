/- The law's few: at most 24 numbers. No condition. -/
import Derived.Test.YtigoehoaplndiaaXTold9
import Derived.Test.YtigoehoaplndiaaXSeeds9
import Derived.Test.YtigoehoaplndiaaTRowI
namespace Go.Proofs.Ytigoehoaplndiaa
open Go.RowKit
set_option maxRecDepth 20000

theorem IsRow.room {k : IntKind} {w : World} {a : Option Addr} {len cap : Nat} {zs : List Int} (h : IsRow k w a len cap zs) : len ≤ cap ∧ cap ≤ maxLen := by
  rcases h with ⟨rfl, rfl, rfl, rfl⟩ | ⟨x, rfl, hl, hm, hz, hc, hw⟩
  · exact ⟨Nat.le_refl _, Nat.zero_le _⟩
  · exact ⟨hl, hm⟩
theorem plain_own {w : World} {base n c k : Nat} {e : TypeId} {a : Option Addr} {xs : List Value} (h : w.ownsRow base e k (.slice a n c) n xs) : a = none ∨ ∃ b o, a = some ⟨b, o, none⟩ := by
  rcases h.2 with ⟨e, _⟩ | ⟨g, cap, cur, e, _⟩
  · cases e; exact .inl rfl
  · cases e; exact .inr ⟨g, 0, rfl⟩
theorem sls_own {w : World} {base n c : Nat} {a : Option Addr} {L : List Sd} (h : w.ownsRow base 39 3 (.slice a n c) n (flatS L)) (hl : L.length = n) : SlS w a n c L := by
  obtain ⟨a', c', e, h'⟩ := SlS.of_own h hl
  cases e
  exact h'
set_option maxHeartbeats 1000000 in
theorem few9_any (a : Option Addr) (n c : Nat) (z : Nat → Int) (w : World) (h : SlI w a n z) (hc : n ≤ c) (hm : c ≤ maxLen) (ha : a = none → n = 0 ∧ c = 0) :
    Calls Try.prog 12 #[.slice a n c] w fun e w' => (∃ k, k ≤ 24 ∧ k ≤ n ∧ e = .returned (.slice a k c) ∧ SlI w' a k z) ∧ Gr w w' := by
  unfold maxLen at hm
  have hi : ∀ k, k ≤ n → SlI w a k z := fun k hk => by
    rcases h with h | ⟨b, o, e, hb, hcell⟩
    · exact .inl (by omega)
    · exact .inr ⟨b, o, e, hb, fun i hi => hcell i (by omega)⟩
  have HI := hide hi
  clear hi h
  cases a with
  | none =>
    obtain ⟨rfl, rfl⟩ := ha rfl
    go_enter Try.func12, Try.ntmps12
    go_wp2_with fail
    go_ret
    exact ⟨⟨0, by omega, by omega, rfl, HI.out 0 (Nat.le_refl _)⟩, Gr.refl _⟩
  | some x =>
    clear ha
    by_cases h24 : n ≤ 24
    · have e : min (n : Int) 24 = (n : Int) := by omega
      have n0 : (0 : Int) ≤ (n : Int) := by omega
      have nc : (n : Int) ≤ (c : Int) := by omega
      go_enter Try.func12, Try.ntmps12
      go_wp2_with fail
      go_ret
      exact ⟨⟨n, h24, Nat.le_refl _, rfl, HI.out n (Nat.le_refl _)⟩, Gr.refl _⟩
    · have e : min (n : Int) 24 = 24 := by omega
      have nc : (24 : Int) ≤ (c : Int) := by omega
      go_enter Try.func12, Try.ntmps12
      go_wp2_with fail
      go_ret
      exact ⟨⟨24, Nat.le_refl _, by omega, rfl, HI.out 24 (by omega)⟩, Gr.refl _⟩
end Go.Proofs.Ytigoehoaplndiaa
