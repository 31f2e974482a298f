/- What Get answers of what Put wrote, whole, cut, with more behind it; maps of numbers may be; told. -/
import Derived.Test.YtakmiafloolpmaaDoorAGet3
namespace Go.Proofs.YtakmiafloolpmaaDoor
open Go.RowKit
set_option maxRecDepth 20000

theorem aget_code (k : Int) (a : Option Addr) (B cap : Nat) (b : Nat → Int) (ga : Nat → Addr) (w : World) (h : Sl w a B b) (hw : Glob w ga) (hc : B ≤ cap) (hcm : cap ≤ maxLen) (hB7 : B ≤ 1000000) (hk : k ≠ 0) (hr : getM B b = (k, [])) :
    Calls Tryd.prog 23 #[.slice a B cap] w fun e w' => e = .returned (.tuple #[.agg #[.int .i64 0, .int .i64 0, .slice none 0 0], .int .i64 k]) ∧ Gr w w' := by
  refine (aget_any a B cap b ga w h hw hc hcm hB7).mono ?_
  rintro e w1 ⟨⟨v, rfl, hv⟩, hg⟩
  unfold GetsM at hv
  rw [hr] at hv
  rcases hv with ⟨hz, _⟩ | ⟨_, rfl⟩
  · exact absurd hz hk
  · exact ⟨rfl, hg⟩
theorem aget_back (W H : Int) (N : Nat) (f : Nat → Int) (a : Option Addr) (cap : Nat) (ga : Nat → Addr) (w : World) (hm : mayM W H N f = true) (hf : ∀ i, i < N → 0 ≤ f i ∧ f i ≤ 255) (h : Sl w a (putM W H f).length (at0 (putM W H f))) (hw : Glob w ga) (hc : (putM W H f).length ≤ cap) (hcm : cap ≤ maxLen) (hB7 : (putM W H f).length ≤ 1000000) :
    Calls Tryd.prog 23 #[.slice a (putM W H f).length cap] w fun e w' => (∃ g, e = .returned (.tuple #[.agg #[.int .i64 W, .int .i64 H, .slice (some ⟨g, 0, none⟩) N N], .int .i64 0]) ∧ Sl w' (some ⟨g, 0, none⟩) N f) ∧ Gr w w' := by
  obtain ⟨q1, q2⟩ := getM_put (B := (putM W H f).length) (b := at0 (putM W H f)) hm hf (fun j _ _ => rfl)
  rw [if_neg (by omega), if_pos rfl] at q1
  obtain ⟨hmb, hN, -⟩ := (mayM_iff _ _ _ _).1 hm
  obtain ⟨p1, -, -⟩ := putS_byte hm hf (cntS W H) (Nat.le_refl _)
  obtain ⟨e1, e2⟩ := q2 (by unfold putM; omega)
  refine (aget_any a _ cap _ ga w h hw hc hcm hB7).mono ?_
  rintro e w1 ⟨⟨v, rfl, hv⟩, hg⟩
  unfold GetsM at hv
  rw [q1, e1, e2] at hv
  rcases hv with ⟨-, g, N', rfl, hN', -, hs⟩ | ⟨hz, _⟩
  · have : N' = N := by omega
    subst this
    exact ⟨⟨g, rfl, hs.congr fun i hi => join_tiles hmb hN hi⟩, hg⟩
  · exact absurd rfl hz
theorem madeM_may {x y : Int} {n N : Nat} {f : Nat → Int} (hf : ∀ i, i < n → 0 ≤ f i ∧ f i ≤ 255) (hN : (N : Int) = withinF x 1 40 * withinF y 1 40) : mayM (withinF x 1 40) (withinF y 1 40) N (madeF n f) = true := by
  have xb := within_bd x 1 40 (by omega)
  have yb := within_bd y 1 40 (by omega)
  rw [mayM_iff, mayB_iff]
  exact ⟨by omega, hN, fun i _ => by have := madeF_bd hf i; omega⟩
theorem made_len {W H : Int} {N : Nat} {f : Nat → Int} (h : mayM W H N f = true) (hf : ∀ i, i < N → 0 ≤ f i ∧ f i ≤ 255) : 6 ≤ (putM W H f).length ∧ (putM W H f).length ≤ 1100000 ∧ ∀ x ∈ putM W H f, 0 ≤ x ∧ x ≤ 255 := by
  obtain ⟨hmb, -, -⟩ := (mayM_iff _ _ _ _).1 h
  have hc := cntS_eq hmb
  obtain ⟨p1, p2, p3⟩ := putS_byte h hf (cntS W H) (Nat.le_refl _)
  unfold putM
  exact ⟨by omega, by omega, p3⟩
/-- a map of numbers has at most nine sectors -/
theorem made_small {W H : Int} {N : Nat} {f : Nat → Int} (h : mayM W H N f = true) (hf : ∀ i, i < N → 0 ≤ f i ∧ f i ≤ 255) (hW : W ≤ 40) (hH : H ≤ 40) : (putM W H f).length ≤ 3000 := by
  obtain ⟨hmb, -, -⟩ := (mayM_iff _ _ _ _).1 h
  obtain ⟨m1, m2, m3, m4⟩ := (mayB_iff _ _).1 hmb
  have hc := cntS_eq hmb
  have h1 := across_bd m1 m2
  have h2 := across_bd m3 m4
  have := mul_bd (w := acrossF W) (h := acrossF H) (W := 3) (H := 3) (by omega) (by omega) (by omega) (by omega)
  obtain ⟨p1, p2, p3⟩ := putS_byte h hf (cntS W H) (Nat.le_refl _)
  unfold putM
  omega

/-- the told map: one cell, cost 5 -/
def t5 : Nat → Int := fun i => [(5 : Int)].getD i 0
theorem told_may : mayM 1 1 1 t5 = true := by decide
theorem told_put : putM 1 1 t5 = [1, 0, 1, 0, 0, 5] := by
  have hc : cntS 1 1 = 1 := by decide
  have hp : partL 1 1 t5 0 = [0, 5] := by
    have ht : tnF 1 1 0 = 1 := by decide
    have hg : tileF 1 0 t5 0 = 5 := by decide
    have h1 : cntF 1 (tileF 1 0 t5) 0 = 1 := (cnt_one (by omega)).2 (fun i hi => by rw [show i = 0 by omega])
    unfold partL putL
    rw [ht, if_pos h1, hg]
  unfold putM
  rw [hc]
  show headL 1 1 ++ partL 1 1 t5 0 = _
  rw [hp]
  decide

end Go.Proofs.YtakmiafloolpmaaDoor
