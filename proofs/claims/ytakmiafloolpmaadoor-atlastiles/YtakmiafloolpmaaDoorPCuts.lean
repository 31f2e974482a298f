/- PackCuts' walk: it answers true at every input where the package's variables hold what its text lays; nothing that was there is written. -/
import Derived.Test.YtakmiafloolpmaaDoorDGet2
import Derived.Deep.CutRange
namespace Go.Proofs.YtakmiafloolpmaaDoor
open Go.RowKit
set_option maxRecDepth 20000

theorem Sl.take {w : World} {a : Option Addr} {n m : Nat} {f : Nat → Int} (h : Sl w a n f) (hm : m ≤ n) : Sl w a m f := by
  refine ⟨fun i hi => h.byte i (by omega), ?_⟩
  rcases h.has with h0 | ⟨b, o, rfl, hb, hc⟩
  · exact .inl (by omega)
  · exact .inr ⟨b, o, rfl, hb, fun i hi => hc i (by omega)⟩
theorem get_err (k : Int) (a : Option Addr) (B cap : Nat) (W H : Int) (n : Nat) (b : Nat → Int) (ga : Nat → Addr) (w : World) (h : Sl w a B b) (hw : Glob w ga) (hc : B ≤ cap) (hcm : cap ≤ maxLen) (hB7 : B ≤ 1000000) (hW : 1 ≤ W ∧ W ≤ 16) (hH : 1 ≤ H ∧ H ≤ 16) (hn : (n : Int) = W * H) (hk : k ≠ 0) (hr : getL n B b = (k, [], 0)) :
    Calls Tryd.prog 65 #[.slice a B cap, .int .i64 W, .int .i64 H] w fun e w' => e = .returned (.tuple #[.agg #[.int .i64 0, .int .i64 0, .slice none 0 0], .int .i64 0, .int .i64 k]) ∧ Gr w w' := by
  have q := get_any a B cap W H n b ga w h hw hc hcm hB7 hW hH hn
  rw [hr] at q
  refine q.mono ?_
  rintro e w1 ⟨⟨v, rfl, hv⟩, hg⟩
  rcases hv with ⟨hz, _⟩ | ⟨_, rfl⟩
  · exact absurd hz hk
  · exact ⟨rfl, hg⟩
theorem get_ok (L : List Int) (u : Nat) (a : Option Addr) (B cap : Nat) (W H : Int) (n : Nat) (b : Nat → Int) (ga : Nat → Addr) (w : World) (h : Sl w a B b) (hw : Glob w ga) (hc : B ≤ cap) (hcm : cap ≤ maxLen) (hB7 : B ≤ 1000000) (hW : 1 ≤ W ∧ W ≤ 16) (hH : 1 ≤ H ∧ H ≤ 16) (hn : (n : Int) = W * H) (hr : getL n B b = (0, L, u)) :
    Calls Tryd.prog 65 #[.slice a B cap, .int .i64 W, .int .i64 H] w fun e w' => (∃ g c, e = .returned (.tuple #[.agg #[.int .i64 W, .int .i64 H, .slice (some ⟨g, 0, none⟩) L.length c], .int .i64 u, .int .i64 0]) ∧ L.length ≤ c ∧ c ≤ maxLen ∧ Sl w' (some ⟨g, 0, none⟩) L.length (at0 L)) ∧ Gr w w' := by
  have q := get_any a B cap W H n b ga w h hw hc hcm hB7 hW hH hn
  rw [hr] at q
  refine q.mono ?_
  rintro e w1 ⟨⟨v, rfl, hv⟩, hg⟩
  rcases hv with ⟨_, g, c, rfl, h1, h2, h3⟩ | ⟨hz, _⟩
  · exact ⟨⟨g, c, rfl, h1, h2, h3⟩, hg⟩
  · exact absurd rfl hz
theorem Gr.oldF {w w' : World} (h : Gr w w') : (∀ b o, b < w.heap.size → w'.cell? ⟨b, o, none⟩ = w.cell? ⟨b, o, none⟩) ∧ (∀ b o, b < w.heap.size → w'.frozen? ⟨b, o, none⟩ = w.frozen? ⟨b, o, none⟩) ∧ ∀ b, b < w.heap.size → b < w'.heap.size :=
  ⟨h.cell, h.frozen, fun _ hb => Nat.lt_of_lt_of_le hb h.size⟩
theorem may_bd {W H : Int} {n : Nat} {f : Nat → Int} (h : mayTB W H n f = true) (hb : ∀ i, i < n → 0 ≤ f i ∧ f i ≤ 255) : ∀ i, i < n → 1 ≤ f i ∧ f i ≤ 255 := by
  obtain ⟨-, -, -, d⟩ := (mayTB_iff _ _ _ _).1 h
  intro i hi
  have := d i hi
  have := hb i hi
  omega
theorem keep3 {u0 u u' : World} {B : Nat} {v0 v1 v2 : Value} (h : u.cell? ⟨B, 0, none⟩ = some v0 ∧ u.cell? ⟨B, 1, none⟩ = some v1 ∧ u.cell? ⟨B, 2, none⟩ = some v2 ∧ Gr u0 u) (g : Gr u u') : u'.cell? ⟨B, 0, none⟩ = some v0 ∧ u'.cell? ⟨B, 1, none⟩ = some v1 ∧ u'.cell? ⟨B, 2, none⟩ = some v2 ∧ Gr u0 u' :=
  ⟨cell_gr h.1 g, cell_gr h.2.1 g, cell_gr h.2.2.1 g, h.2.2.2.trans g⟩
theorem putL_bd2 {n : Nat} {f : Nat → Int} (h : 1 ≤ n) : 2 ≤ (putL n f).length ∧ (putL n f).length ≤ 1 + n := by
  have := cntF_pos (f := f) (i := 0) (n := n) (by omega)
  rw [putL_len]
  split
  · omega
  · split <;> omega

end Go.Proofs.YtakmiafloolpmaaDoor
