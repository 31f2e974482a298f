/- PackCuts' walk: it answers true at every input where the package's variables hold what its text lays; nothing that was there is written. -/
import Derived.Test.YtcbcekgjpcpibaaDoorDGet2
import Derived.Deep.CutRange
namespace Go.Proofs.YtcbcekgjpcpibaaDoor
open Go.RowKit
set_option maxRecDepth 20000

theorem Sl.take {w : World} {a : Option Addr} {n m : Nat} {f : Nat → Int} (h : Sl w a n f) (hm : m ≤ n) : Sl w a m f := by
  refine ⟨fun i hi => h.byte i (by omega), ?_⟩
  rcases h.has with h0 | ⟨b, o, rfl, hb, hc⟩
  · exact .inl (by omega)
  · exact .inr ⟨b, o, rfl, hb, fun i hi => hc i (by omega)⟩
theorem get_err (k : Int) (a : Option Addr) (B cap : Nat) (W H : Int) (n : Nat) (b : Nat → Int) (ga : Nat → Addr) (w : World) (h : Sl w a B b) (hw : Glob w ga) (hc : B ≤ cap) (hcm : cap ≤ maxLen) (hB7 : B ≤ 1000000) (hW : 1 ≤ W ∧ W ≤ 16) (hH : 1 ≤ H ∧ H ≤ 16) (hn : (n : Int) = W * H) (hk : k ≠ 0) (hr : getL n B b = (k, [], 0)) :
    Calls Tryd.prog 9 #[.slice a B cap, .int .i64 W, .int .i64 H] w fun e w' => e = .returned (.tuple #[.agg #[.int .i64 0, .int .i64 0, .slice none 0 0], .int .i64 0, .int .i64 k]) ∧ Gr w w' := by
  have q := get_any a B cap W H n b ga w h hw hc hcm hB7 hW hH hn
  rw [hr] at q
  refine q.mono ?_
  rintro e w1 ⟨⟨v, rfl, hv⟩, hg⟩
  rcases hv with ⟨hz, _⟩ | ⟨_, rfl⟩
  · exact absurd hz hk
  · exact ⟨rfl, hg⟩
theorem get_ok (L : List Int) (u : Nat) (a : Option Addr) (B cap : Nat) (W H : Int) (n : Nat) (b : Nat → Int) (ga : Nat → Addr) (w : World) (h : Sl w a B b) (hw : Glob w ga) (hc : B ≤ cap) (hcm : cap ≤ maxLen) (hB7 : B ≤ 1000000) (hW : 1 ≤ W ∧ W ≤ 16) (hH : 1 ≤ H ∧ H ≤ 16) (hn : (n : Int) = W * H) (hr : getL n B b = (0, L, u)) :
    Calls Tryd.prog 9 #[.slice a B cap, .int .i64 W, .int .i64 H] w fun e w' => (∃ g c, e = .returned (.tuple #[.agg #[.int .i64 W, .int .i64 H, .slice (some ⟨g, 0, none⟩) L.length c], .int .i64 u, .int .i64 0]) ∧ L.length ≤ c ∧ c ≤ maxLen ∧ Sl w' (some ⟨g, 0, none⟩) L.length (at0 L)) ∧ Gr w w' := by
  have q := get_any a B cap W H n b ga w h hw hc hcm hB7 hW hH hn
  rw [hr] at q
  refine q.mono ?_
  rintro e w1 ⟨⟨v, rfl, hv⟩, hg⟩
  rcases hv with ⟨_, g, c, rfl, h1, h2, h3⟩ | ⟨hz, _⟩
  · exact ⟨⟨g, c, rfl, h1, h2, h3⟩, hg⟩
  · exact absurd rfl hz
theorem Gr.oldF {w w' : World} (h : Gr w w') : (∀ b o, b < w.heap.size → w'.cell? ⟨b, o, none⟩ = w.cell? ⟨b, o, none⟩) ∧ (∀ b o, b < w.heap.size → w'.frozen? ⟨b, o, none⟩ = w.frozen? ⟨b, o, none⟩) ∧ ∀ b, b < w.heap.size → b < w'.heap.size :=
  ⟨h.cell, h.frozen, fun _ hb => Nat.lt_of_lt_of_le hb h.size⟩
theorem may_bd {W H : Int} {n : Nat} {f : Nat → Int} (h : mayTB W H n f = true) (hb : ∀ i, i < n → 0 ≤ f i ∧ f i ≤ 255) : ∀ i, i < n → 1 ≤ f i ∧ f i ≤ 255 := by
  obtain ⟨-, -, -, d⟩ := (mayTB_iff _ _ _ _).1 h
  intro i hi
  have := d i hi
  have := hb i hi
  omega
theorem keep3 {u0 u u' : World} {B : Nat} {v0 v1 v2 : Value} (h : u.cell? ⟨B, 0, none⟩ = some v0 ∧ u.cell? ⟨B, 1, none⟩ = some v1 ∧ u.cell? ⟨B, 2, none⟩ = some v2 ∧ Gr u0 u) (g : Gr u u') : u'.cell? ⟨B, 0, none⟩ = some v0 ∧ u'.cell? ⟨B, 1, none⟩ = some v1 ∧ u'.cell? ⟨B, 2, none⟩ = some v2 ∧ Gr u0 u' :=
  ⟨cell_gr h.1 g, cell_gr h.2.1 g, cell_gr h.2.2.1 g, h.2.2.2.trans g⟩
theorem putL_bd2 {n : Nat} {f : Nat → Int} (h : 1 ≤ n) : 2 ≤ (putL n f).length ∧ (putL n f).length ≤ 1 + n := by
  have := cntF_pos (f := f) (i := 0) (n := n) (by omega)
  rw [putL_len]
  split
  · omega
  · split <;> omega

set_option maxHeartbeats 3000000 in
theorem packCuts_any (a : Option Addr) (n cap : Nat) (f : Nat → Int) (x y few cut : Int) (ga : Nat → Addr) (w : World) (h : Sl w a n f) (hn : n ≤ maxLen) (hw : Glob w ga) :
    Calls Tryd.prog 6 #[.slice a n cap, .int .i64 x, .int .i64 y, .int .i64 few, .int .i64 cut] w fun e w' => e = .returned (.bool true) ∧ Gr w w' := by
  go_enter Tryd.func6, Tryd.ntmps6
  go_wp2_with fail
  refine (near_made _ _ _ _ _ f _ _ _ _ h hn).mono ?_
  rintro e w1 ⟨⟨g, c', N, F, W, H, rfl, hown, hm⟩, hg1⟩
  obtain ⟨q1, q2, -, -, hsl⟩ := hown.sl
  obtain ⟨n1, n2, n3, -⟩ := mayTB_n hm
  obtain ⟨mW, mH, -, -⟩ := (mayTB_iff _ _ _ _).1 hm
  have hF := may_bd hm hown.byte
  obtain ⟨c1, c2, c3⟩ := tri_cells w1 W H (.slice (some ⟨g, 0, none⟩) N c') 26
  replace hsl := hsl.gr ((Gr.refl w1).alloc (.cells #[.int .i64 W, .int .i64 H, .slice (some ⟨g, 0, none⟩) N c'] 26))
  have hgr : Gr w (w1.alloc (.cells #[.int .i64 W, .int .i64 H, .slice (some ⟨g, 0, none⟩) N c'] 26)) := hg1.alloc _
  clear hown hg1
  go_wp2_with fail
  generalize (w1.alloc (.cells #[.int .i64 W, .int .i64 H, .slice (some ⟨g, 0, none⟩) N c'] 26)) = u0 at *
  generalize w1.heap.size = B at *
  refine (put_yes _ _ _ _ _ F _ hsl q1 q2 hm).mono ?_
  rintro e w2 ⟨⟨g2, k2, rfl, ho2⟩, hg2⟩
  replace c1 := cell_gr c1 hg2
  replace c2 := cell_gr c2 hg2
  replace c3 := cell_gr c3 hg2
  obtain ⟨p1, p2, -, -, sl2⟩ := ho2.sl
  have hLb := putL_bd2 (f := F) n1
  obtain ⟨l, hl⟩ : ∃ l : Nat, l = (withinF cut 0 (((putL N F).length : Int) - 1)).toNat := ⟨_, rfl⟩
  have lb := within_bd cut 0 (((putL N F).length : Int) - 1) (by omega)
  have hl2 : withinF cut 0 (((putL N F).length : Int) - 1) = l := by omega
  have hlN : l < (putL N F).length := by omega
  have hget : getL N l (fun i => (putL N F).getD i 0) = (2, [], 0) := by
    rw [get_put (B := l) (b := fun i => (putL N F).getD i 0) n1 hF (fun j hj hjB => rfl), if_pos hlN]
  have hwg := hw.gr (hgr.trans hg2)
  have HQ := hide (fun u (hg : Gr w2 u) => get_err 2 (some ⟨g2, 0, none⟩) l k2 W H N _ ga u ((sl2.take (by omega)).gr hg) (hwg.gr hg) (by omega) p2 (by omega) mW mH n3 (by decide) hget)
  clear hget ho2 hl sl2
  generalize putL N F = L at *
  have HL2 := hide hl2
  have l0 : ((L.length : Int) == 0) = false := by rw [beq_eq_false_iff_ne]; omega
  have wN : IntKind.i64.wrap ((L.length : Int) - 1) = (L.length : Int) - 1 := wrapI (by omega)
  have l1 : 0 ≤ (l : Int) := by omega
  have l2 : (l : Int) ≤ k2 := by omega
  have hgw := hgr.trans hg2
  clear hl2 lb hF hm n3 mW mH hwg hw h
  go_wp2_with fail
  have hdz : ∀ U : World, U.drew.heap.size = U.heap.size := fun _ => rfl
  go_cut [14, 15, 16] from 17 (fun s p q u => ∃ BX, s = .pointer (some ⟨BX, 0, none⟩) ∧ p = .int .i64 0 ∧ q = .int .i64 2 ∧ u.cell? ⟨BX, 2, none⟩ = some (.slice none 0 0) ∧ Gr w2 u)
  case first =>
    go_region_held3 (fun u => u.cell? ⟨B, 0, none⟩ = some (.int .i64 W) ∧ u.cell? ⟨B, 1, none⟩ = some (.int .i64 H) ∧ u.cell? ⟨B, 2, none⟩ = some (.slice (some ⟨g, 0, none⟩) N c') ∧ Gr w2 u) ((refine keep3 ⟨c1, c2, c3, Gr.refl _⟩ ?_; exact (by repeat (first | (with_reducible exact Gr.refl _) | (with_reducible assumption) | (with_reducible refine Gr.alloc ?_ _) | (with_reducible refine Gr.drew ?_) | (with_reducible refine Gr.set ?_ (by dsimp only; omega) _) | (with_reducible refine Gr.trans ?_ (by with_reducible assumption)))))) (first | (go_at_call 8; refine (within_st _ _ _ _ (by omega) (by omega) (by omega)).mono ?_; rintro e w8 ⟨rfl, hw8⟩; subst hw8; rw [HL2.out]) | (go_at_call 9; have hS := ‹_ ∧ _ ∧ _ ∧ Gr _ _›; refine (HQ.out _ hS.2.2.2).mono ?_; rintro e w9 ⟨rfl, hg9⟩; have hz9 := (hS.2.2.2.trans hg9).size; have hg8 := hS.2.2.2; obtain ⟨ho9, hf9, -⟩ := hg9.oldF; (try have qa : w2.heap.size < w9.heap.size := (by have q := hg9.size; (try simp only [World.size_alloc, hdz] at q); omega))))
    all_goals
      go_wp2_with fail
      go_meet
    all_goals
      have hGe := (‹_ ∧ _ ∧ _ ∧ Gr w2 _›).2.2.2
    all_goals
      refine ⟨_, rfl, rfl, rfl, ?_, hGe⟩
    all_goals
      first
        | (go_simp; done)
        | (go_simp; refine World.cell?_setCell_same' _ _ _ ?_; go_simp; done)
  case rest =>
    obtain ⟨BX, rfl, rfl, rfl, x2, hg3⟩ := hcut
    go_wp2_with (go_at_call 7; refine (told3_any _).mono ?_; rintro e w9 ⟨rfl, hg9⟩; replace x2 := cell_gr x2 hg9)
    go_ret
    exact ⟨ret_bool (by simp), (by repeat (first | exact Gr.refl _ | assumption | exact Dr.gr (by assumption) | refine Gr.alloc ?_ _ | refine Gr.drewN ?_ _ | refine Gr.drew ?_ | refine Gr.trans ?_ (by assumption) | refine Gr.trans ?_ (Dr.gr (by assumption))))⟩

end Go.Proofs.YtcbcekgjpcpibaaDoor
