/- AtlasEnds' walk: it answers true at every input where the package's variables hold what its text lays; nothing that was there is written. -/
import Derived.Test.YtakmiafloolpmaaDoorABack
namespace Go.Proofs.YtakmiafloolpmaaDoor
open Go.RowKit
set_option maxRecDepth 20000

/-- a list with one more behind it, by the index -/
def plusF (L : List Int) (x : Int) (i : Nat) : Int := if i < L.length then at0 L i else x
theorem plus_get {L : List Int} {x : Int} {j : Nat} (h : j < L.length) : plusF L x j = at0 L j := by unfold plusF; rw [if_pos h]
theorem cel_more (L : List Int) (x : Int) : cel .u8 L.length (at0 L) ++ [.int .u8 x] = cel .u8 (L.length + 1) (plusF L x) := by
  rw [cel_succ]
  congr 1
  · exact cel_congr fun i hi => (plus_get hi).symm
  · unfold plusF
    rw [if_neg (by omega)]

theorem ends_more {w1 u w0 : World} {B g c : Nat} {v' : Value} {L : List Int} {x : Int} (h : w1.ownsRow B 5 1 v' (L.length + 1) (cel .u8 L.length (at0 L) ++ [.int .u8 x])) (hg : u.grownBy w1 (Value.slice (some ⟨g, 0, none⟩) L.length c).ownBlock) (h0 : Gr w0 u) (hk : w0.heap.size ≤ g) (hb : ∀ i, i < L.length → 0 ≤ at0 L i ∧ at0 L i ≤ 255) (hx : 0 ≤ x ∧ x ≤ 255) :
    ∃ g' c', v' = .slice (some ⟨g', 0, none⟩) (L.length + 1) c' ∧ OwnB w1 B g' (L.length + 1) c' (plusF L x) ∧ Gr w0 w1 := by
  rw [cel_more] at h
  rcases h.2 with ⟨_, h0'⟩ | ⟨g', cap, cur, rfl, hb', r⟩
  · omega
  · refine ⟨g', cap, rfl, ⟨h, fun i hi => ?_⟩, Gr.grown h0 hg ?_⟩
    · unfold plusF
      split
      · exact hb i (by assumption)
      · exact hx
    · intro j hj
      simp [Value.ownBlock] at hj
      omega

set_option maxHeartbeats 3000000 in
theorem atlasEnds_any (x y : Int) (a : Option Addr) (n cap : Nat) (f : Nat → Int) (cut more : Int) (ga : Nat → Addr) (w : World) (h : Sl w a n f) (hn : n ≤ maxLen) (hw : Glob w ga) (hmore : 0 ≤ more ∧ more ≤ 255) :
    Calls Tryd.prog 7 #[.int .i64 x, .int .i64 y, .slice a n cap, .int .i64 cut, .int .u8 more] w fun e w' => e = .returned (.bool true) ∧ Gr w w' := by
  obtain ⟨i0, hi, hz0, hz1, hz2⟩ := info_parts info_u8
  go_enter Tryd.func7, Tryd.ntmps7
  go_wp2_with fail
  refine (made_any x y a n cap f w h hn).mono ?_
  rintro e w1 ⟨⟨g, c', N, rfl, hN, hown⟩, hg1⟩
  have hm := madeM_may h.byte hN
  have xb := within_bd x 1 40 (by omega)
  have yb := within_bd y 1 40 (by omega)
  generalize withinF x 1 40 = W at *
  generalize withinF y 1 40 = H at *
  generalize madeF n f = F at *
  have hFb := hown.byte
  obtain ⟨q1, q2, -, -, hsl⟩ := hown.sl
  have hlen := made_len hm hFb
  have hsm := made_small hm hFb xb.2 yb.2
  have hput := aput_yes W H (some ⟨g, 0, none⟩) N c' F w1 hsl q1 hm
  obtain ⟨K, hK⟩ : ∃ K : Nat, withinF cut 0 ((putM W H F).length - 1 : Int) = K := ⟨(withinF cut 0 ((putM W H F).length - 1 : Int)).toNat, by have := within_bd cut 0 ((putM W H F).length - 1 : Int) (by omega); omega⟩
  have kb := within_bd cut 0 ((putM W H F).length - 1 : Int) (by omega)
  rw [hK] at kb
  have hk1 : K < (putM W H F).length := by omega
  have hcut : getM K (at0 (putM W H F)) = (2, []) := by
    obtain ⟨q, -⟩ := getM_put (B := K) (b := at0 (putM W H F)) hm hFb (fun j _ _ => rfl)
    rw [q, if_pos hk1]
  have hmor : getM ((putM W H F).length + 1) (plusF (putM W H F) more) = (3, []) := by
    obtain ⟨q, -⟩ := getM_put (B := (putM W H F).length + 1) (b := plusF (putM W H F) more) hm hFb (fun j hj _ => plus_get hj)
    rw [q, if_neg (by omega), if_neg (by omega)]
  obtain ⟨hl6, -, hlb⟩ := hlen
  have hLb := getD_byte hlb
  clear hlb
  generalize putM W H F = L at *
  have HP := hide hput
  have HG1 := hide (fun (u : World) (a : Option Addr) (cap : Nat) (hu : Gr w u) (h : Sl u a K (at0 L)) (hc : K ≤ cap) (hcm : cap ≤ maxLen) => aget_code 2 a K cap (at0 L) ga u h (hw.gr hu) hc hcm (by omega) (by decide) hcut)
  have HG2 := hide (fun (u : World) (a : Option Addr) (cap : Nat) (hu : Gr w u) (h : Sl u a (L.length + 1) (plusF L more)) (hc : L.length + 1 ≤ cap) (hcm : cap ≤ maxLen) => aget_code 3 a (L.length + 1) cap (plusF L more) ga u h (hw.gr hu) hc hcm (by omega) (by decide) hmor)
  have HTD := hide (fun (u : World) (hu : Gr w u) => told4_any ga u (hw.gr hu))
  have HK := hide hK
  have HLB := hide hLb
  have hkI : (K : Int) < (L.length : Int) := by omega
  have hl7 : (6 : Int) ≤ (L.length : Int) := by omega
  have hn6 : ¬ (L.length : Int) < 6 := by omega
  clear hown hm hFb h hw hN xb yb hn hput hcut hmor hsl hK hLb
  go_wp2_with fail
  refine HP.out.mono ?_
  rintro e w2 ⟨⟨g2, k2, rfl, ho2⟩, hg2⟩
  obtain ⟨p1, p2, -, -, sl2⟩ := ho2.sl
  have hgr2 := hg1.trans hg2
  have HS2 := hide sl2
  have HO2 := hide ho2
  have hkc : (K : Int) ≤ (k2 : Int) := by omega
  have hk2m : k2 ≤ maxLen := p2
  clear hg1 hg2 sl2 ho2 HP
  go_wp2_with (go_at_call 11; refine (within_st _ _ _ _ (by omega) (by omega) (by omega)).mono ?_; rintro e w3 ⟨rfl, hw3⟩; replace hw3 := hw3.symm; subst hw3; rw [HK.out])
  refine (HG1.out _ _ _ hgr2 (HS2.out.take (by omega)) (by omega) hk2m).mono ?_
  rintro e w3 ⟨rfl, hg3⟩
  have hgr3 := hgr2.trans hg3
  have ho3 := HO2.out.gr hg3
  have HO3 := hide ho3
  obtain ⟨x1, x2, x3⟩ := tri_cells w3 0 0 (.slice none 0 0) 24
  have ga3 := (Gr.refl w3).alloc (.cells #[.int .i64 0, .int .i64 0, .slice none 0 0] 24)
  have hgr4 := hgr3.trans ga3
  have HO4 := hide (ho3.gr ga3)
  have hz3 : w3.heap.size < (w3.alloc (.cells #[.int .i64 0, .int .i64 0, .slice none 0 0] 24)).heap.size := by rw [World.size_alloc]; omega
  clear ho3 hg3 HG1 HS2 HO2 HO3 ga3 hgr2 hgr3
  have Lp : 0 < L.length := by omega
  go_wp2_with (first | (at_builtin; refine wpList_append_own _ rfl (.tmp 44) (.tmp 45) 22 rfl (w3.heap.size + 1) 5 i0 (.int .u8 0) 1 1 Tryd.underlying22 hi hz0 hz1 hz2 rfl (by decide) (.slice (some ⟨w3.heap.size + 1, 0, none⟩) 0 0) 0 [] rfl (own_empty (World.size_alloc w3 _).symm (Nat.le_of_eq (World.size_alloc w3 _).symm) (Gr.refl _)) ⟨g2, 0, none⟩ L.length k2 (cel .u8 L.length (at0 L)) rfl (by simp [cel_len]) (own_news HO4.out ((Gr.refl _).alloc _)) (cel_one _ _ _) (by unfold maxLen; omega) (by omega) (by simp only [World.size_alloc]; omega) ?_; intro v' w5 hown5 hgrow5 hnil5; obtain ⟨g5, k5, rfl, ho5, hg5⟩ := rowL_first (w0 := w3.alloc (.cells #[.int .i64 0, .int .i64 0, .slice none 0 0] 24)) hown5 Lp hgrow5 ((Gr.refl _).alloc _) (Nat.le_of_eq (World.size_alloc w3 _)) HLB.out; clear hown5 hgrow5 hnil5; have hb5 := ho5.sl.2.2.1; have hs5 := hg5.size; rw [World.size_alloc] at hs5) | (at_builtin; refine wpList_append_own _ rfl (.tmp 46) (.tmp 48) 22 rfl (w3.heap.size + 1) 5 i0 (.int .u8 0) 1 1 Tryd.underlying22 hi hz0 hz1 hz2 rfl (by decide) (.slice (some ⟨g5, 0, none⟩) L.length k5) L.length (cel .u8 L.length (at0 L)) rfl (own_gr ho5.own ((Gr.refl _).alloc _)) ⟨w5.heap.size, 0, none⟩ 1 1 [.int .u8 more] rfl rfl (alloc_one w5 _ _) (by simp [Value.oneCell']) (by unfold maxLen; omega) (by omega) (by simp only [World.size_alloc]; omega) ?_; intro v' w6 hown6 hgrow6 hnil6; obtain ⟨g6, k6, rfl, ho6, hg6⟩ := ends_more (w0 := w3.alloc (.cells #[.int .i64 0, .int .i64 0, .slice none 0 0] 24)) hown6 hgrow6 (hg5.alloc _) (by simp only [World.size_alloc]; omega) HLB.out hmore; clear hown6 hgrow6 hnil6))
  obtain ⟨r1, r2, -, -, sl6⟩ := ho6.sl
  replace x3 := cell_gr x3 hg6
  have hgr6 := hgr4.trans hg6
  have hz6 : w3.heap.size < w6.heap.size := Nat.lt_of_lt_of_le hz3 hg6.size
  refine (HG2.out _ _ _ hgr6 sl6 r1 r2).mono ?_
  rintro e w7 ⟨rfl, hg7⟩
  replace x3 := cell_gr x3 hg7
  have hgr7 := hgr6.trans hg7
  have hz7 : w3.heap.size < w7.heap.size := Nat.lt_of_lt_of_le hz6 hg7.size
  obtain ⟨-, -, y3⟩ := tri_cells w7 0 0 (.slice none 0 0) 24
  have ga7 := (Gr.refl w7).alloc (.cells #[.int .i64 0, .int .i64 0, .slice none 0 0] 24)
  replace x3 := cell_gr x3 ga7
  have hgr8 := hgr7.trans ga7
  clear ho5 ho6 sl6 hg5 hg6 hg7 hgr4 hgr6 hgr7 HG2 HO4 ga7 x1 x2
  go_wp2_with fail
  generalize (w7.alloc (.cells #[.int .i64 0, .int .i64 0, .slice none 0 0] 24)) = u8 at *
  generalize w7.heap.size = B15 at *
  generalize w3.heap.size = B13 at *
  refine (HTD.out _ hgr8).mono ?_
  rintro e w9 ⟨rfl, hg9⟩
  replace x3 := cell_gr x3 hg9
  replace y3 := cell_gr y3 hg9
  go_wp2_with fail
  go_ret
  exact ⟨ret_bool (by simp), hgr8.trans hg9⟩

end Go.Proofs.YtakmiafloolpmaaDoor
