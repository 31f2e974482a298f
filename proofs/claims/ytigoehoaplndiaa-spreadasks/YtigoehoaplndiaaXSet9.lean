/- sweep.Settled. No condition. -/
import Derived.Test.YtigoehoaplndiaaXSort9
import Derived.Test.YtigoehoaplndiaaXSpread9
namespace Go.Proofs.Ytigoehoaplndiaa
open Go.RowKit
set_option maxRecDepth 20000

/-- the locals below k that a way leads from -/
def setL (n : Nat) (F : Nat → Int) : Nat → List (Fin (n + 1))
  | 0 => []
  | k + 1 => if h : k < n + 1 then (if F k < 1099511627776 then setL n F k ++ [⟨k, h⟩] else setL n F k) else setL n F k
theorem setL_yes {n k : Nat} {F : Nat → Int} (h : k < n + 1) (hF : F k < 1099511627776) : setL n F (k + 1) = setL n F k ++ [⟨k, h⟩] := by rw [setL, dif_pos h, if_pos hF]
theorem setL_no {n k : Nat} {F : Nat → Int} (hF : ¬ F k < 1099511627776) : setL n F (k + 1) = setL n F k := by
  by_cases h : k < n + 1
  · rw [setL, dif_pos h, if_neg hF]
  · rw [setL, dif_neg h]
theorem setL_mem {n : Nat} {F : Nat → Int} {x : Fin (n + 1)} : ∀ {k}, k ≤ n + 1 → (x ∈ setL n F k ↔ x.val < k ∧ F x.val < 1099511627776)
  | 0, _ => by simp [setL]
  | k + 1, hk => by
    have ih := setL_mem (n := n) (F := F) (x := x) (k := k) (by omega)
    by_cases hF : F k < 1099511627776
    · rw [setL_yes (by omega) hF, List.mem_append, ih, List.mem_singleton]
      constructor
      · rintro (⟨a, b⟩ | rfl)
        · exact ⟨by omega, b⟩
        · exact ⟨by simp, hF⟩
      · rintro ⟨a, b⟩
        by_cases e : x.val = k
        · exact .inr (Fin.ext e)
        · exact .inl ⟨by omega, b⟩
    · rw [setL_no hF, ih]
      constructor
      · rintro ⟨a, b⟩; exact ⟨by omega, b⟩
      · rintro ⟨a, b⟩
        refine ⟨?_, b⟩
        by_cases e : x.val = k
        · rw [e] at b; exact absurd b hF
        · omega
theorem setL_nodup {n : Nat} {F : Nat → Int} : ∀ {k}, k ≤ n + 1 → (setL n F k).Nodup
  | 0, _ => List.nodup_nil
  | k + 1, hk => by
    have ih := setL_nodup (n := n) (F := F) (k := k) (by omega)
    by_cases hF : F k < 1099511627776
    · rw [setL_yes (by omega) hF]
      refine List.nodup_append.2 ⟨ih, by simp, fun a ha b hb => ?_⟩
      obtain rfl := List.mem_singleton.1 hb
      rw [setL_mem (by omega)] at ha
      intro e
      rw [e] at ha
      simp only at ha
      omega
    · rw [setL_no hF]; exact ih
theorem setL_len {n : Nat} {F : Nat → Int} : ∀ k, (setL n F k).length ≤ k
  | 0 => Nat.le_refl _
  | k + 1 => by
    have := setL_len (n := n) (F := F) k
    rw [setL]
    split
    · split
      · rw [List.length_append, List.length_singleton]; omega
      · omega
    · omega
theorem own_slice {w : World} {base n k : Nat} {e : TypeId} {v : Value} {xs : List Value} (h : w.ownsRow base e k v n xs) : ∃ a c, v = .slice a n c := by
  rcases h.2 with ⟨e, e0⟩ | ⟨g, cap, cur, e, _⟩
  · subst e0; exact ⟨none, 0, e⟩
  · exact ⟨_, cap, e⟩
/-- the order of the locals that a way leads from -/
def Ord (F : Nat → Int) (n : Nat) (s : List Nat) : Prop := Rise (s.map (sdF F)) ∧ ∀ x, x ∈ s ↔ x < n ∧ F x < 1099511627776
theorem Ord.uniq {F G : Nat → Int} {n : Nat} {s r : List Nat} (h : Ord F n s) (g : Ord G n r) (e : ∀ i, i < n → F i = G i) : s = r := by
  have hm : ∀ x, x ∈ s ↔ x ∈ r := fun x => by
    rw [h.2, g.2]
    constructor
    · rintro ⟨a, b⟩; exact ⟨a, by rw [← e x a]; exact b⟩
    · rintro ⟨a, b⟩; exact ⟨a, by rw [e x a]; exact b⟩
  have hr : r.map (sdF G) = r.map (sdF F) := List.map_congr_left fun x hx => by
    unfold sdF
    rw [e x ((g.2 x).1 hx).1]
  have g1 := g.1
  rw [hr] at g1
  have := rise_unique h.1 g1 (fun y => by
    constructor
    · intro hy
      obtain ⟨x, hx, rfl⟩ := List.mem_map.1 hy
      exact List.mem_map.2 ⟨x, (hm x).1 hx, rfl⟩
    · intro hy
      obtain ⟨x, hx, rfl⟩ := List.mem_map.1 hy
      exact List.mem_map.2 ⟨x, (hm x).2 hx, rfl⟩)
  exact (List.map_inj_right (fun _ _ q => sdF_inj q)).1 this
theorem ord_srt {n : Nat} {F : Nat → Int} : Ord F (n + 1) ((srtF F (n + 1) (setL n F (n + 1))).map Fin.val) := by
  refine ⟨?_, fun x => ?_⟩
  · have := srtF_rise (F := F) (setL_nodup (n := n) (F := F) (Nat.le_refl (n + 1)))
    rwa [List.map_map]
  · constructor
    · intro hx
      obtain ⟨y, hy, rfl⟩ := List.mem_map.1 hx
      rw [srtF_mem, setL_mem (Nat.le_refl _)] at hy
      exact hy
    · rintro ⟨a, b⟩
      refine List.mem_map.2 ⟨⟨x, a⟩, ?_, rfl⟩
      rw [srtF_mem, setL_mem (Nat.le_refl _)]
      exact ⟨a, b⟩
/-- the j-th of a list of locals -/
def ordF (s : List Nat) (j : Nat) : Int := ((s.getD j 0 : Nat) : Int)
theorem enc_cel {q : Nat} (s : List (Fin q)) : s.map encI = cel .i64 s.length (ordF (s.map Fin.val)) := by
  apply List.ext_getElem?
  intro i
  by_cases hi : i < s.length
  · rw [cel_get _ _ _ hi]
    simp [ordF, encI, hi]
  · rw [List.getElem?_eq_none (by rw [List.length_map]; omega), List.getElem?_eq_none (by rw [cel_len]; omega)]

set_option maxHeartbeats 1000000 in
theorem settled_no {W H : Int} {al : Option Addr} {n cap : Nat} {f : Nat → Int} {bl : Option Addr} {m c : Nat} {L : List Sd} {w : World}
    (h : Sl w al n f) (g : SlS w bl m c L) (hmay : mayS W H n f L = false) :
    Calls Try.prog 14 #[.agg #[.int .i64 W, .int .i64 H, .slice al n cap], .slice bl m c] w fun e w' => e = .returned (.tuple #[.slice none 0 0, .int .i64 1]) ∧ Gr w w' := by
  obtain ⟨c1, c2, c3⟩ := tri_at w W H (.slice al n cap)
  have hg1 : Gr w (w.alloc (.cells #[.int .i64 W, .int .i64 H, .slice al n cap] 24)) := (Gr.refl w).alloc _
  go_enter Try.func14, Try.ntmps14
  go_wp2_with fail
  generalize (w.alloc (.cells #[.int .i64 W, .int .i64 H, .slice al n cap] 24)) = w1 at *
  refine (spread_no (h.gr hg1) (g.gr hg1) hmay).mono ?_
  rintro e w2 ⟨rfl, hg2⟩
  go_wp2_with fail
  go_ret2
  exact ⟨rfl, (hg1.trans hg2).alloc _⟩

set_option maxHeartbeats 4000000 in
theorem settled_yes {W H : Int} {al : Option Addr} {n cap : Nat} {f : Nat → Int} {bl : Option Addr} {m c : Nat} {L : List Sd} {K : Int} {w : World}
    (h : Sl w al (n + 1) f) (g : SlS w bl m c L) (ha : bl = none ∨ ∃ b o, bl = some ⟨b, o, none⟩) (hmay : mayS W H (n + 1) f L = true) (hs : Sds f (n + 1) K L) (hK0 : 0 ≤ K) (hK : K ≤ 1073741824) (hm8 : m ≤ 800000) :
    Calls Try.prog 14 #[.agg #[.int .i64 W, .int .i64 H, .slice al (n + 1) cap], .slice bl m c] w fun e w' => (∃ a' k' c' F s, e = .returned (.tuple #[.slice a' k' c', .int .i64 0]) ∧ Sprd (nearF W H (n + 1) f) f (n + 1) L F ∧ Ord F (n + 1) s ∧ s.length = k' ∧ SlI w' a' k' (ordF s)) ∧ Gr w w' := by
  obtain ⟨i0, hi, hz0, hz1, hz2⟩ := info_parts info_int
  have n2 := (mayTB_n (sds_of h.byte hmay).1).2.1
  obtain ⟨c1, c2, c3⟩ := tri_at w W H (.slice al (n + 1) cap)
  have hg1 : Gr w (w.alloc (.cells #[.int .i64 W, .int .i64 H, .slice al (n + 1) cap] 24)) := (Gr.refl w).alloc _
  go_enter Try.func14, Try.ntmps14
  go_wp2_with fail
  generalize (w.alloc (.cells #[.int .i64 W, .int .i64 H, .slice al (n + 1) cap] 24)) = w1 at *
  refine (spread_yes (h.gr hg1) (g.gr hg1) ha hmay hs hK0 hK hm8).mono ?_
  rintro e w2 ⟨⟨gf, cf, F, rfl, -, hfar, hsp, -⟩, hg2⟩
  have HSP := hide hsp
  have hgr := hg1.trans hg2
  clear h g hmay hs hsp hg1 hg2 c1 c2 c3
  have b1 := cell_new1 w2 (.slice (some ⟨gf, 0, none⟩) (n + 1) cf) 25
  obtain ⟨w3, hw3⟩ : ∃ w3, w3 = w2.alloc (.cells #[.slice (some ⟨gf, 0, none⟩) (n + 1) cf] 25) := ⟨_, rfl⟩
  rw [← hw3] at b1
  have hg3 : Gr w2 w3 := hw3 ▸ (Gr.refl w2).alloc _
  have hsz3 : w3.heap.size = w2.heap.size + 1 := by rw [hw3, World.size_alloc]
  go_upto_region 2 with fail
  rw [← hw3]
  clear hw3
  obtain ⟨BF, hBF⟩ : ∃ BF, BF = w2.heap.size := ⟨_, rfl⟩
  rw [← hBF] at b1 ⊢
  have hB3 : BF < w3.heap.size := by omega
  have hfar3 := hfar.gr hg3
  have hgf3 := hfar3.lt
  have hgr3 := hgr.trans hg3
  clear hBF hsz3 hfar hg3 hgr
  have HF := hide hfar3
  clear hfar3
  go_wp2_with fail
  go_loopw [8, 22] (fun v i u => ∃ (j k c1 : Nat) (a1 : Option Addr), j ≤ n + 1 ∧ i = .int .i64 j ∧ v = .slice a1 k c1 ∧ Hid ((setL n F j).length = k) ∧ u.ownsRow w3.heap.size 3 1 (.slice a1 k c1) k ((setL n F j).map encI) ∧ Gr w3 u) (fun _ i _ => n + 1 - (intOf i).toNat)
  case atStart => exact ⟨0, 0, 0, none, by omega, rfl, rfl, hide rfl, World.ownsRow_nil _ _ _ _, Gr.refl _⟩
  case round =>
    obtain ⟨j, k, c1, a1, hj, rfl, rfl, HL, hown, hgu⟩ := hrel
    generalize wr = w4 at *
    by_cases hjn : j < n + 1
    · have hji : (j : Int) < ((n + 1 : Nat) : Int) := by omega
      have fj := (HF.out.gr hgu).cell hjn
      have hkj : k ≤ j := by have := setL_len (n := n) (F := F) j; have := HL.out; omega
      by_cases hF : F j < 1099511627776
      · have E : Hid (setL n F (j + 1) = setL n F j ++ [⟨j, hjn⟩]) := hide (setL_yes hjn hF)
        generalize F j = v at *
        have HO := hide hown
        have HG := hide hgu
        clear hown hgu
        go_wp2_with (at_builtin; refine wpList_append_own _ rfl _ _ 25 rfl w3.heap.size 3 i0 (.int .i64 0) 1 8 Try.underlying25 hi hz0 hz1 hz2 rfl (by decide) _ _ _ rfl (HO.out.alloc _) ⟨w4.heap.size, 0, none⟩ 1 1 [.int .i64 j] rfl rfl (alloc_one _ _ _) (by simp [Value.oneCell']) (by unfold maxLen; omega) (by omega) (by have := HG.out.size; simp only [World.size_alloc]; omega) ?_; intro v' w5 hown' hgrow hnil)
        obtain ⟨a2, c2, rfl⟩ := own_slice hown'
        go_roundw
        case rel => exact ⟨j + 1, k + 1, c2, a2, by omega, by go_num, rfl, hide (by rw [E.out, List.length_append, HL.out]; rfl), by rw [E.out, List.map_append]; exact hown', Gr.grown (HG.out.alloc _) hgrow (fun q e => (HO.out.lt q e).1)⟩
        case measure => simp [intOf]; omega
      · have E : Hid (setL n F (j + 1) = setL n F j) := hide (setL_no hF)
        generalize F j = v at *
        go_wp2_with fail
        go_roundw
        case rel => exact ⟨j + 1, k, c1, a1, by omega, by go_num, rfl, hide (by rw [E.out]; exact HL.out), by rw [E.out]; exact hown, hgu⟩
        case measure => simp [intOf]; omega
    · obtain rfl : j = n + 1 := by omega
      have hji : ¬ ((n + 1 : Nat) : Int) < ((n + 1 : Nat) : Int) := by omega
      have hkj : k ≤ 1000000 := by have := setL_len (n := n) (F := F) (n + 1); have := HL.out; omega
      go_wp2_with fail
      refine (sortI_any hown HL.out (cell_gr b1 hgu) (HF.out.gr hgu) hB3 hgf3 hkj).mono ?_
      rintro e w5 ⟨rfl, hown5, hgrow5⟩
      have hlen5 : (srtF F (n + 1) (setL n F (n + 1))).length = k := by rw [srtF_len]; exact HL.out
      rw [enc_cel, hlen5] at hown5
      obtain ⟨a6, c6, e6, -, -, hsl⟩ := SlI.of_own hown5
      cases e6
      go_wp2_with fail
      go_ret2
      exact ⟨⟨a1, k, c1, F, _, rfl, HSP.out, ord_srt, by rw [List.length_map]; exact hlen5, hsl⟩, (hgr3.trans hgu).grown hgrow5 (fun q e => Nat.le_trans (Below.size hgr3) (hown.lt q e).1)⟩
end Go.Proofs.Ytigoehoaplndiaa
