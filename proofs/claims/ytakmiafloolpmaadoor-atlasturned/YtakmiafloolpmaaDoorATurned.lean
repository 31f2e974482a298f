/- AtlasTurned's walk: it answers true at every input where the package's variables hold what its text lays; nothing that was there is written. -/
import Derived.Test.YtakmiafloolpmaaDoorABack
namespace Go.Proofs.YtakmiafloolpmaaDoor
open Go.RowKit
set_option maxRecDepth 20000

theorem xor8_ne {a c : Int} (ha : 0 ≤ a ∧ a ≤ 255) (hc : 0 ≤ c ∧ c ≤ 255) (h : bits .xor .u8 a c = a) : c = 0 := by
  rw [u8_xor a c ha.1 (by omega) hc.1 (by omega)] at h
  have h1 : a.toNat ^^^ c.toNat = a.toNat := by omega
  have h2 : a.toNat ^^^ (a.toNat ^^^ c.toNat) = a.toNat ^^^ a.toNat := by rw [h1]
  rw [← Nat.xor_assoc, Nat.xor_self, Nat.zero_xor] at h2
  omega
theorem putM_congr {W H : Int} {N : Nat} {f g : Nat → Int} (hN : (N : Int) = W * H) (h : ∀ i, i < N → f i = g i) : putM W H f = putM W H g := by
  have : ∀ s, s ≤ cntS W H → putS W H f s = putS W H g s := by
    intro s
    induction s with
    | zero => intro _; rfl
    | succ s ih =>
      intro hs
      have hs1 := sec_of (W := W) (H := H) (s := s) (by omega)
      have ht := tnF_eq hs1
      show putS W H f s ++ partL W H f s = putS W H g s ++ partL W H g s
      rw [ih (by omega)]
      congr 1
      unfold partL
      exact putL_congr (fun i hi => h _ (gcF_lt hs1 hi hN)) (by omega)
  exact this _ (Nat.le_refl _)
theorem aget_ok (ts : List (List Int)) (N' : Nat) (a : Option Addr) (B cap : Nat) (b : Nat → Int) (ga : Nat → Addr) (w : World) (h : Sl w a B b) (hw : Glob w ga) (hc : B ≤ cap) (hcm : cap ≤ maxLen) (hB7 : B ≤ 1000000) (hN' : (N' : Int) = wOf b * hOf b) (hr : getM B b = (0, ts)) :
    Calls Tryd.prog 23 #[.slice a B cap] w fun e w' => (∃ g, e = .returned (.tuple #[.agg #[.int .i64 (wOf b), .int .i64 (hOf b), .slice (some ⟨g, 0, none⟩) N' N'], .int .i64 0]) ∧ Sl w' (some ⟨g, 0, none⟩) N' (joinF (wOf b) ts)) ∧ Gr w w' := by
  refine (aget_any a B cap b ga w h hw hc hcm hB7).mono ?_
  rintro e w1 ⟨⟨v, rfl, hv⟩, hg⟩
  unfold GetsM at hv
  rw [hr] at hv
  rcases hv with ⟨-, g, N2, rfl, hN2, -, hs⟩ | ⟨hz, _⟩
  · have : N2 = N' := by omega
    subst this
    exact ⟨⟨g, rfl, hs⟩, hg⟩
  · exact absurd rfl hz
/-- what is read of turned bytes is the same map just if nothing was turned -/
theorem turned_same {W H : Int} {N N' l : Nat} {F : Nat → Int} {by_ : Int} {ts : List (List Int)} (hm : mayM W H N F = true) (hF : ∀ i, i < N → 0 ≤ F i ∧ F i ≤ 255) (hby : 0 ≤ by_ ∧ by_ ≤ 255) (hl : l < (putM W H F).length)
    (hb : ∀ i, i < (putM W H F).length → 0 ≤ upd (at0 (putM W H F)) l (bits .xor .u8 (at0 (putM W H F) l) by_) i ∧ upd (at0 (putM W H F)) l (bits .xor .u8 (at0 (putM W H F) l) by_) i ≤ 255) (hL : 0 ≤ at0 (putM W H F) l ∧ at0 (putM W H F) l ≤ 255)
    (hr : getM (putM W H F).length (upd (at0 (putM W H F)) l (bits .xor .u8 (at0 (putM W H F) l) by_)) = (0, ts)) (hN' : (N' : Int) = wOf (upd (at0 (putM W H F)) l (bits .xor .u8 (at0 (putM W H F) l) by_)) * hOf (upd (at0 (putM W H F)) l (bits .xor .u8 (at0 (putM W H F) l) by_))) :
    sameTB (wOf (upd (at0 (putM W H F)) l (bits .xor .u8 (at0 (putM W H F) l) by_))) (hOf (upd (at0 (putM W H F)) l (bits .xor .u8 (at0 (putM W H F) l) by_))) N' (joinF (wOf (upd (at0 (putM W H F)) l (bits .xor .u8 (at0 (putM W H F) l) by_))) ts) W H N F = decide (by_ = 0) := by
  obtain ⟨hmb, hN, -⟩ := (mayM_iff _ _ _ _).1 hm
  obtain ⟨hm', h4, -, -, hput⟩ := getM_ok hb hr
  rw [Bool.eq_iff_iff, decide_eq_true_eq]
  constructor
  · intro hs
    simp only [sameTB, Bool.and_eq_true, decide_eq_true_eq, sameB_iff] at hs
    obtain ⟨⟨hW, hH⟩, hNN, hFF⟩ := hs
    rw [hW, hH] at hput
    rw [hW] at hFF
    rw [putM_congr hN (fun i hi => hFF i (by omega))] at hput
    have hz : at0 (putM W H F) l = at0 (lst (putM W H F).length (upd (at0 (putM W H F)) l (bits .xor .u8 (at0 (putM W H F) l) by_))) l := congrArg (fun q => at0 q l) hput
    rw [at0_lst hl] at hz
    unfold upd at hz
    rw [if_pos rfl] at hz
    exact xor8_ne hL hby hz.symm
  · intro h0
    subst h0
    have hbe : ∀ j, j < (putM W H F).length → upd (at0 (putM W H F)) l (bits .xor .u8 (at0 (putM W H F) l) 0) j = at0 (putM W H F) j := fun j _ => by
      unfold upd
      split
      · rename_i e
        rw [e, xor8_zero hL]
      · rfl
    obtain ⟨q1, q2⟩ := getM_put (B := (putM W H F).length) (b := upd (at0 (putM W H F)) l (bits .xor .u8 (at0 (putM W H F) l) 0)) hm hF (fun j hj _ => hbe j hj)
    rw [if_neg (by omega), if_pos rfl, hr] at q1
    obtain ⟨e1, e2⟩ := q2 h4
    have hts : ts = tilesF W H F (cntS W H) := congrArg (fun q => q.2) q1
    rw [e1, e2] at hN'
    rw [e1, e2, hts]
    exact sameTB_of (by omega) (fun i hi => join_tiles hmb hN (by omega))

set_option maxHeartbeats 4000000 in
theorem atlasTurned_any (x y : Int) (a : Option Addr) (n cap : Nat) (f : Nat → Int) (at_ by_ : Int) (ga : Nat → Addr) (w : World) (h : Sl w a n f) (hn : n ≤ maxLen) (hw : Glob w ga) (hby : 0 ≤ by_ ∧ by_ ≤ 255) :
    Calls Tryd.prog 6 #[.int .i64 x, .int .i64 y, .slice a n cap, .int .i64 at_, .int .u8 by_] w fun e w' => e = .returned (.bool true) ∧ Gr w w' := by
  obtain ⟨i0, hi, hz0, hz1, hz2⟩ := info_parts info_u8
  go_enter Tryd.func6, Tryd.ntmps6
  go_wp2_with fail
  refine (made_any x y a n cap f w h hn).mono ?_
  rintro e w1 ⟨⟨g, c', N, rfl, hN, hown⟩, hg1⟩
  have hm := madeM_may h.byte hN
  have xb := within_bd x 1 40 (by omega)
  have yb := within_bd y 1 40 (by omega)
  generalize withinF x 1 40 = W at *
  generalize withinF y 1 40 = H at *
  generalize madeF n f = F at *
  have hFb := hown.byte
  have hlen := made_len hm hFb
  have hsm := made_small hm hFb xb.2 yb.2
  have N1 : 1 ≤ N := by
    have := may_mul ((mayM_iff _ _ _ _).1 hm).1
    omega
  obtain ⟨⟨c1, c2, c3⟩, z1, q1, q2, hsl⟩ := made_box w1 W H g N c' F _ hown
  have hgr : Gr w (w1.alloc (.cells #[.int .i64 W, .int .i64 H, .slice (some ⟨g, 0, none⟩) N c'] 24)) := hg1.alloc _
  have HTD := hide (fun (u : World) (hu : Gr w u) => told4_any ga u (hw.gr hu))
  clear hown hg1 xb yb hN
  go_wp2_with fail
  generalize (w1.alloc (.cells #[.int .i64 W, .int .i64 H, .slice (some ⟨g, 0, none⟩) N c'] 24)) = u0 at *
  generalize w1.heap.size = B at *
  refine (aput_yes _ _ _ _ _ F _ hsl q1 hm).mono ?_
  rintro e w2 ⟨⟨g2, k2, rfl, ho2⟩, hg2⟩
  replace c1 := cell_gr c1 hg2
  replace c2 := cell_gr c2 hg2
  replace c3 := cell_gr c3 hg2
  replace hsl := hsl.gr hg2
  replace hgr := hgr.trans hg2
  obtain ⟨hl6, -, -⟩ := hlen
  have hLy : ∀ i, i < (putM W H F).length → 0 ≤ at0 (putM W H F) i ∧ at0 (putM W H F) i ≤ 255 := ho2.byte
  have hTS := fun l ts N' => turned_same (N := N) (N' := N') (l := l) (by_ := by_) (ts := ts) hm hFb hby
  generalize putM W H F = L at *
  obtain ⟨l, hl⟩ : ∃ l : Nat, l = (withinF at_ 0 ((L.length : Int) - 1)).toNat := ⟨_, rfl⟩
  have lb := within_bd at_ 0 ((L.length : Int) - 1) (by omega)
  have hl2 : withinF at_ 0 ((L.length : Int) - 1) = l := by omega
  have hlN : l < L.length := by omega
  have HL2 := hide hl2
  have HLY := hide hLy
  have HTS := hide hTS
  have l0 : ((L.length : Int) == 0) = false := by rw [beq_eq_false_iff_ne]; omega
  have wN : IntKind.i64.wrap ((L.length : Int) - 1) = (L.length : Int) - 1 := wrapI (by omega)
  have l1 : 0 ≤ (l : Int) := by omega
  have l2 : (l : Int) < L.length := by omega
  have hn6 : ¬ (L.length : Int) < 6 := by omega
  have HO2 := hide ho2
  have hB2 : B < w2.heap.size := World.block_lt_of_cell? w2 ⟨B, 0, none⟩ c1
  clear hl2 lb hLy hl hg2 hTS ho2 z1
  go_wp2_with (first | (at_builtin; refine wpList_append_own _ rfl _ _ 22 rfl w2.heap.size 5 i0 (.int .u8 0) 1 1 Tryd.underlying22 hi hz0 hz1 hz2 rfl (by decide) (.slice (some ⟨w2.heap.size, 0, none⟩) 0 0) 0 [] rfl (World.ownsRow_made w2 #[] 0 (Nat.le_refl _) (Nat.zero_le _) rfl) ⟨g2, 0, none⟩ L.length k2 (cel .u8 L.length (at0 L)) rfl (by simp [cel_len]) (own_news HO2.out ((Gr.refl _).alloc _)) (cel_one _ _ _) (by unfold maxLen; omega) (by omega) (by simp only [World.size_alloc]; omega) ?_; intro v' w3 hown3 hgrow3 hnil3; obtain ⟨g3, k3, rfl, ho3, hg3⟩ := rowL_copy hown3 (by omega) hgrow3 ((Gr.refl w2).alloc _) (Nat.le_refl _) HLY.out; have d0 := ho3.cellAt hlN; have f0 := ho3.own.frozenAt l; have hq3 := ho3.sl; have HO3 := hide ho3; replace c1 := cell_gr c1 hg3; replace c2 := cell_gr c2 hg3; replace c3 := cell_gr c3 hg3; have hBg : B ≠ g3 := (by omega); clear ho3 hown3 hgrow3 hnil3) | (go_at_call 11; refine (within_st _ _ _ _ (by omega) (by omega) (by omega)).mono ?_; rintro e w8 ⟨rfl, hw8⟩; subst hw8; rw [HL2.out]))
  have zb : 0 ≤ bits .xor .u8 (at0 L l) by_ ∧ bits .xor .u8 (at0 L l) by_ ≤ 255 := xor8_bd _ _
  have hTS := fun ts N' => HTS.out l ts N' hlN
  have ho4 := HO3.out.set l zb
  have hLl := HLY.out l hlN
  have hg4 : Gr w (w8.setCell ⟨g3, l, none⟩ (.int .u8 (bits .xor .u8 (at0 L l) by_))) := (hgr.trans hg3).set (p := ⟨g3, l, none⟩) (by have := hgr.size; have := hq3.2.2.1; show _ ≤ g3; omega) _
  have hgg : g ≠ g3 := by
    obtain ⟨b', o', e, hb', -⟩ := hsl.at N1
    cases e
    have := hq3.2.2.1
    omega
  generalize bits .xor .u8 (at0 L l) by_ = z at *
  replace hsl := (hsl.gr hg3).setF (p := ⟨g3, l, none⟩) (v := .int .u8 z) hgg
  obtain ⟨k3a, k3b, -, -, sl4⟩ := ho4.sl
  have e1 : (w8.setCell ⟨g3, l, none⟩ (.int .u8 z)).cell? ⟨B, 0, none⟩ = some (.int .i64 W) := by rw [World.cell?_setCell_far _ _ _ _ (by exact fun e => hBg e.symm)]; exact c1
  have e2 : (w8.setCell ⟨g3, l, none⟩ (.int .u8 z)).cell? ⟨B, 1, none⟩ = some (.int .i64 H) := by rw [World.cell?_setCell_far _ _ _ _ (by exact fun e => hBg e.symm)]; exact c2
  have e3 : (w8.setCell ⟨g3, l, none⟩ (.int .u8 z)).cell? ⟨B, 2, none⟩ = some (.slice (some ⟨g, 0, none⟩) N c') := by rw [World.cell?_setCell_far _ _ _ _ (by exact fun e => hBg e.symm)]; exact c3
  have hbb : ∀ i, i < L.length → 0 ≤ upd (at0 L) l z i ∧ upd (at0 L) l z i ≤ 255 := sl4.byte
  have hwg := hw.gr hg4
  have HW := hide hwg
  have hTS2 := fun ts N' => hTS ts N' hbb hLl
  clear hTS HTS HO3 ho4 HO2 HLY d0 f0 hq3 c1 c2 c3 hgr hg3 hgg hBg hB2 HL2 hw h hwg hLl
  generalize upd (at0 L) l z = b at *
  generalize (w8.setCell ⟨g3, l, none⟩ (.int .u8 z)) = u3 at *
  rcases getM_kind L.length b with hr | hr
  · obtain ⟨ts, hR⟩ : ∃ ts, getM L.length b = (0, ts) := ⟨_, Prod.ext hr rfl⟩
    obtain ⟨hm', -, -, hj, hput⟩ := getM_ok hbb hR
    have mm := may_mul hm'
    obtain ⟨N', hN'⟩ : ∃ N' : Nat, (N' : Int) = wOf b * hOf b := ⟨(wOf b * hOf b).toNat, by omega⟩
    have hmay : mayM (wOf b) (hOf b) N' (joinF (wOf b) ts) = true := (mayM_iff _ _ _ _).2 ⟨hm', hN', fun i hi => by have := hj N' hN' i hi; omega⟩
    have hS := hTS2 ts N' hR hN'
    refine (aget_ok ts N' _ _ _ b ga _ sl4 HW.out k3a k3b (by omega) hN' hR).mono ?_
    rintro e w5 ⟨⟨g5, rfl, v3⟩, hg5⟩
    have HPB : Hid (putM (wOf b) (hOf b) (joinF (wOf b) ts) = lst L.length b) := hide hput
    clear hput hTS2 hj hR hr hm' mm hN'
    generalize wOf b = W5 at *
    generalize hOf b = H5 at *
    generalize joinF W5 ts = F5 at *
    replace e1 := cell_gr e1 hg5
    replace e2 := cell_gr e2 hg5
    replace e3 := cell_gr e3 hg5
    replace hsl := hsl.gr hg5
    replace sl4 := sl4.gr hg5
    have hgw := hg4.trans hg5
    clear hg4 hg5 hbb HW
    obtain ⟨x1, x2, x3⟩ := tri_cells w5 W5 H5 (.slice (some ⟨g5, 0, none⟩) N' N') 24
    have hg6 : Gr w5 (w5.alloc (.cells #[.int .i64 W5, .int .i64 H5, .slice (some ⟨g5, 0, none⟩) N' N'] 24)) := (Gr.refl _).alloc _
    replace e1 := cell_gr e1 hg6
    replace e2 := cell_gr e2 hg6
    replace e3 := cell_gr e3 hg6
    replace hsl := hsl.gr hg6
    replace sl4 := sl4.gr hg6
    replace v3 := v3.gr hg6
    replace hgw := hgw.trans hg6
    clear hg6
    go_wp2_with fail
    generalize (w5.alloc (.cells #[.int .i64 W5, .int .i64 H5, .slice (some ⟨g5, 0, none⟩) N' N'] 24)) = u5 at *
    generalize w5.heap.size = B5 at *
    refine (aput_yes _ _ _ _ _ F5 _ v3 (Nat.le_refl _) hmay).mono ?_
    rintro e w6 ⟨⟨g6, k6, rfl, ho6⟩, hg6⟩
    have sy := ho6.sl.2.2.2.2
    rw [HPB.out, lst_len] at sy
    have hPL : (putM W5 H5 F5).length = L.length := by rw [HPB.out, lst_len]
    rw [hPL]
    have HSB : Hid (sameB L.length (at0 (lst L.length b)) L.length b = true) := hide (sameB_of rfl (fun i hi => at0_lst hi))
    generalize at0 (lst L.length b) = P at *
    clear ho6 HPB hPL
    replace x1 := cell_gr x1 hg6
    replace x2 := cell_gr x2 hg6
    replace x3 := cell_gr x3 hg6
    replace e1 := cell_gr e1 hg6
    replace e2 := cell_gr e2 hg6
    replace e3 := cell_gr e3 hg6
    replace hsl := hsl.gr hg6
    replace sl4 := sl4.gr hg6
    replace v3 := v3.gr hg6
    replace hgw := hgw.trans hg6
    have HSAME := hide hS
    clear hg6 hmay hS
    go_wp2_with fail
    refine (HTD.out _ hgw).mono ?_
    rintro e w7 ⟨rfl, hg7⟩
    replace x1 := cell_gr x1 hg7
    replace x2 := cell_gr x2 hg7
    replace x3 := cell_gr x3 hg7
    replace e1 := cell_gr e1 hg7
    replace e2 := cell_gr e2 hg7
    replace e3 := cell_gr e3 hg7
    have HSL := hide (hsl.gr hg7)
    have HSL4 := hide (sl4.gr hg7)
    have HV3 := hide (v3.gr hg7)
    have HSY := hide (sy.gr hg7)
    have hgw7 := hgw.trans hg7
    clear hsl sl4 v3 sy hgw hg7
    by_cases hb0 : by_ = 0
    · subst hb0
      have HS0 : Hid (sameTB W5 H5 N' F5 W H N F = true) := hide (by rw [HSAME.out]; rfl)
      clear HSAME
      go_wp2_with (first | (go_at_call 19; refine (rbytes_any _ _ _ _ _ _ P b _ HSY.out HSL4.out).mono ?_; rintro e w9 ⟨rfl, hw9⟩; subst hw9; rw [HSB.out]) | (go_at_call 27; refine (asame_any _ _ _ _ _ _ _ _ _ _ F5 F _ HV3.out HSL.out).mono ?_; rintro e w10 ⟨rfl, hg10⟩; rw [HS0.out]))
      go_ret
      exact ⟨ret_bool (by simp), hgw7.trans hg10⟩
    · have hb1 : (by_ == 0) = false := by simp [hb0]
      have HS0 : Hid (sameTB W5 H5 N' F5 W H N F = false) := hide (by rw [HSAME.out]; simp [hb0])
      clear HSAME hb0
      go_wp2_with (first | (go_at_call 19; refine (rbytes_any _ _ _ _ _ _ P b _ HSY.out HSL4.out).mono ?_; rintro e w9 ⟨rfl, hw9⟩; subst hw9; rw [HSB.out]) | (go_at_call 27; refine (asame_any _ _ _ _ _ _ _ _ _ _ F5 F _ HV3.out HSL.out).mono ?_; rintro e w10 ⟨rfl, hg10⟩; rw [HS0.out]))
      go_ret
      exact ⟨ret_bool (by simp), hgw7.trans hg10⟩
  · obtain ⟨k, hk, hR⟩ : ∃ k : Int, (k = 2 ∨ k = 3) ∧ getM L.length b = (k, []) := by
      rcases hr with hr | hr
      · exact ⟨2, .inl rfl, hr⟩
      · exact ⟨3, .inr rfl, hr⟩
    refine (aget_code k _ _ _ b ga _ sl4 HW.out k3a k3b (by omega) (by omega) hR).mono ?_
    rintro e w5 ⟨rfl, hg5⟩
    have hgw := hg4.trans hg5
    obtain ⟨x1, x2, x3⟩ := tri_cells w5 0 0 (.slice none 0 0) 24
    have hgw5 := hgw.alloc (.cells #[.int .i64 0, .int .i64 0, .slice none 0 0] 24)
    clear hg4 hg5 hR hr hbb HW e1 e2 e3 sl4 hsl hTS2 hgw
    rcases hk with rfl | rfl
    all_goals
      go_wp2_with fail
      refine (HTD.out _ hgw5).mono ?_
      rintro e w7 ⟨rfl, hg7⟩
      have y1 := cell_gr x1 hg7
      have y2 := cell_gr x2 hg7
      have y3 := cell_gr x3 hg7
      go_wp2_with fail
      go_ret
      exact ⟨ret_bool (by simp), hgw5.trans hg7⟩

end Go.Proofs.YtakmiafloolpmaaDoor
