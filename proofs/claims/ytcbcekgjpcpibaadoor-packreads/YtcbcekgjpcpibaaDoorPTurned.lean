/- PackTurned's walk: it answers true at every input where the package's variables hold what its text lays; nothing that was there is written. -/
import Derived.Test.YtcbcekgjpcpibaaDoorPCuts
namespace Go.Proofs.YtcbcekgjpcpibaaDoor
open Go.RowKit
set_option maxRecDepth 20000

theorem rowL_copy {w1 u w0 : World} {B n cc : Nat} {v' : Value} {f : Nat → Int} (h : w1.ownsRow B 5 1 v' (0 + n) ([] ++ cel .u8 n f)) (hn : 0 < n) (hg : u.grownBy w1 (Value.slice (some ⟨B, 0, none⟩) 0 cc).ownBlock) (h0 : Gr w0 u) (hB : w0.heap.size ≤ B) (hb : ∀ i, i < n → 0 ≤ f i ∧ f i ≤ 255) :
    ∃ g c, v' = .slice (some ⟨g, 0, none⟩) n c ∧ OwnB w1 w0.heap.size g n c f ∧ Gr w0 w1 := by
  rw [Nat.zero_add, List.nil_append] at h
  rcases h.2 with ⟨_, h0'⟩ | ⟨g, cap, cur, rfl, hb', r⟩
  · omega
  · refine ⟨g, cap, rfl, ⟨own_mono h hB, hb⟩, Gr.grown h0 hg ?_⟩
    intro k hk
    simp [Value.ownBlock] at hk
    omega

theorem wrap8 (n : Int) : IntKind.u8.wrap n = n % 256 := by simp [IntKind.wrap, IntKind.bits, IntKind.signed]
theorem xor8_eq (a b : Int) : bits .xor .u8 a b = IntKind.u8.wrap ((BitVec.ofInt 8 a ^^^ BitVec.ofInt 8 b).toNat : Int) := rfl
theorem xor8_bd (a b : Int) : 0 ≤ bits .xor .u8 a b ∧ bits .xor .u8 a b ≤ 255 := by
  rw [xor8_eq, wrap8]
  omega
theorem xor8_zero {a : Int} (h : 0 ≤ a ∧ a ≤ 255) : bits .xor .u8 a 0 = a := by
  obtain ⟨k, rfl⟩ : ∃ k : Nat, a = k := ⟨a.toNat, by omega⟩
  have h1 : (BitVec.ofInt 8 (k : Int)).toNat = k := by
    rw [BitVec.ofInt_natCast, BitVec.toNat_ofNat]; exact Nat.mod_eq_of_lt (by omega)
  have h2 : (BitVec.ofInt 8 0).toNat = 0 := by decide
  rw [xor8_eq, BitVec.toNat_xor, h1, h2, Nat.xor_zero, wrap8]
  omega
theorem sameTB_of {W H : Int} {n m : Nat} {f g : Nat → Int} (h1 : n = m) (h : ∀ i, i < n → f i = g i) : sameTB W H n f W H m g = true := by simp [sameTB, sameB, h1]; intro i hi; exact h i (by omega)
theorem sameB_of {n m : Nat} {f g : Nat → Int} (h1 : n = m) (h : ∀ i, i < n → f i = g i) : sameB n f m g = true := (sameB_iff _ _ _ _).2 ⟨h1, h⟩

set_option maxHeartbeats 3000000 in
theorem packTurned_any (a : Option Addr) (n cap : Nat) (f : Nat → Int) (x y few at_ by_ : Int) (ga : Nat → Addr) (w : World) (h : Sl w a n f) (hn : n ≤ maxLen) (hw : Glob w ga) (hby : 0 ≤ by_ ∧ by_ ≤ 255) :
    Calls Tryd.prog 5 #[.slice a n cap, .int .i64 x, .int .i64 y, .int .i64 few, .int .i64 at_, .int .u8 by_] w fun e w' => e = .returned (.bool true) ∧ Gr w w' := by
  obtain ⟨i0, hi, hz0, hz1, hz2⟩ := info_parts info_u8
  go_enter Tryd.func5, Tryd.ntmps5
  go_wp2_with fail
  refine (near_made _ _ _ _ _ f _ _ _ _ h hn).mono ?_
  rintro e w1 ⟨⟨g, c', N, F, W, H, rfl, hown, hm⟩, hg1⟩
  obtain ⟨q1, q2, -, -, hsl⟩ := hown.sl
  obtain ⟨n1, n2, n3, -⟩ := mayTB_n hm
  obtain ⟨mW, mH, -, -⟩ := (mayTB_iff _ _ _ _).1 hm
  have hF := may_bd hm hown.byte
  obtain ⟨c1, c2, c3⟩ := tri_cells w1 W H (.slice (some ⟨g, 0, none⟩) N c') 26
  replace hsl := hsl.gr ((Gr.refl w1).alloc (.cells #[.int .i64 W, .int .i64 H, .slice (some ⟨g, 0, none⟩) N c'] 26))
  have hgr : Gr w (w1.alloc (.cells #[.int .i64 W, .int .i64 H, .slice (some ⟨g, 0, none⟩) N c'] 26)) := hg1.alloc _
  clear hown hg1
  go_wp2_with fail
  generalize (w1.alloc (.cells #[.int .i64 W, .int .i64 H, .slice (some ⟨g, 0, none⟩) N c'] 26)) = u0 at *
  generalize w1.heap.size = B at *
  refine (put_yes _ _ _ _ _ F _ hsl q1 q2 hm).mono ?_
  rintro e w2 ⟨⟨g2, k2, rfl, ho2⟩, hg2⟩
  replace c1 := cell_gr c1 hg2
  replace c2 := cell_gr c2 hg2
  replace c3 := cell_gr c3 hg2
  replace hsl := hsl.gr hg2
  replace hgr := hgr.trans hg2
  obtain ⟨p1, p2, -, -, sl2⟩ := ho2.sl
  have hLb := putL_bd2 (f := F) n1
  have hGP : ∀ b : Nat → Int, (∀ j, j < (putL N F).length → b j = at0 (putL N F) j) → getL N (putL N F).length b = (0, lst N F, (putL N F).length) := fun b hb => by
    rw [get_put (B := (putL N F).length) n1 hF (fun j hj _ => hb j hj), if_neg (by omega)]
  have hLy : ∀ i, i < (putL N F).length → 0 ≤ at0 (putL N F) i ∧ at0 (putL N F) i ≤ 255 := ho2.byte
  clear ho2
  generalize putL N F = L at *
  obtain ⟨l, hl⟩ : ∃ l : Nat, l = (withinF at_ 0 ((L.length : Int) - 1)).toNat := ⟨_, rfl⟩
  have lb := within_bd at_ 0 ((L.length : Int) - 1) (by omega)
  have hl2 : withinF at_ 0 ((L.length : Int) - 1) = l := by omega
  have hlN : l < L.length := by omega
  have HL2 := hide hl2
  have HGP := hide hGP
  have HF := hide hF
  have HLY := hide hLy
  have l0 : ((L.length : Int) == 0) = false := by rw [beq_eq_false_iff_ne]; omega
  have wN : IntKind.i64.wrap ((L.length : Int) - 1) = (L.length : Int) - 1 := wrapI (by omega)
  have l1 : 0 ≤ (l : Int) := by omega
  have l2 : (l : Int) < L.length := by omega
  have HC2 : Hid (∀ u, Gr w2 u → ∀ j v, (cel .u8 L.length (at0 L))[j]? = some v → u.cell? ((⟨g2, 0, none⟩ : Addr).add j) = some v) := hide (by
    obtain ⟨b', o', e, hb', hc⟩ := sl2.at (by omega)
    cases e
    exact fun u hu => cel_at hc hb' hu)
  have hB2 : B < w2.heap.size := World.block_lt_of_cell? w2 ⟨B, 0, none⟩ c1
  clear hl2 lb hF hLy hGP hl sl2 hg2
  go_wp2_with (first | (at_builtin; refine wpList_append_own _ rfl _ _ 22 rfl w2.heap.size 5 i0 (.int .u8 0) 1 1 Tryd.underlying22 hi hz0 hz1 hz2 rfl (by decide) (.slice (some ⟨w2.heap.size, 0, none⟩) 0 0) 0 [] rfl (World.ownsRow_made w2 #[] 0 (Nat.le_refl _) (Nat.zero_le _) rfl) ⟨g2, 0, none⟩ L.length k2 (cel .u8 L.length (at0 L)) rfl (by simp [cel_len]) (HC2.out _ ((Gr.refl _).alloc _)) (cel_one _ _ _) (by unfold maxLen; omega) (by omega) (by simp only [World.size_alloc]; omega) ?_; intro v' w3 hown3 hgrow3 hnil3; obtain ⟨g3, k3, rfl, ho3, hg3⟩ := rowL_copy hown3 (by omega) hgrow3 ((Gr.refl w2).alloc _) (Nat.le_refl _) HLY.out; have d0 := ho3.cellAt hlN; have f0 := ho3.own.frozenAt l; have hq3 := ho3.sl; have HO3 := hide ho3; replace c1 := cell_gr c1 hg3; replace c2 := cell_gr c2 hg3; replace c3 := cell_gr c3 hg3; have hBg : B ≠ g3 := (by omega); clear ho3 hown3 hgrow3 hnil3) | (go_at_call 8; refine (within_st _ _ _ _ (by omega) (by omega) (by omega)).mono ?_; rintro e w8 ⟨rfl, hw8⟩; subst hw8; rw [HL2.out]))
  obtain ⟨z, hz⟩ : ∃ z, z = bits .xor .u8 (at0 L l) by_ := ⟨_, rfl⟩
  have zb : 0 ≤ z ∧ z ≤ 255 := by rw [hz]; exact xor8_bd _ _
  have zz : by_ = 0 → z = at0 L l := fun e => by rw [hz, e]; exact xor8_zero (HLY.out l hlN)
  have HZZ := hide zz
  rw [← hz]
  clear hz zz
  have ho4 := HO3.out.set l zb
  have hg4 : Gr w (w8.setCell ⟨g3, l, none⟩ (.int .u8 z)) := (hgr.trans hg3).set (p := ⟨g3, l, none⟩) (by have := hgr.size; have := hq3.2.2.1; show _ ≤ g3; omega) _
  have hgg : g ≠ g3 := by
    obtain ⟨b', o', e, hb', -⟩ := hsl.at n1
    cases e
    have := hq3.2.2.1
    omega
  replace hsl := (hsl.gr hg3).setF (p := ⟨g3, l, none⟩) (v := .int .u8 z) hgg
  obtain ⟨k3a, k3b, -, -, sl4⟩ := ho4.sl
  have e1 : (w8.setCell ⟨g3, l, none⟩ (.int .u8 z)).cell? ⟨B, 0, none⟩ = some (.int .i64 W) := by rw [World.cell?_setCell_far _ _ _ _ (by exact fun e => hBg e.symm)]; exact c1
  have e2 : (w8.setCell ⟨g3, l, none⟩ (.int .u8 z)).cell? ⟨B, 1, none⟩ = some (.int .i64 H) := by rw [World.cell?_setCell_far _ _ _ _ (by exact fun e => hBg e.symm)]; exact c2
  have e3 : (w8.setCell ⟨g3, l, none⟩ (.int .u8 z)).cell? ⟨B, 2, none⟩ = some (.slice (some ⟨g, 0, none⟩) N c') := by rw [World.cell?_setCell_far _ _ _ _ (by exact fun e => hBg e.symm)]; exact c3
  have hGP : by_ = 0 → getL N L.length (upd (at0 L) l z) = (0, lst N F, L.length) := fun e => HGP.out _ fun j hj => by
    unfold upd
    split
    · rename_i hj'
      rw [hj']
      exact HZZ.out e
    · rfl
  have HGP2 := hide hGP
  have hwg := hw.gr hg4
  have hbb : ∀ i, i < L.length → 0 ≤ upd (at0 L) l z i ∧ upd (at0 L) l z i ≤ 255 := sl4.byte
  clear hGP HGP HZZ HO3 ho4 HC2 HLY d0 f0 hq3 c1 c2 c3 hgr hg3 hgg hBg hB2 HL2 hw h
  generalize upd (at0 L) l z = b at *
  generalize (w8.setCell ⟨g3, l, none⟩ (.int .u8 z)) = u3 at *
  rcases getL_kind N L.length b with hr | hr
  · obtain ⟨L', u, hR⟩ : ∃ L' u, getL N L.length b = (0, L', u) := ⟨_, _, Prod.ext hr rfl⟩
    obtain ⟨-, -, r1, r2, r3, r4⟩ := getL_ok hbb n1 hR
    have hmay : mayTB W H N (at0 L') = true := (mayTB_iff _ _ _ _).2 ⟨mW, mH, n3, fun i hi => by
      unfold at0
      rw [List.getD_eq_getElem?_getD, List.getElem?_eq_getElem (by omega)]
      have := r2 (L'[i]'(by omega)) (List.getElem_mem _)
      simp only [Option.getD_some]
      omega⟩
    refine (Go.Proofs.YtcbcekgjpcpibaaDoor.get_ok L' u _ _ _ _ _ N b ga _ sl4 hwg k3a k3b (by omega) mW mH n3 hR).mono ?_
    rintro e w5 ⟨⟨g5, k5, rfl, v1, v2, v3⟩, hg5⟩
    replace e1 := cell_gr e1 hg5
    replace e2 := cell_gr e2 hg5
    replace e3 := cell_gr e3 hg5
    replace hsl := hsl.gr hg5
    replace sl4 := sl4.gr hg5
    have hgw := hg4.trans hg5
    subst r1
    have HR4 : Hid ((putL L'.length (at0 L')).length = u ∧ ∀ i, i < u → (putL L'.length (at0 L')).getD i 0 = b i) := hide (by
      rw [r4]
      exact ⟨lst_len _ _, fun i hi => lst_get _ _ hi⟩)
    have HSAME : Hid (by_ = 0 → sameTB W H L'.length (at0 L') W H L'.length F = true) := hide (fun e => by
      have := HGP2.out e
      rw [hR] at this
      have hl' : L' = lst L'.length F := congrArg (fun r => r.2.1) this
      refine sameTB_of rfl fun i hi => ?_
      exact (congrArg (fun l => at0 l i) hl').trans (at0_lst hi))
    clear hg4 hg5 hR r2 r4 HGP2 hr hbb hwg
    obtain ⟨x1, x2, x3⟩ := tri_cells w5 W H (.slice (some ⟨g5, 0, none⟩) L'.length k5) 26
    have hg6 : Gr w5 (w5.alloc (.cells #[.int .i64 W, .int .i64 H, .slice (some ⟨g5, 0, none⟩) L'.length k5] 26)) := (Gr.refl _).alloc _
    replace e1 := cell_gr e1 hg6
    replace e2 := cell_gr e2 hg6
    replace e3 := cell_gr e3 hg6
    replace hsl := hsl.gr hg6
    replace sl4 := sl4.gr hg6
    replace v3 := v3.gr hg6
    replace hgw := hgw.trans hg6
    clear hg6
    go_wp2_with fail
    generalize (w5.alloc (.cells #[.int .i64 W, .int .i64 H, .slice (some ⟨g5, 0, none⟩) L'.length k5] 26)) = u5 at *
    generalize w5.heap.size = B5 at *
    refine (put_yes _ _ _ _ _ (at0 L') _ v3 v1 v2 hmay).mono ?_
    rintro e w6 ⟨⟨g6, k6, rfl, ho6⟩, hg6⟩
    have sy := ho6.sl.2.2.2.2
    have HSB : Hid (sameB (putL L'.length (at0 L')).length (fun i => (putL L'.length (at0 L')).getD i 0) u b = true) := hide (sameB_of HR4.out.1 (fun i hi => HR4.out.2 i (by have := HR4.out.1; omega)))
    clear ho6 HR4
    generalize putL L'.length (at0 L') = P at *
    replace x1 := cell_gr x1 hg6
    replace x2 := cell_gr x2 hg6
    replace x3 := cell_gr x3 hg6
    replace e1 := cell_gr e1 hg6
    replace e2 := cell_gr e2 hg6
    replace e3 := cell_gr e3 hg6
    replace hsl := hsl.gr hg6
    replace sl4 := sl4.gr hg6
    replace v3 := v3.gr hg6
    replace hgw := hgw.trans hg6
    clear hg6 hmay
    have r3' : (u : Int) ≤ (L.length : Int) := by omega
    have r3'' : (u : Int) ≤ (k3 : Int) := by omega
    by_cases hb0 : by_ = 0
    · have HS0 := hide (HSAME.out hb0)
      subst hb0
      go_wp2_with (first | (go_at_call 7; refine (told3_any _).mono ?_; rintro e w7 ⟨rfl, hg7⟩; replace x1 := cell_gr x1 hg7; replace x2 := cell_gr x2 hg7; replace x3 := cell_gr x3 hg7; replace e1 := cell_gr e1 hg7; replace e2 := cell_gr e2 hg7; replace e3 := cell_gr e3 hg7) | (go_at_call 12; refine (rbytes_any _ _ _ _ _ _ _ b _ (sy.gr (by repeat (first | exact Gr.refl _ | assumption | exact Dr.gr (by assumption) | refine Gr.alloc ?_ _ | refine Gr.drewN ?_ _ | refine Gr.drew ?_ | refine Gr.trans ?_ (by assumption) | refine Gr.trans ?_ (Dr.gr (by assumption))))) ((sl4.take r3).gr (by repeat (first | exact Gr.refl _ | assumption | exact Dr.gr (by assumption) | refine Gr.alloc ?_ _ | refine Gr.drewN ?_ _ | refine Gr.drew ?_ | refine Gr.trans ?_ (by assumption) | refine Gr.trans ?_ (Dr.gr (by assumption)))))).mono ?_; rintro e w9 ⟨rfl, hw9⟩; subst hw9; rw [HSB.out]) | (go_at_call 11; refine (rsameT_any _ _ _ _ _ _ _ _ _ _ (at0 L') F _ (v3.gr (by repeat (first | exact Gr.refl _ | assumption | exact Dr.gr (by assumption) | refine Gr.alloc ?_ _ | refine Gr.drewN ?_ _ | refine Gr.drew ?_ | refine Gr.trans ?_ (by assumption) | refine Gr.trans ?_ (Dr.gr (by assumption))))) (hsl.gr (by repeat (first | exact Gr.refl _ | assumption | exact Dr.gr (by assumption) | refine Gr.alloc ?_ _ | refine Gr.drewN ?_ _ | refine Gr.drew ?_ | refine Gr.trans ?_ (by assumption) | refine Gr.trans ?_ (Dr.gr (by assumption)))))).mono ?_; rintro e w10 ⟨rfl, hg10⟩; rw [HS0.out]))
      go_ret
      exact ⟨ret_bool (by simp), (by repeat (first | exact Gr.refl _ | assumption | exact Dr.gr (by assumption) | refine Gr.alloc ?_ _ | refine Gr.drewN ?_ _ | refine Gr.drew ?_ | refine Gr.trans ?_ (by assumption) | refine Gr.trans ?_ (Dr.gr (by assumption))))⟩
    · have hb1 : (by_ != 0) = true := by simp [hb0]
      clear hb0 HSAME
      go_wp2_with (first | (go_at_call 7; refine (told3_any _).mono ?_; rintro e w7 ⟨rfl, hg7⟩; replace x1 := cell_gr x1 hg7; replace x2 := cell_gr x2 hg7; replace x3 := cell_gr x3 hg7; replace e1 := cell_gr e1 hg7; replace e2 := cell_gr e2 hg7; replace e3 := cell_gr e3 hg7) | (go_at_call 12; refine (rbytes_any _ _ _ _ _ _ _ b _ (sy.gr (by repeat (first | exact Gr.refl _ | assumption | exact Dr.gr (by assumption) | refine Gr.alloc ?_ _ | refine Gr.drewN ?_ _ | refine Gr.drew ?_ | refine Gr.trans ?_ (by assumption) | refine Gr.trans ?_ (Dr.gr (by assumption))))) ((sl4.take r3).gr (by repeat (first | exact Gr.refl _ | assumption | exact Dr.gr (by assumption) | refine Gr.alloc ?_ _ | refine Gr.drewN ?_ _ | refine Gr.drew ?_ | refine Gr.trans ?_ (by assumption) | refine Gr.trans ?_ (Dr.gr (by assumption)))))).mono ?_; rintro e w9 ⟨rfl, hw9⟩; subst hw9; rw [HSB.out]))
      go_ret
      exact ⟨ret_bool (by simp), (by repeat (first | exact Gr.refl _ | assumption | exact Dr.gr (by assumption) | refine Gr.alloc ?_ _ | refine Gr.drewN ?_ _ | refine Gr.drew ?_ | refine Gr.trans ?_ (by assumption) | refine Gr.trans ?_ (Dr.gr (by assumption))))⟩
  · obtain ⟨k, hk, hR⟩ : ∃ k : Int, (k = 2 ∨ k = 3) ∧ getL N L.length b = (k, [], 0) := by
      rcases hr with hr | hr
      · exact ⟨2, .inl rfl, hr⟩
      · exact ⟨3, .inr rfl, hr⟩
    refine (get_err k _ _ _ _ _ N b ga _ sl4 hwg k3a k3b (by omega) mW mH n3 (by omega) hR).mono ?_
    rintro e w5 ⟨rfl, hg5⟩
    have hgw := hg4.trans hg5
    clear hg4 hg5 hR HGP2 hr hbb hwg e1 e2 e3 sl4 hsl
    rcases hk with rfl | rfl
    all_goals
      go_wp2_with (go_at_call 7; refine (told3_any _).mono ?_; rintro e w7 ⟨rfl, hg7⟩; obtain ⟨ho7, hf7, hs7⟩ := hg7.old)
      go_ret
      exact ⟨ret_bool (by simp), (by repeat (first | exact Gr.refl _ | assumption | exact Dr.gr (by assumption) | refine Gr.alloc ?_ _ | refine Gr.drewN ?_ _ | refine Gr.drew ?_ | refine Gr.trans ?_ (by assumption) | refine Gr.trans ?_ (Dr.gr (by assumption))))⟩

end Go.Proofs.YtcbcekgjpcpibaaDoor
