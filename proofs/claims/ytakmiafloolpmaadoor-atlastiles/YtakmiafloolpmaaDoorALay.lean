/- What atlas.lay and the document's Joined answer, of tiles in memory. -/
import Derived.Test.YtakmiafloolpmaaDoorAWalks3
namespace Go.Proofs.YtakmiafloolpmaaDoor
open Go.RowKit
set_option maxRecDepth 20000

/-- a tile in memory: its sides, its costs -/
structure Ti where
  W : Int
  H : Int
  a : Option Addr
  n : Nat
  c : Nat
  f : Nat → Int
/-- the slice at a, of n tiles, reads as t -/
structure TSl (w : World) (a : Option Addr) (n : Nat) (t : Nat → Ti) : Prop where
  sl : ∀ i, i < n → Sl w (t i).a (t i).n (t i).f ∧ (t i).n ≤ (t i).c ∧ (t i).c ≤ maxLen
  has : n = 0 ∨ ∃ b o, a = some ⟨b, o, none⟩ ∧ b < w.heap.size ∧ ∀ i, i < n → w.cell? ⟨b, o + i * 3, none⟩ = some (.int .i64 (t i).W) ∧ w.cell? ⟨b, o + i * 3 + 1, none⟩ = some (.int .i64 (t i).H) ∧ w.cell? ⟨b, o + i * 3 + 2, none⟩ = some (.slice (t i).a (t i).n (t i).c)
theorem TSl.gr {w w' : World} {a : Option Addr} {n : Nat} {t : Nat → Ti} (h : TSl w a n t) (g : Gr w w') : TSl w' a n t := by
  refine ⟨fun i hi => ⟨(h.sl i hi).1.gr g, (h.sl i hi).2⟩, ?_⟩
  rcases h.has with h0 | ⟨b, o, rfl, hb, hc⟩
  · exact .inl h0
  · exact .inr ⟨b, o, rfl, Nat.lt_of_lt_of_le hb g.size, fun i hi => ⟨cell_gr (hc i hi).1 g, cell_gr (hc i hi).2.1 g, cell_gr (hc i hi).2.2 g⟩⟩

theorem splice_cel {N off m : Nat} {F G : Nat → Int} (h : off + m ≤ N) : splice (cel .u8 N F) off (cel .u8 m G) = cel .u8 N (fun i => if off ≤ i ∧ i < off + m then G (i - off) else F i) := by
  apply List.ext_getElem?
  intro i
  unfold splice
  by_cases h1 : i < off
  · rw [List.getElem?_append_left (by simp [cel_len]; omega), List.getElem?_take, if_pos h1, cel_get _ _ _ (by omega), cel_get _ _ _ (by omega), if_neg (by omega)]
  · rw [List.getElem?_append_right (by simp [cel_len]; omega)]
    have hl : (List.take off (cel .u8 N F)).length = off := by simp [cel_len]; omega
    rw [hl]
    by_cases h2 : i < off + m
    · rw [List.getElem?_append_left (by rw [cel_len]; omega), cel_get _ _ _ (by omega), cel_get _ _ _ (by omega), if_pos (by omega)]
    · rw [List.getElem?_append_right (by rw [cel_len]; omega), cel_len, List.getElem?_drop]
      rw [show off + m + (i - off - m) = i by omega]
      by_cases h3 : i < N
      · rw [cel_get _ _ _ h3, cel_get _ _ _ h3, if_neg (by omega)]
      · rw [List.getElem?_eq_none (by rw [cel_len]; omega), List.getElem?_eq_none (by rw [cel_len]; omega)]
/-- a row of a tile is laid -/
theorem lay_row {W H : Int} {ts : List (List Int)} {N s r TW TH : Nat} (hm : mayB W H = true) (hN : (N : Int) = W * H) (hs : s < cntS W H) (h1 : twF W s = TW) (h2 : thF W H s = TH) (hr : r < TH) {c : Nat} (hc : c < N) :
    layF W ts s ((r + 1) * TW) c = if gcF W s (r * TW) ≤ c ∧ c < gcF W s (r * TW) + TW then at0 (ts.getD s []) (r * TW + (c - gcF W s (r * TW))) else layF W ts s (r * TW) c := by
  have hs1 := sec_of hs
  have hm1 : (r + 1) * TW = r * TW + TW := by rw [Nat.add_mul, Nat.one_mul]
  split
  · rename_i h
    obtain ⟨j, rfl⟩ : ∃ j, c = gcF W s (r * TW) + j := ⟨c - gcF W s (r * TW), by omega⟩
    obtain ⟨g1, g2⟩ := gc_row hs1 h1 h2 hr (j := j) (by omega)
    rw [← g1]
    obtain ⟨-, -, e1, e2⟩ := gcF_eq hs1 g2
    unfold layF
    rw [e1, e2, if_pos (by omega), join_at hs1 g2, g1]
    congr 1
    omega
  · rename_i h
    obtain ⟨s', l, k1, k2, k3, k4, k5⟩ := cell_at hm hN hc
    have : ¬ (s' = s ∧ r * TW ≤ l ∧ l < r * TW + TW) := by
      rintro ⟨rfl, q1, q2⟩
      obtain ⟨g1, g2⟩ := gc_row hs1 h1 h2 hr (j := l - r * TW) (by omega)
      rw [show r * TW + (l - r * TW) = l by omega, k5] at g1
      omega
    unfold layF
    rw [k3, k4]
    by_cases q : s' < s ∨ s' = s ∧ l < r * TW
    · rw [if_pos (by omega), if_pos (by omega)]
    · rw [if_neg (by omega), if_neg (by omega)]
/-- a row of bytes that is known whole -/
def Row (w : World) (g N : Nat) (F : Nat → Int) : Prop := w.heap[g]? = some (.cells (cel .u8 N F).toArray 5 (0, 0))
theorem Row.congr {w : World} {g N : Nat} {F G : Nat → Int} (h : Row w g N F) (e : ∀ i, i < N → F i = G i) : Row w g N G := by
  unfold Row
  rw [← cel_congr e]
  exact h
theorem Row.of {w w' : World} {g N : Nat} {F : Nat → Int} (h : Row w g N F) (k : Gr w w') : Row w' g N F := by
  unfold Row at h ⊢
  rw [Below.block k g (Array.getElem?_eq_some_iff.1 h).1]
  exact h
theorem Row.sl {w : World} {g N : Nat} {F : Nat → Int} (h : Row w g N F) (hF : ∀ i, i < N → 0 ≤ F i ∧ F i ≤ 255) : Sl w (some ⟨g, 0, none⟩) N F := by
  refine ⟨hF, .inr ⟨g, 0, rfl, (Array.getElem?_eq_some_iff.1 h).1, fun i hi => ?_⟩⟩
  unfold Row at h
  rw [Nat.zero_add]
  simp [World.cell?, h, cel_get _ _ _ hi]
theorem Row.made (w : World) (N : Nat) : Row (w.alloc (.cells (madeCells #[.int .u8 0] N) 5)) w.heap.size N (fun _ => 0) := by
  obtain ⟨c, h1, h2, h3⟩ := World.rowIs_made w (.int .u8 0) N 5
  unfold Row
  rw [h1]
  congr 2
  apply Array.ext_getElem?
  intro i
  by_cases hi : i < N
  · rw [h3 i hi, List.getElem?_toArray, cel_get _ _ _ hi]
  · rw [Array.getElem?_eq_none (by omega), List.getElem?_toArray, List.getElem?_eq_none (by rw [cel_len]; omega)]
theorem Row.set {w : World} {g N k : Nat} {F : Nat → Int} {x : Int} (h : Row w g N F) : Row (w.setCell ⟨g, k, none⟩ (.int .u8 x)) g N (fun i => if i = k then x else F i) := by
  unfold Row at h ⊢
  rw [← cel_set]
  simp [World.setCell, Array.getElem?_modify, h]
theorem Row.setO {w : World} {g N : Nat} {F : Nat → Int} {p : Addr} {v : Value} (h : Row w g N F) (hp : g ≠ p.block) : Row (w.setCell p v) g N F := by
  unfold Row at h ⊢
  rw [Deep.blk_setCell_other _ _ _ _ hp]
  exact h
/-- what a copy into a row leaves: that row, and all else as it was -/
structure Cop (g N : Nat) (F : Nat → Int) (w w' : World) : Prop where
  row : Row w' g N F
  oth : ∀ k, k ≠ g → w'.heap[k]? = w.heap[k]?
  size : w'.heap.size = w.heap.size
  gr : ∀ w0, Gr w0 w → w0.heap.size ≤ g → Gr w0 w'
theorem step_copy_row {P : Program} {ops : Array Oper} {o : Oper} {a : Act} {w : World} {K : Act → World → Prop} {Q : Exit → Act → World → Prop} {E : Prop} (hgd : o.guard = none) (d s : Operand) (dT sT : TypeId)
    (ho : o.op = .call { callee := .builtin .copy, args := #[d, s], argTypes := #[dT, sT] }) (elem : TypeId) (hu : P.underlying dT = some (.slice elem)) (hsz : (P.info? elem).map (·.size) = some 1)
    (g off dLen dCap : Nat) (ad : Addr) (sLen sCap : Nat) (hd : a.eval d = .slice (some ⟨g, off, none⟩) dLen dCap) (hs : a.eval s = .slice (some ad) sLen sCap) (N m : Nat) (F G : Nat → Int) (hg : Row w g N F) (hm : m = Nat.min sLen dLen)
    (hsrc : ∀ j v, (cel .u8 m G)[j]? = some v → w.cell? (ad.add j) = some v) (hfit : off + m ≤ N)
    (h : ∀ w', Cop g N (fun i => if off ≤ i ∧ i < off + m then G (i - off) else F i) w w' → K (a.put o.dst (goInt m)) w') :
    if Region.wanted o (yielded ops a.tmps) = true then Oper.wp P o a w K Q else E := by
  have hw : Region.wanted o (yielded ops a.tmps) = true := by simp [Region.wanted, hgd]
  rw [if_pos hw]
  have hrun := run_copy_row (P := P) w dT sT o.type elem g off dLen dCap ad sLen sCap (cel .u8 N F).toArray 5 (cel .u8 m G) hu hsz hg (by rw [cel_len]; exact hm) hsrc (by simp [cel_len]; exact hfit) (cel_one _ _ _)
  have e : (List.take off (cel .u8 N F).toArray.toList ++ cel .u8 m G ++ List.drop (off + (cel .u8 m G).length) (cel .u8 N F).toArray.toList) = cel .u8 N (fun i => if off ≤ i ∧ i < off + m then G (i - off) else F i) := by
    rw [← splice_cel hfit, List.append_assoc]
    rfl
  rw [e, cel_len] at hrun
  unfold Oper.wp
  simp [execOp, ho, resolve, invoke, builtin, hd, hs, hrun, Result.andThen]
  exact h _ ⟨setRow_heap w g _ _ _ _ hg, fun k hk => setRow_other w g k _ hk, setRow_size _ _ _, fun w0 hw0 hb => below_setRow hw0 hb _⟩

theorem cop_cell {g N b o : Nat} {F : Nat → Int} {w w' : World} {v : Value} (h : Cop g N F w w') (hb : b ≠ g) (hc : w.cell? ⟨b, o, none⟩ = some v) : w'.cell? ⟨b, o, none⟩ = some v := by
  rw [World.cell?_of_block (w := w) (a := ⟨b, o, none⟩) (h.oth b hb)]
  exact hc

set_option maxHeartbeats 4000000 in
theorem alay_any (W H : Int) (a : Option Addr) (n cap N : Nat) (t : Nat → Ti) (ts : List (List Int)) (w : World) (h : TSl w a n t) (hm : mayB W H = true) (hn : n = cntS W H) (hN : (N : Int) = W * H)
    (ht : ∀ s, s < n → (t s).W = twF W s ∧ (t s).H = thF W H s ∧ (t s).n = tnF W H s ∧ ∀ i, i < tnF W H s → (t s).f i = at0 (ts.getD s []) i) :
    Calls Tryd.prog 48 #[.int .i64 W, .int .i64 H, .slice a n cap] w fun e w' => (∃ g, e = .returned (.agg #[.int .i64 W, .int .i64 H, .slice (some ⟨g, 0, none⟩) N N]) ∧ Row w' g N (joinF W ts) ∧ w.heap.size ≤ g) ∧ Gr w w' := by
  obtain ⟨i0, hi, hz0, hz1, hz2⟩ := info_parts info_u8
  have mm := may_mul hm
  have hcn := cntS_eq hm
  obtain ⟨b, o, rfl, hB, hcell⟩ : ∃ b o, a = some ⟨b, o, none⟩ ∧ b < w.heap.size ∧ ∀ i, i < n → w.cell? ⟨b, o + i * 3, none⟩ = some (.int .i64 (t i).W) ∧ w.cell? ⟨b, o + i * 3 + 1, none⟩ = some (.int .i64 (t i).H) ∧ w.cell? ⟨b, o + i * 3 + 2, none⟩ = some (.slice (t i).a (t i).n (t i).c) := by
    rcases h.has with h0 | h1
    · omega
    · exact h1
  have hmul : W * H = (N : Int) := hN.symm
  have hmk := run_make_row' (P := Tryd.prog) 22 5 (.int .u8 0) 1 Tryd.underlying22 info_u8 rfl .i64 .i64 N (by omega) (by omega)
  have hn4 : n ≤ 4096 := by omega
  have HT := hide ht
  have HCE := hide hcell
  have HN := hide hN
  have HHN := hide hn
  have HCN := hide hcn
  clear ht hcell hN hcn hn
  go_enter Tryd.func48, Tryd.ntmps48
  go_wp2_with fail
  have s0 : Row ((w.alloc (.cells #[.int .i64 0, .int .i64 0, .slice none 0 0] 24)).alloc (.cells (madeCells #[.int .u8 0] N) 5)) (w.heap.size + 1) N (layF W ts 0 0) := by
    have := Row.made (w.alloc (.cells #[.int .i64 0, .int .i64 0, .slice none 0 0] 24)) N
    rw [World.size_alloc] at this
    exact this.congr fun i hi => (lay_none W ts hm HN.out hi).symm
  have s1 := (tri_alloc w (.int .i64 0) (.int .i64 0) (.slice none 0 0) 24).alloc (.cells (madeCells #[.int .u8 0] N) 5)
  go_loopw [18] (fun i u => ∃ (s : Nat), s ≤ n ∧ i = .int .i64 s ∧ Row u (w.heap.size + 1) N (layF W ts s 0) ∧ u.rowIs w.heap.size 24 3 (tri (.int .i64 0) (.int .i64 0) (.slice none 0 0)) ∧ Gr w u) (fun i _ => n - (intOf i).toNat)
  case atStart => exact ⟨0, Nat.zero_le _, rfl, s0, s1, (by (repeat (first | (with_reducible exact Gr.refl _) | (with_reducible assumption) | (with_reducible refine Gr.alloc ?_ _) | (with_reducible refine Gr.drewN ?_ _) | (with_reducible refine Gr.drew ?_) | (with_reducible refine Gr.set ?_ (by dsimp only; omega) _) | (with_reducible refine Gr.trans ?_ (by with_reducible assumption)))); first | done | fail)⟩
  case round =>
    clear s0 s1
    obtain ⟨s, hs, rfl, hrow, hres, hgr⟩ := hrel
    by_cases hlt : s < n
    · obtain ⟨t1, t2, t3, t4⟩ := HT.out s hlt
      obtain ⟨k1, k2, k3⟩ := HCE.out s hlt
      have hsc : s < cntS W H := by have := HHN.out; omega
      have hs1 := sec_of hsc
      have sb := size_bd hs1
      have htn := tnF_eq hs1
      obtain ⟨TW, hTW⟩ : ∃ TW : Nat, twF W s = TW := ⟨(twF W s).toNat, by omega⟩
      obtain ⟨TH, hTH⟩ : ∃ TH : Nat, thF W H s = TH := ⟨(thF W H s).toNat, by omega⟩
      rw [t1, hTW] at k1
      rw [t2, hTH] at k2
      rw [t3] at k3
      replace k1 := cell_gr k1 hgr
      replace k2 := cell_gr k2 hgr
      replace k3 := cell_gr k3 hgr
      have HR := hide hrow
      have HRE := hide hres
      clear hrow hres
      obtain ⟨hsl, hc1, hc2⟩ := h.sl s hlt
      rw [t3] at hsl hc1
      obtain ⟨tb, tof, ha, htb, htc⟩ := hsl.at (by omega)
      rw [ha] at k3
      have hbyt := hsl.byte
      have HLR := hide (fun r (hr : r < TH) c (hc : c < N) => lay_row (ts := ts) hm HN.out hsc hTW hTH hr hc)
      have HM := hide (fun r hr j hj => gc_row (W := W) (H := H) (s := s) (r := r) (j := j) hs1 hTW hTH hr hj)
      have HC := hide (fun r hr => (gcF_eq hs1 (l := r) hr).1)
      have HL := hide (fun r hr => gcF_lt hs1 (l := r) hr HN.out)
      have hgy := fun (l : Int) (u : World) (h0 : 0 ≤ l) (h1 : l < twF W s * thF W H s) => global_yes W H s l u hs1 h0 h1
      have hnx := fun c (hc : c < N) => lay_next (ts := ts) (s := s) hm HN.out hc
      rw [hTW, hTH] at sb htn
      simp only [hTW, hTH] at hgy
      have HG := hide hgy
      have HNX := hide hnx
      have HTF := hide t4
      have HBY := hide hbyt
      have HTC := hide htc
      obtain ⟨Tn, hTn⟩ : ∃ Tn : Nat, tnF W H s = Tn := ⟨_, rfl⟩
      rw [hTn] at htn k3 HM HC HL HTF HTC HNX hc1 HBY
      have hmu : (TW : Int) * (TH : Int) = (Tn : Int) := htn.1.symm
      generalize (t s).f = tf at *
      generalize (t s).c = tc at *
      obtain ⟨-, htn1, htn2⟩ := htn
      clear hsl hgy hnx t1 t2 t3 t4 hbyt htc hTW hTH hs1 hsc hTn ha
      go_wp2_with fail
      have hT9 := tri_alloc wr (.int .i64 TW) (.int .i64 TH) (.slice (some ⟨tb, tof, none⟩) Tn tc) 31
      have hR9 := Row.of HR.out ((Gr.refl wr).alloc (.cells #[.int .i64 TW, .int .i64 TH, .slice (some ⟨tb, tof, none⟩) Tn tc] 31))
      have hE9 := row_gr HRE.out ((Gr.refl wr).alloc (.cells #[.int .i64 TW, .int .i64 TH, .slice (some ⟨tb, tof, none⟩) Tn tc] 31))
      have hG9 : Gr w (wr.alloc (.cells #[.int .i64 TW, .int .i64 TH, .slice (some ⟨tb, tof, none⟩) Tn tc] 31)) := hgr.alloc _
      have hl1 : w.heap.size + 1 < wr.heap.size := (Array.getElem?_eq_some_iff.1 HR.out).1
      have hB9 : wr.heap.size ≠ w.heap.size + 1 := by omega
      generalize (wr.alloc (.cells #[.int .i64 TW, .int .i64 TH, .slice (some ⟨tb, tof, none⟩) Tn tc] 31)) = u9 at *
      generalize wr.heap.size = B9 at *
      clear HR HRE k1 k2 k3
      go_loopw [25] (fun i u => ∃ (r : Nat), r ≤ TH ∧ i = .int .i64 r ∧ Row u (w.heap.size + 1) N (layF W ts s (r * TW)) ∧ u.rowIs w.heap.size 24 3 (tri (.int .i64 0) (.int .i64 0) (.slice none 0 0)) ∧ u.rowIs B9 31 3 (tri (.int .i64 TW) (.int .i64 TH) (.slice (some ⟨tb, tof, none⟩) Tn tc)) ∧ Gr w u) (fun i _ => TH - (intOf i).toNat)
      case atStart => exact ⟨0, Nat.zero_le _, rfl, by rw [Nat.zero_mul]; exact hR9, hE9, hT9, hG9⟩
      case round =>
        clear hR9 hE9 hT9 hG9
        obtain ⟨r, hr, rfl, hrow, hres, hbox, hgr2⟩ := hrel
        obtain ⟨k, hk⟩ : ∃ k, r * TW = k := ⟨_, rfl⟩
        have hkI : (r : Int) * (TW : Int) = (k : Int) := by rw [← Int.natCast_mul, hk]
        by_cases hlt2 : r < TH
        · have q1 := HM.out r hlt2 (TW - 1) (by omega)
          obtain ⟨q, hq⟩ : ∃ q, gcF W s k = q := ⟨_, rfl⟩
          rw [hk] at q1 hrow
          have hgq := HC.out k (by omega)
          have hqn := HL.out (k + (TW - 1)) (by omega)
          rw [q1.1] at hqn
          rw [hq] at hgq hqn
          have hlr := HLR.out r hlt2
          rw [hk, hq] at hlr
          have HK1 : Hid ((r + 1) * TW = k + TW) := hide (by rw [Nat.add_mul, hk, Nat.one_mul])
          rw [HK1.out] at hlr
          have hkl : (k : Int) < TW * TH := by rw [hmu]; omega
          have hk2 : k + TW ≤ Tn := by omega
          have hkc : k < tc := by omega
          have hqN : q + TW ≤ N := by omega
          have HGQ := hide hgq.symm
          have HLL := hide hlr
          have HR := hide hrow
          have HRE := hide hres
          have HBX := hide hbox
          obtain ⟨d1, d2, d3, -, -, -⟩ := row_cells hbox
          clear q1 hgq hlr hrow hres hbox hq
          go_wp2_with (go_at_call 53; refine (HG.out _ _ (by omega) (by omega)).mono ?_; rintro e w2 ⟨rfl, hd⟩; have hg2 := Dr.gr hd; clear hd; rw [HGQ.out]; replace d1 := cell_gr d1 hg2; replace d3 := cell_gr d3 hg2)
          have hsrc := cel_from (w := w) (u := w2.drew) (b := tb) (o := tof) (n := Tn) (q := k) (m := TW) (f := tf) ⟨HBY.out, .inr ⟨tb, tof, rfl, htb, HTC.out⟩⟩ hk2 (hgr2.trans hg2).drew
          have hrw2 := Row.of HR.out (hg2.drew)
          have HSR := hide hsrc
          have HRW := hide hrw2
          clear hsrc hrw2
          have x1 : (0 : Int) ≤ (q : Int) := by omega
          have x2 : (q : Int) ≤ (q : Int) + (TW : Int) := by omega
          have x3 : (q : Int) + (TW : Int) ≤ (N : Int) := by omega
          have x4 : IntKind.i64.wrap ((q : Int) + (TW : Int)) = (q : Int) + (TW : Int) := wrapI (by omega)
          have x5 : (0 : Int) ≤ (k : Int) := by omega
          have x6 : (k : Int) ≤ (Tn : Int) := by omega
          have x7 : q < N := by omega
          have x9 : IntKind.i64.wrap (k : Int) = (k : Int) := wrapI (by omega)
          have x10 : IntKind.i64.wrap ((r : Int) * (TW : Int)) = (k : Int) := by rw [hkI]; exact x9
          have x11 : ¬ k = tc := by omega
          have x12 : (k : Int) ≤ (tc : Int) := by omega
          have x13 : (Tn : Int) ≤ (tc : Int) := by omega
          have x8 : ((q : Int) + (TW : Int)).toNat = q + TW := by omega
          go_region_held3 (fun u => u.cell? ⟨B9, 0, none⟩ = some (.int .i64 TW) ∧ u.cell? ⟨B9, 2, none⟩ = some (.slice (some ⟨tb, tof, none⟩) Tn tc)) (first | exact ⟨d1, d3⟩ | exact ⟨cop_cell hcop hB9 d1, cop_cell hcop hB9 d3⟩) ((refine step_copy_row rfl (.tmp 42) (.tmp 49) 22 22 rfl 5 Tryd.underlying22 u8_size (w.heap.size + 1) q TW (N - q) ⟨tb, tof + k, none⟩ (Tn - k) (tc - k) (by simp [Act.eval]; omega) (by simp [Act.eval]; omega) N TW (layF W ts s k) (fun j => tf (k + j)) HRW.out (by show _ = min _ _; omega) HSR.out hqN ?_; intro w3 hcop))
          go_wp2
          go_roundw
          case rel =>
            refine ⟨r + 1, by omega, by go_num, ?_, ?_, ?_, ?_⟩
            · rw [HK1.out]
              refine hcop.row.congr fun c hc => ?_
              rw [HLL.out c hc]
              by_cases hin : q ≤ c ∧ c < q + TW
              · rw [if_pos hin, if_pos hin, HTF.out _ (by omega)]
              · rw [if_neg hin, if_neg hin]
            · exact (row_gr HRE.out hg2).of_block (hcop.oth _ (by omega))
            · exact (row_gr HBX.out hg2).of_block (hcop.oth _ hB9)
            · exact hcop.gr w (hgr2.trans hg2).drew (by omega)
          case measure => simp [intOf]; omega
        · have hrT : r = TH := by omega
          subst hrT
          have hkT : r * TW = Tn := by
            have : ((r * TW : Nat) : Int) = (Tn : Int) := by rw [← hmu]; push_cast; exact Int.mul_comm _ _
            omega
          rw [hkT] at hrow
          have HR := hide hrow
          have HRE := hide hres
          clear hrow hres hbox
          go_wp2
          go_roundw
          case rel => exact ⟨s + 1, by omega, by go_num, HR.out.congr fun c hc => HNX.out c hc, HRE.out, hgr2⟩
          case measure => simp [intOf]; omega
    · have hsn : s = n := by omega
      subst hsn
      have hall : Row wr (w.heap.size + 1) N (joinF W ts) := hrow.congr fun c hc => by rw [HHN.out]; exact lay_all hm HN.out hc
      obtain ⟨e1, e2, e3, j1, j2, j3⟩ := row_cells hres
      have HA := hide hall
      clear hall hrow hres
      go_wp2
      exact bodyPost_ret (v := .agg #[.int .i64 W, .int .i64 H, .slice (some ⟨w.heap.size + 1, 0, none⟩) N N]) (by simp [results, Tryd.results48, go_sem, e1, e2, e3]) rfl ⟨⟨w.heap.size + 1, rfl, ((HA.out.setO (p := ⟨w.heap.size, 0, none⟩) (by show w.heap.size + 1 ≠ w.heap.size; omega)).setO (p := ⟨w.heap.size, 1, none⟩) (by show w.heap.size + 1 ≠ w.heap.size; omega)).setO (p := ⟨w.heap.size, 2, none⟩) (by show w.heap.size + 1 ≠ w.heap.size; omega), by omega⟩, gr_set3 hgr (Nat.le_refl _)⟩

end Go.Proofs.YtakmiafloolpmaaDoor
