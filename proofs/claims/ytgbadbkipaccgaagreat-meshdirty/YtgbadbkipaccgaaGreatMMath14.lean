/- A mesh as a sheet of costs: nodes, how far it is between them, what leads into a node. Numbers alone. No condition. -/
import Derived.Test.YtgbadbkipaccgaaGreatCMath12
import Derived.Test.YtgbadbkipaccgaaGreatBCnt11
import Derived.Test.YtgbadbkipaccgaaGreatBX1
namespace Go.Proofs.YtgbadbkipaccgaaGreat

section
variable {nb nb' : Int → Int → Int} {f f' : Nat → Int} {n : Nat} {L : List Sd}
theorem told_fc (hn : nb = nb') (e : ∀ i, i < n → f i = f' i) {c : Nat} {v : Int} (h : Told nb f n L c v) : Told nb' f' n L c v := by
  subst hn
  induction h with
  | seed c x hx k => exact .seed c x hx k
  | step c m s v h h1 h2 h3 h4 h5 h6 h7 ih =>
    rw [e m h5]
    exact .step c m s v ih h1 h2 h3 h4 h5 (by rw [← e c h4]; exact h6) (by rw [← e m h5]; exact h7)
theorem Sprd.fc (hn : nb = nb') (e : ∀ i, i < n → f i = f' i) {d : Nat → Int} (h : Sprd nb f n L d) : Sprd nb' f' n L d :=
  ⟨fun c v k => h.low c v (told_fc hn.symm (fun i hi => (e i hi).symm) k), h.top, fun c hc k => told_fc hn e (h.is c hc k)⟩
theorem Col.fc (hn : nb = nb') (e : ∀ i, i < n → f i = f' i) {g : Nat} {d : Nat → Int} (h : Col nb f n g d) : Col nb' f' n g d := ⟨h.sp.fc hn e, h.bd⟩
/-- how far each local is from a goal -/
noncomputable def sprF (nb : Int → Int → Int) (f : Nat → Int) (n g : Nat) : Nat → Int := Classical.epsilon fun d => Sprd nb f n (goalL (g : Int)) d
theorem sprF_eq {g c : Nat} {d : Nat → Int} (h : Sprd nb f n (goalL (g : Int)) d) (hc : c < n) : sprF nb f n g c = d c := by
  have k : Sprd nb f n (goalL (g : Int)) (sprF nb f n g) := Classical.epsilon_spec (p := fun d => Sprd nb f n (goalL (g : Int)) d) ⟨d, h⟩
  exact k.uniq h hc
theorem sprF_fc (hn : nb = nb') (e : ∀ i, i < n → f i = f' i) (g : Nat) : sprF nb f n g = sprF nb' f' n g := by
  have : (fun d => Sprd nb f n (goalL (g : Int)) d) = fun d => Sprd nb' f' n (goalL (g : Int)) d :=
    funext fun d => propext ⟨fun h => h.fc hn e, fun h => h.fc hn.symm fun i hi => (e i hi).symm⟩
  unfold sprF
  rw [this]
theorem told_ge (hg : Gph nb f n) {g c : Nat} {v : Int} (hgn : g < n) (ho : f g ≠ 255) (h : Told nb f n (goalL (g : Int)) c v) (hne : c ≠ g) : f g ≤ v := by
  induction h with
  | seed c x hx e =>
    obtain rfl := List.mem_singleton.1 hx
    simp only at e
    omega
  | step c m s v h h1 h2 h3 h4 h5 h6 h7 ih =>
    have p := h.pos hg (sds_goal hgn ho)
    have q := hg.cost m h5
    by_cases e : m = g
    · subst e; omega
    · have := ih e; omega
end

theorem near_fc {W H : Int} {n : Nat} {f f' : Nat → Int} (e : ∀ i, i < n → f i = f' i) : nearF W H n f = nearF W H n f' := by
  have : fullB n f = fullB n f' := by
    rw [Bool.eq_iff_iff, fullB_iff, fullB_iff]
    exact ⟨fun h i hi => by rw [← e i hi]; exact h i hi, fun h i hi => by rw [e i hi]; exact h i hi⟩
  funext l s
  unfold nearF isLocB mayTB
  rw [this]

/-- a node of a sheet -/
def nodB (W H : Int) (N : Nat) (S : Nat → Int) (c : Int) : Bool := opB N S c && brdB W H c
/-- two sheets are alike in a sector -/
def SecEq (W : Int) (N s : Nat) (S S' : Nat → Int) : Prop := ∀ c : Nat, c < N → sectorF W c = s → S c = S' c
def tnbF (W H : Int) (S : Nat → Int) (s : Nat) : Int → Int → Int := nearF (twF W s) (thF W H s) (tnF W H s) (tileF W s S)
/-- how far it is from a to b -/
noncomputable def distF (W H : Int) (N : Nat) (S : Nat → Int) (a b : Int) : Int :=
  if nodB W H N S a = true ∧ nodB W H N S b = true ∧ sectorF W a = sectorF W b then sprF (tnbF W H S (sectorF W b).toNat) (tileF W (sectorF W b).toNat S) (tnF W H (sectorF W b).toNat) (localF W b).toNat (localF W a).toNat else 1099511627776
/-- a sheet of bytes; each node has its distances -/
def Byt (N : Nat) (S : Nat → Int) : Prop := ∀ c, c < N → 1 ≤ S c ∧ S c ≤ 255
def ColC (W H : Int) (S : Nat → Int) (s l : Nat) (d : Nat → Int) : Prop := Col (tnbF W H S s) (tileF W s S) (tnF W H s) l d
def Good (W H : Int) (N : Nat) (S : Nat → Int) : Prop := ∀ s l : Nat, s < cntS W H → l < tnF W H s → nodB W H N S (gcF W s l) = true → ∃ d, ColC W H S s l d
def GoodS (W H : Int) (N : Nat) (S : Nat → Int) (s : Nat) : Prop := ∀ l : Nat, l < tnF W H s → nodB W H N S (gcF W s l) = true → ∃ d, ColC W H S s l d

section
variable {W H : Int} {N : Nat} {S S' f : Nat → Int}
theorem node_at (hm : mayB W H = true) (hN : (N : Int) = W * H) {c : Int} (h : nodB W H N S c = true) :
    ∃ k s l : Nat, c = k ∧ k < N ∧ s < cntS W H ∧ l < tnF W H s ∧ sectorF W c = s ∧ localF W c = l ∧ gcF W s l = k ∧ S k ≠ 255 ∧ brdB W H c = true := by
  obtain ⟨h1, h2⟩ := Bool.and_eq_true_iff.1 h
  obtain ⟨a, b, d⟩ := (opB_iff _ _ _).1 h1
  obtain ⟨k, rfl⟩ : ∃ k : Nat, c = k := ⟨c.toNat, by omega⟩
  obtain ⟨s, l, e1, e2, e3, e4, e5⟩ := cell_at hm hN (show k < N by omega)
  exact ⟨k, s, l, rfl, by omega, e1, e2, e3, e4, e5, by simpa using d, h2⟩
theorem nodes_mem {s : Nat} (hs : isSectorB W H s = true) {c : Nat} : c ∈ nodesL W H N S s ↔ nodB W H N S c = true ∧ sectorF W c = s := by
  constructor
  · intro h
    obtain ⟨a, b, d, e⟩ := (nodesL_rise hs).2 c h
    exact ⟨by unfold nodB; rw [d, e]; rfl, b⟩
  · rintro ⟨h, h2⟩
    obtain ⟨a, b⟩ := Bool.and_eq_true_iff.1 h
    have hm := ((isSectorB_iff _ _ _).1 hs).1
    have hk : isCellB W H c = true := by
      cases q : isCellB W H (c : Int)
      · rw [brdB_no q] at b; cases b
      · rfl
    have hw := ((isCellB_iff _ _ _).1 hk).2
    obtain ⟨s', l, e1, e2, e3, e4, e5⟩ := cell_at (N := (W * H).toNat) hm (by omega) (show c < (W * H).toNat by omega)
    obtain rfl : s' = s := by omega
    unfold nodesL cellsL
    rw [if_pos hs, Int.toNat_natCast]
    refine List.mem_filter.2 ⟨List.mem_filter.2 ⟨List.mem_map.2 ⟨l, List.mem_range.2 e2, e5⟩, b⟩, a⟩
theorem nodB_sec {s : Nat} (e : SecEq W N s S S') {c : Int} (hc : sectorF W c = s) : nodB W H N S c = nodB W H N S' c := by
  have : opB N S c = opB N S' c := by
    rw [Bool.eq_iff_iff, opB_iff, opB_iff]
    constructor
    · rintro ⟨a, b, d⟩
      obtain ⟨k, rfl⟩ : ∃ k : Nat, c = k := ⟨c.toNat, by omega⟩
      rw [Int.toNat_natCast] at d ⊢
      exact ⟨a, b, by rw [← e k (by omega) hc]; exact d⟩
    · rintro ⟨a, b, d⟩
      obtain ⟨k, rfl⟩ : ∃ k : Nat, c = k := ⟨c.toNat, by omega⟩
      rw [Int.toNat_natCast] at d ⊢
      exact ⟨a, b, by rw [e k (by omega) hc]; exact d⟩
  unfold nodB
  rw [this]
theorem nodes_sec {s : Nat} (hs : isSectorB W H s = true) (e : SecEq W N s S S') : nodesL W H N S s = nodesL W H N S' s := by
  unfold nodesL
  refine List.filter_congr fun c hc => ?_
  unfold cellsL at hc
  rw [if_pos hs, Int.toNat_natCast] at hc
  obtain ⟨l, hl, rfl⟩ := (cellsK_rise hs (tnF W H s) (Nat.le_refl _)).2 c hc
  obtain ⟨-, -, q, -⟩ := gcF_eq hs hl
  rw [Bool.eq_iff_iff, opB_iff, opB_iff]
  rw [Int.toNat_natCast]
  constructor
  · rintro ⟨a, b, d⟩
    exact ⟨a, b, by rw [← e _ (by omega) q]; exact d⟩
  · rintro ⟨a, b, d⟩
    exact ⟨a, b, by rw [e _ (by omega) q]; exact d⟩
theorem tile_sec (hN : (N : Int) = W * H) {s : Nat} (hs : isSectorB W H s = true) (e : SecEq W N s S S') : ∀ i, i < tnF W H s → tileF W s S i = tileF W s S' i := fun i hi => by
  obtain ⟨-, -, q, -⟩ := gcF_eq hs hi
  exact e _ (gcF_lt hs hi hN) q
theorem tnb_sec (hN : (N : Int) = W * H) {s : Nat} (hs : isSectorB W H s = true) (e : SecEq W N s S S') : tnbF W H S s = tnbF W H S' s := near_fc (tile_sec hN hs e)
theorem ColC.sec (hN : (N : Int) = W * H) {s l : Nat} (hs : isSectorB W H s = true) (e : SecEq W N s S S') {d : Nat → Int} (h : ColC W H S s l d) : ColC W H S' s l d := Col.fc (tnb_sec hN hs e) (tile_sec hN hs e) h
theorem dist_sec (hm : mayB W H = true) (hN : (N : Int) = W * H) {s : Nat} (e : SecEq W N s S S') {a b : Int} (hb : sectorF W b = s) : distF W H N S a b = distF W H N S' a b := by
  unfold distF
  by_cases q : sectorF W a = sectorF W b
  · rw [nodB_sec e hb, nodB_sec e (c := a) (by omega)]
    by_cases k : nodB W H N S' b = true
    · obtain ⟨c, s', l, -, -, h3, -, h5, -⟩ := node_at hm hN k
      have hs : isSectorB W H s = true := by
        obtain rfl : s' = s := by omega
        exact sec_of h3
      rw [hb, Int.toNat_natCast, tnb_sec hN hs e, sprF_fc rfl (tile_sec hN hs e)]
    · rw [if_neg (fun h => k h.2.1), if_neg (fun h => k h.2.1)]
  · rw [if_neg (fun h => q h.2.2), if_neg (fun h => q h.2.2)]
theorem GoodS.sec (hN : (N : Int) = W * H) {s : Nat} (hs : isSectorB W H s = true) (e : SecEq W N s S S') (h : GoodS W H N S s) : GoodS W H N S' s := fun l hl hn => by
  obtain ⟨-, -, q, -⟩ := gcF_eq hs hl
  rw [← nodB_sec e q] at hn
  obtain ⟨d, hd⟩ := h l hl hn
  exact ⟨d, hd.sec hN hs e⟩
theorem gph_sec (hN : (N : Int) = W * H) (hb : Byt N S) {s : Nat} (hs : isSectorB W H s = true) : Gph (tnbF W H S s) (tileF W s S) (tnF W H s) := by
  have hm := ((isSectorB_iff _ _ _).1 hs).1
  refine gph_of (tile_may (n := N) ((mayM_iff _ _ _ _).2 ⟨hm, hN, fun i hi => by have := hb i hi; omega⟩) hs) fun i hi => ?_
  have := hb _ (gcF_lt hs hi hN)
  unfold tileF
  omega
/-- how far it is, out of a column -/
theorem dist_col {a b : Int} {s i j : Nat} (ha : nodB W H N S a = true) (hb : nodB W H N S b = true) (e1 : sectorF W a = s) (e2 : sectorF W b = s) (e3 : localF W a = i) (e4 : localF W b = j) (hi : i < tnF W H s) {d : Nat → Int} (h : ColC W H S s j d) : distF W H N S a b = d i := by
  unfold distF
  rw [if_pos ⟨ha, hb, by omega⟩, e2, e3, e4, Int.toNat_natCast, Int.toNat_natCast, Int.toNat_natCast]
  exact sprF_eq h.sp hi
theorem dist_not {a b : Int} (h : ¬ (nodB W H N S a = true ∧ nodB W H N S b = true ∧ sectorF W a = sectorF W b)) : distF W H N S a b = 1099511627776 := if_neg h
theorem dist_two (hm : mayB W H = true) (hN : (N : Int) = W * H) (hg : ∀ s, s < cntS W H → GoodS W H N S s) (a b : Int) : distF W H N S a b = 1099511627776 ∨
    ∃ k m s i j d, a = (k : Nat) ∧ b = (m : Nat) ∧ k < N ∧ m < N ∧ s < cntS W H ∧ i < tnF W H s ∧ j < tnF W H s ∧ gcF W s i = k ∧ gcF W s j = m ∧ S k ≠ 255 ∧ S m ≠ 255 ∧ nodB W H N S a = true ∧ nodB W H N S b = true ∧ sectorF W a = (s : Nat) ∧ sectorF W b = (s : Nat) ∧ ColC W H S s j d ∧ distF W H N S a b = d i := by
  by_cases h : nodB W H N S a = true ∧ nodB W H N S b = true ∧ sectorF W a = sectorF W b
  · obtain ⟨h1, h2, h3⟩ := h
    obtain ⟨k, s, i, e1, a1, a2, a3, a4, a5, a6, a7, a8⟩ := node_at hm hN h1
    obtain ⟨m, s', j, e2, b1, b2, b3, b4, b5, b6, b7, b8⟩ := node_at hm hN h2
    obtain rfl : s' = s := by omega
    obtain ⟨d, hd⟩ := hg s' a2 j b3 (by rw [b6, ← e2]; exact h2)
    exact .inr ⟨k, m, s', i, j, d, e1, e2, a1, b1, a2, a3, b3, a6, b6, a7, b7, h1, h2, a4, b4, hd, dist_col h1 h2 a4 b4 a5 b5 a3 hd⟩
  · exact .inl (dist_not h)
theorem dist_bd (hm : mayB W H = true) (hN : (N : Int) = W * H) (hb : Byt N S) (hg : ∀ s, s < cntS W H → GoodS W H N S s) (a b : Int) : 0 ≤ distF W H N S a b ∧ (distF W H N S a b = 1099511627776 ∨ distF W H N S a b ≤ 64770) := by
  rcases dist_two hm hN hg a b with h | ⟨k, m, s, i, j, d, e1, e2, a1, b1, hs, hi, hj, g1, g2, o1, o2, n1, n2, s1, s2, hd, e⟩
  · omega
  · have hp := hd.pos (gph_sec hN hb (sec_of hs)) hj (by unfold tileF; rw [g2]; exact o2) hi
    have ht := hd.sp.top i hi
    have hq := hd.bd i hi
    omega
theorem dist_zero (hm : mayB W H = true) (hN : (N : Int) = W * H) (hb : Byt N S) (hg : ∀ s, s < cntS W H → GoodS W H N S s) {b : Int} (h : nodB W H N S b = true) : distF W H N S b b = 0 := by
  obtain ⟨m, s, j, e2, b1, b2, b3, b4, b5, b6, b7, b8⟩ := node_at hm hN h
  obtain ⟨d, hd⟩ := hg s b2 j b3 (by rw [b6, ← e2]; exact h)
  rw [dist_col h h b4 b4 b5 b5 b3 hd]
  exact hd.zero (gph_sec hN hb (sec_of b2)) b3 (by unfold tileF; rw [b6]; exact b7)
theorem dist_ge (hm : mayB W H = true) (hN : (N : Int) = W * H) (hb : Byt N S) (hg : ∀ s, s < cntS W H → GoodS W H N S s) {a : Int} {m : Nat} (hne : a ≠ m) (hlt : distF W H N S a m < 1099511627776) : S m ≤ distF W H N S a m := by
  rcases dist_two hm hN hg a m with h | ⟨k, m', s, i, j, d, e1, e2, a1, b1, hs, hi, hj, g1, g2, o1, o2, n1, n2, s1, s2, hd, e⟩
  · omega
  · obtain rfl : m = m' := by omega
    rw [e] at hlt ⊢
    have := told_ge (gph_sec hN hb (sec_of hs)) hj (by unfold tileF; rw [g2]; exact o2) (hd.sp.is i hi hlt) (fun q => hne (by subst q; omega))
    unfold tileF at this
    rw [g2] at this
    exact this
theorem dist_turn (hm : mayB W H = true) (hN : (N : Int) = W * H) (hb : Byt N S) (hg : ∀ s, s < cntS W H → GoodS W H N S s) {k m : Nat} (hlt : distF W H N S k m < 1099511627776) : distF W H N S m k < 1099511627776 ∧ distF W H N S k m + S k = distF W H N S m k + S m := by
  rcases dist_two hm hN hg k m with h | ⟨k', m', s, i, j, d, e1, e2, a1, b1, hs, hi, hj, g1, g2, o1, o2, n1, n2, s1, s2, hd, e⟩
  · omega
  · obtain rfl : k = k' := by omega
    obtain rfl : m = m' := by omega
    obtain ⟨d', hd'⟩ := hg s hs i hi (by rw [g1]; exact n1)
    have lk : localF W k = (i : Nat) := by rw [← g1]; exact (gcF_eq (sec_of hs) hi).2.2.2
    have lm : localF W m = (j : Nat) := by rw [← g2]; exact (gcF_eq (sec_of hs) hj).2.2.2
    have e' := dist_col n2 n1 s2 s1 lm lk hj hd'
    have t := hd.turn (gph_sec hN hb (sec_of hs)) hd' hi hj
    unfold tileF at t
    rw [g1, g2] at t
    rw [e] at hlt ⊢
    rw [e']
    omega

/-- what leads into b from nodes of L; over a side of b -/
noncomputable def entL (W H : Int) (N : Nat) (S : Nat → Int) (b : Int) (L : List Nat) : List (Int × Int) :=
  (L.filter fun (a : Nat) => decide ((a : Int) ≠ b) && decide (distF W H N S a b < 1099511627776)).map fun (a : Nat) => ((a : Int), distF W H N S a b)
def sidL (W H : Int) (N : Nat) (S f : Nat → Int) (b : Int) (k : Nat) : List (Int × Int) :=
  ((List.range k).filter fun (s : Nat) => opB N S (overF W H b s)).map fun (s : Nat) => (overF W H b s, f b.toNat)
noncomputable def intoL (W H : Int) (N : Nat) (S f : Nat → Int) (b : Int) : List (Int × Int) :=
  if nodB W H N S b = true then entL W H N S b (nodesL W H N S (sectorF W b)) ++ sidL W H N S f b 4 else []
theorem ent_yes {b : Int} {L : List Nat} {a : Nat} (h : (a : Int) ≠ b) (k : distF W H N S a b < 1099511627776) : entL W H N S b (L ++ [a]) = entL W H N S b L ++ [((a : Int), distF W H N S a b)] := by
  unfold entL
  rw [List.filter_append, List.map_append]
  simp [h, k]
theorem ent_no {b : Int} {L : List Nat} {a : Nat} (h : (a : Int) = b ∨ ¬ distF W H N S a b < 1099511627776) : entL W H N S b (L ++ [a]) = entL W H N S b L := by
  unfold entL
  rw [List.filter_append, List.map_append]
  rcases h with h | h
  · simp [h]
  · simp [h]
theorem sid_yes {b : Int} {k : Nat} (h : opB N S (overF W H b k) = true) : sidL W H N S f b (k + 1) = sidL W H N S f b k ++ [(overF W H b k, f b.toNat)] := by simp [sidL, List.range_succ, h]
theorem sid_no {b : Int} {k : Nat} (h : opB N S (overF W H b k) = false) : sidL W H N S f b (k + 1) = sidL W H N S f b k := by simp [sidL, List.range_succ, h]
theorem ent_len (b : Int) (L : List Nat) : (entL W H N S b L).length ≤ L.length := by
  unfold entL
  rw [List.length_map]
  exact List.length_filter_le _ _
theorem sid_len (b : Int) (k : Nat) : (sidL W H N S f b k).length ≤ k := by
  have := List.length_filter_le (fun (s : Nat) => opB N S (overF W H b s)) (List.range k)
  simpa [sidL] using this
theorem ent_mem {b : Int} {L : List Nat} {x : Int × Int} : x ∈ entL W H N S b L ↔ ∃ a : Nat, a ∈ L ∧ (a : Int) ≠ b ∧ distF W H N S a b < 1099511627776 ∧ x = ((a : Int), distF W H N S a b) := by
  unfold entL
  rw [List.mem_map]
  constructor
  · rintro ⟨a, h, rfl⟩
    obtain ⟨h1, h2⟩ := List.mem_filter.1 h
    simp only [Bool.and_eq_true, decide_eq_true_iff] at h2
    exact ⟨a, h1, h2.1, h2.2, rfl⟩
  · rintro ⟨a, h1, h2, h3, rfl⟩
    exact ⟨a, List.mem_filter.2 ⟨h1, by simp [h2, h3]⟩, rfl⟩
theorem sid_mem {b : Int} {x : Int × Int} {k : Nat} : x ∈ sidL W H N S f b k ↔ ∃ s : Nat, s < k ∧ opB N S (overF W H b s) = true ∧ x = (overF W H b s, f b.toNat) := by
  unfold sidL
  rw [List.mem_map]
  constructor
  · rintro ⟨a, h, rfl⟩
    obtain ⟨h1, h2⟩ := List.mem_filter.1 h
    exact ⟨a, List.mem_range.1 h1, h2, rfl⟩
  · rintro ⟨a, h1, h2, rfl⟩
    exact ⟨a, List.mem_filter.2 ⟨List.mem_range.2 h1, h2⟩, rfl⟩
/-- what is beside a node over a side, and open, is a node -/
theorem side_node {b : Int} {s : Nat} (hb : nodB W H N S b = true) (h : opB N S (overF W H b s) = true) : nodB W H N S (overF W H b s) = true ∧ sectorF W (overF W H b s) ≠ sectorF W b ∧ ∃ t : Nat, t < 4 ∧ overF W H (overF W H b s) t = b := by
  have h0 := ((opB_iff _ _ _).1 h).1
  obtain ⟨e, k, q, n, s0, s3⟩ := over_is h0
  obtain ⟨g1, g2, g3⟩ := over_back h0
  obtain ⟨hb1, hb2⟩ := Bool.and_eq_true_iff.1 hb
  have hbn := ((opB_iff _ _ _).1 hb1).1
  obtain ⟨t, ht⟩ : ∃ t : Nat, backF s = t := ⟨(backF s).toNat, by omega⟩
  rw [ht] at g1 g2 g3
  refine ⟨?_, by rw [e]; exact n, t, by omega, g1⟩
  unfold nodB
  rw [h, brdB_some t (by omega) (by rw [g1]; exact hbn)]
  rfl
theorem side_far {b : Int} {s t : Nat} (hs : s < t) (h0 : 0 ≤ overF W H b s) (h1 : 0 ≤ overF W H b t) : overF W H b s ≠ overF W H b t := by
  obtain ⟨-, k, -, -, a0, a3⟩ := over_is h0
  obtain ⟨-, -, -, -, b0, b3⟩ := over_is h1
  obtain ⟨l0, l1, l2, l3⟩ := over_lin k
  have hw := (isCellB_iff _ _ _).1 k
  have hm := (mayB_iff _ _).1 hw.1
  have m0 := Int.emod_nonneg b (show W ≠ 0 by omega)
  have m1 := Int.emod_lt_of_pos b (show 0 < W by omega)
  have v0 : 0 ≤ overF W H b 0 → overF W H b 0 = b - W := fun q => by
    rw [l0] at q ⊢
    split at q
    · rename_i z; rw [if_pos z]
    · omega
  have v1 : 0 ≤ overF W H b 1 → overF W H b 1 = b + 1 ∧ b % W + 1 < W := fun q => by
    rw [l1] at q ⊢
    split at q
    · rename_i z; rw [if_pos z]; exact ⟨rfl, z.2⟩
    · omega
  have v2 : 0 ≤ overF W H b 2 → overF W H b 2 = b + W := fun q => by
    rw [l2] at q ⊢
    split at q
    · rename_i z; rw [if_pos z]
    · omega
  have v3 : 0 ≤ overF W H b 3 → overF W H b 3 = b - 1 ∧ 1 ≤ b % W := fun q => by
    rw [l3] at q ⊢
    split at q
    · rename_i z; rw [if_pos z]; exact ⟨rfl, z.2⟩
    · omega
  clear l0 l1 l2 l3
  rcases (by omega : (s = 0 ∧ t = 1) ∨ (s = 0 ∧ t = 2) ∨ (s = 0 ∧ t = 3) ∨ (s = 1 ∧ t = 2) ∨ (s = 1 ∧ t = 3) ∨ (s = 2 ∧ t = 3)) with ⟨rfl, rfl⟩ | ⟨rfl, rfl⟩ | ⟨rfl, rfl⟩ | ⟨rfl, rfl⟩ | ⟨rfl, rfl⟩ | ⟨rfl, rfl⟩
  · have p := v0 h0
    have q := v1 h1
    show overF W H b 0 ≠ overF W H b 1
    omega
  · have p := v0 h0
    have q := v2 h1
    show overF W H b 0 ≠ overF W H b 2
    omega
  · have p := v0 h0
    have q := v3 h1
    show overF W H b 0 ≠ overF W H b 3
    omega
  · have p := v1 h0
    have q := v2 h1
    show overF W H b 1 ≠ overF W H b 2
    omega
  · have p := v1 h0
    have q := v3 h1
    show overF W H b 1 ≠ overF W H b 3
    omega
  · have p := v2 h0
    have q := v3 h1
    show overF W H b 2 ≠ overF W H b 3
    omega
/-- who leads into b, as a mesh that is as the map says -/
theorem into_ok (hm : mayB W H = true) (hN : (N : Int) = W * H) (hb : Byt N S) (hg : ∀ s, s < cntS W H → GoodS W H N S s) {b : Int} {x : Int × Int} (h : x ∈ intoL W H N S S b) :
    ∃ a m : Nat, x.1 = (a : Int) ∧ b = (m : Int) ∧ a < N ∧ m < N ∧ a ≠ m ∧ S a ≠ 255 ∧ S m ≤ x.2 ∧ x.2 < 1099511627776 ∧ ∃ y : Int, ((m : Int), y) ∈ intoL W H N S S a ∧ y + S m = x.2 + S a := by
  unfold intoL at h
  split at h
  · rename_i hn
    obtain ⟨m, s, j, rfl, b1, b2, b3, b4, b5, b6, b7, b8⟩ := node_at hm hN hn
    rcases List.mem_append.1 h with h | h
    · obtain ⟨a, h1, h2, h3, rfl⟩ := ent_mem.1 h
      rw [b4] at h1
      obtain ⟨q1, q2⟩ := (nodes_mem (sec_of b2)).1 h1
      obtain ⟨a', s', i, e, c1, c2, c3, c4, c5, c6, c7, c8⟩ := node_at hm hN q1
      obtain rfl : a = a' := by omega
      obtain ⟨t1, t2⟩ := dist_turn hm hN hb hg h3
      refine ⟨a, m, rfl, rfl, c1, b1, by omega, c7, dist_ge hm hN hb hg h2 h3, h3, distF W H N S m a, ?_, by omega⟩
      unfold intoL
      rw [if_pos q1, q2]
      exact List.mem_append_left _ (ent_mem.2 ⟨m, (nodes_mem (sec_of b2)).2 ⟨hn, b4⟩, by omega, t1, rfl⟩)
    · obtain ⟨t, ht, h2, rfl⟩ := sid_mem.1 h
      obtain ⟨n1, n2, t', ht', n3⟩ := side_node hn h2
      obtain ⟨a, s', i, e, c1, c2, c3, c4, c5, c6, c7, c8⟩ := node_at hm hN n1
      have hbm := hb m b1
      refine ⟨a, m, e, rfl, c1, b1, fun k => by subst k; rw [e] at n2; exact n2 rfl, c7, by simp, by simp; omega, S a, ?_, by simp; omega⟩
      unfold intoL
      rw [e] at n1 n3
      rw [if_pos n1]
      refine List.mem_append_right _ (sid_mem.2 ⟨t', ht', ?_, ?_⟩)
      · rw [n3]; exact (Bool.and_eq_true_iff.1 hn).1
      · rw [n3, Int.toNat_natCast]
  · cases h
theorem into_apart (hm : mayB W H = true) (hN : (N : Int) = W * H) (b : Int) : (intoL W H N S f b).Pairwise fun x y => x.1 ≠ y.1 := by
  unfold intoL
  split
  · rename_i hn
    obtain ⟨m, s, j, rfl, b1, b2, b3, b4, b5, b6, b7, b8⟩ := node_at hm hN hn
    rw [List.pairwise_append]
    refine ⟨?_, ?_, ?_⟩
    · rw [b4]
      unfold entL
      rw [List.pairwise_map]
      refine ((nodesL_rise (N := N) (f := S) (sec_of b2)).1.filter _).imp fun {x y} hxy => ?_
      simp only; omega
    · unfold sidL
      rw [List.pairwise_map, List.pairwise_filter]
      refine (List.pairwise_lt_range (n := 4)).imp fun {x y} hxy hx hy => ?_
      exact side_far hxy ((opB_iff _ _ _).1 hx).1 ((opB_iff _ _ _).1 hy).1
    · intro x hx y hy
      obtain ⟨a, h1, h2, h3, rfl⟩ := ent_mem.1 hx
      obtain ⟨t, ht, k2, rfl⟩ := sid_mem.1 hy
      rw [b4] at h1
      obtain ⟨q1, q2⟩ := (nodes_mem (sec_of b2)).1 h1
      obtain ⟨n1, n2, -⟩ := side_node hn k2
      intro e
      simp only at e
      rw [← e] at n2
      omega
  · exact .nil

/-- the sectors to rebuild -/
def dirL (mv ver : Nat → Int) (n : Nat) : List Nat := (List.range n).filter fun s => decide (mv s ≠ ver s)
theorem dir_yes {mv ver : Nat → Int} {n : Nat} (h : mv n ≠ ver n) : dirL mv ver (n + 1) = dirL mv ver n ++ [n] := by simp [dirL, List.range_succ, h]
theorem dir_no {mv ver : Nat → Int} {n : Nat} (h : mv n = ver n) : dirL mv ver (n + 1) = dirL mv ver n := by simp [dirL, List.range_succ, h]
theorem dir_len (mv ver : Nat → Int) (n : Nat) : (dirL mv ver n).length ≤ n := by
  have := List.length_filter_le (fun s => decide (mv s ≠ ver s)) (List.range n)
  simpa [dirL] using this
theorem dir_mem {mv ver : Nat → Int} {n s : Nat} : s ∈ dirL mv ver n ↔ s < n ∧ mv s ≠ ver s := by simp [dirL]
theorem dir_rise (mv ver : Nat → Int) (n : Nat) : (dirL mv ver n).Pairwise (· < ·) := (List.pairwise_lt_range (n := n)).filter _
theorem dir_all {mv ver : Nat → Int} {n : Nat} (h : ∀ s, s < n → mv s ≠ ver s) : (dirL mv ver n).length = n := by
  unfold dirL
  rw [List.filter_eq_self.2 (fun s hs => by simpa using h s (List.mem_range.1 hs)), List.length_range]
theorem dir_none {mv ver : Nat → Int} {n : Nat} (h : ∀ s, s < n → mv s = ver s) : dirL mv ver n = [] := by
  unfold dirL
  exact List.filter_eq_nil_iff.2 fun s hs => by simpa using h s (List.mem_range.1 hs)
/-- sheets and versions when the sectors of P are rebuilt -/
def updS (W : Int) (S f : Nat → Int) (P : List Nat) (c : Nat) : Int := if (sectorF W c).toNat ∈ P then f c else S c
def updV (mv ver : Nat → Int) (P : List Nat) (s : Nat) : Int := if s ∈ P then ver s else mv s
theorem upd_old {s : Nat} {P : List Nat} {d : Nat} (h : s ≠ d) : SecEq W N s (updS W S f P) (updS W S f (P ++ [d])) := fun c _ hc => by
  unfold updS
  rw [hc, Int.toNat_natCast]
  have : s ∈ P ++ [d] ↔ s ∈ P := by simp [h]
  simp [this]
theorem upd_new {P : List Nat} {d : Nat} : SecEq W N d f (updS W S f (P ++ [d])) := fun c _ hc => by
  unfold updS
  rw [hc, Int.toNat_natCast, if_pos (by simp)]
end
end Go.Proofs.YtgbadbkipaccgaaGreat
