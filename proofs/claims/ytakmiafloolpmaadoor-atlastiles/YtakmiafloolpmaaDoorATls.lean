/- Rows of tiles in memory that a call makes by append. No condition. -/
import Derived.Test.YtakmiafloolpmaaDoorALay
namespace Go.Proofs.YtakmiafloolpmaaDoor
open Go.RowKit
set_option maxRecDepth 20000

theorem info_tile : (Tryd.prog.info? 31).map (fun i => (i.zero, i.size, i.bytes)) = some (some (.agg #[.int .i64 0, .int .i64 0, .slice none 0 0]), 3, 40) := by kernel_rfl
theorem info_parts3 {e : TypeId} {z : Value} {n m : Nat} (h : (Tryd.prog.info? e).map (fun i => (i.zero, i.size, i.bytes)) = some (some z, n, m)) : ∃ i, Tryd.prog.info? e = some i ∧ i.zero = some z ∧ i.size = n ∧ i.bytes = m := by
  obtain ⟨i, hi, hzz⟩ := Option.map_eq_some_iff.1 h
  simp only [Prod.mk.injEq] at hzz
  exact ⟨i, hi, hzz.1, hzz.2.1, hzz.2.2⟩
/-- the three cells of the tile of sector s, its costs at block g s -/
def tc3 (W H : Int) (g c : Nat → Nat) (s : Nat) : List Value := [.int .i64 (twF W s), .int .i64 (thF W H s), .slice (some ⟨g s, 0, none⟩) (tnF W H s) (c s)]
def tcs (W H : Int) (g c : Nat → Nat) (n : Nat) : List Value := (List.range n).flatMap (tc3 W H g c)
theorem tcs_succ (W H : Int) (g c : Nat → Nat) (n : Nat) : tcs W H g c (n + 1) = tcs W H g c n ++ tc3 W H g c n := by simp [tcs, List.range_succ, List.flatMap_append]
theorem tcs_len (W H : Int) (g c : Nat → Nat) (n : Nat) : (tcs W H g c n).length = n * 3 := by
  induction n with
  | zero => rfl
  | succ n ih => rw [tcs_succ, List.length_append, ih]; simp [tc3]; omega
theorem tcs_congr {W H : Int} {g c g' c' : Nat → Nat} {n : Nat} (h : ∀ i, i < n → g i = g' i ∧ c i = c' i) : tcs W H g c n = tcs W H g' c' n := by
  induction n with
  | zero => rfl
  | succ n ih =>
    rw [tcs_succ, tcs_succ, ih (fun i hi => h i (by omega))]
    unfold tc3
    rw [(h n (by omega)).1, (h n (by omega)).2]
theorem tcs_get {W H : Int} {g c : Nat → Nat} {n i j : Nat} (hi : i < n) (hj : j < 3) : (tcs W H g c n)[i * 3 + j]? = (tc3 W H g c i)[j]? := by
  induction n with
  | zero => omega
  | succ n ih =>
    rw [tcs_succ]
    by_cases e : i = n
    · subst e
      rw [List.getElem?_append_right (by rw [tcs_len]; omega), tcs_len, Nat.add_sub_cancel_left]
    · rw [List.getElem?_append_left (by rw [tcs_len]; omega)]
      exact ih (by omega)
theorem tcs_one (W H : Int) (g c : Nat → Nat) (n : Nat) : ∀ u ∈ tcs W H g c n, u.oneCell' = true := by
  intro u hu
  obtain ⟨i, _, h⟩ := List.mem_flatMap.1 hu
  simp only [tc3, List.mem_cons, List.not_mem_nil, or_false] at h
  rcases h with rfl | rfl | rfl <;> rfl

/-- a row of tiles: tile s is sector s's, its costs are ts' -/
structure Tls (w : World) (base : Nat) (v : Value) (W H : Int) (ts : List (List Int)) (g c : Nat → Nat) : Prop where
  own : w.ownsRow base 31 3 v ts.length (tcs W H g c ts.length)
  nil : ts.length = 0 → v = .slice none 0 0
  sl : ∀ s, s < ts.length → Sl w (some ⟨g s, 0, none⟩) (tnF W H s) (at0 (ts.getD s [])) ∧ 1 ≤ tnF W H s ∧ tnF W H s ≤ c s ∧ c s ≤ maxLen
theorem own_grN {w w' : World} {base size : Nat} {e : TypeId} {v : Value} {n : Nat} {xs : List Value} (h : w.ownsRow base e size v n xs) (g : Gr w w') : w'.ownsRow base e size v n xs := by
  refine ⟨h.1, ?_⟩
  rcases h.2 with h0 | ⟨b, cap, cur, rfl, hb, hg, r⟩
  · exact .inl h0
  · exact .inr ⟨b, cap, cur, rfl, hb, (Below.block g b (Array.getElem?_eq_some_iff.1 hg).1).trans hg, r⟩
theorem Tls.gr {w w' : World} {base : Nat} {v : Value} {W H : Int} {ts : List (List Int)} {g c : Nat → Nat} (h : Tls w base v W H ts g c) (k : Gr w w') : Tls w' base v W H ts g c :=
  ⟨own_grN h.own k, h.nil, fun s hs => ⟨(h.sl s hs).1.gr k, (h.sl s hs).2⟩⟩
theorem Tls.nothing (w : World) (base : Nat) (W H : Int) (g c : Nat → Nat) : Tls w base (.slice none 0 0) W H [] g c :=
  ⟨World.ownsRow_nil _ _ _ _, fun _ => rfl, fun _ hs => absurd hs (Nat.not_lt_zero _)⟩
theorem sl_grown {u w1 : World} {b n : Nat} {f : Nat → Int} {row : Option Nat} (h : Sl u (some ⟨b, 0, none⟩) n f) (hn : 1 ≤ n) (hg : u.grownBy w1 row) (hne : ∀ k, row = some k → b ≠ k) : Sl w1 (some ⟨b, 0, none⟩) n f := by
  obtain ⟨b', o', e, hb, hc⟩ := h.at hn
  cases e
  have hbl := hg.block b hb (fun e => hne b e.symm rfl)
  refine ⟨h.byte, .inr ⟨b, 0, rfl, Nat.lt_of_lt_of_le hb hg.size, fun i hi => ?_⟩⟩
  rw [World.cell?_of_block (w := u) (a := ⟨b, 0 + i, Option.none⟩) hbl]
  exact hc i hi
/-- the row's own block is none of its tiles', nor any bytes' -/
theorem Tls.apart {w : World} {base : Nat} {v : Value} {W H : Int} {ts : List (List Int)} {g c : Nat → Nat} (h : Tls w base v W H ts g c) {b n : Nat} {f : Nat → Int} (hs : Sl w (some ⟨b, 0, none⟩) n f) (hn : 1 ≤ n) : ∀ k, v.ownBlock = some k → b ≠ k := by
  intro k hk
  rcases h.own.2 with ⟨e, _⟩ | ⟨g', cap, cur, e, _⟩
  · rw [e] at hk; simp [Value.ownBlock] at hk
  · subst e
    simp [Value.ownBlock] at hk
    subst hk
    have h0 : 0 < ts.length := by
      by_cases e : ts.length = 0
      · have := h.nil e
        simp at this
      · omega
    have := World.ownsRow.cellAt h.own 0 (by omega)
    have t := tcs_get (W := W) (H := H) (g := g) (c := c) (n := ts.length) (i := 0) (j := 0) h0 (by omega)
    rw [Nat.zero_mul, Nat.zero_add] at t
    rw [t] at this
    exact sl_apart hs hn this
theorem Tls.step {w u w1 : World} {base gn cn : Nat} {v v' : Value} {W H : Int} {ts : List (List Int)} {g c : Nat → Nat} {L : List Int} {s : Nat} (h : Tls w base v W H ts g c) (hs : ts.length = s) (hu : Gr w u) (hsl : Sl u (some ⟨gn, 0, none⟩) (tnF W H s) (at0 L)) (h1 : 1 ≤ tnF W H s) (hc1 : tnF W H s ≤ cn) (hc2 : cn ≤ maxLen)
    (ho : w1.ownsRow base 31 3 v' (s + 1) (tcs W H g c s ++ [.int .i64 (twF W s), .int .i64 (thF W H s), .slice (some ⟨gn, 0, none⟩) (tnF W H s) cn])) (hg : u.grownBy w1 v.ownBlock) {w0 : World} (h0 : Gr w0 u) (hb : w0.heap.size ≤ base) :
    ∃ g2 c2, Tls w1 base v' W H (ts ++ [L]) g2 c2 ∧ Gr w0 w1 := by
  subst hs
  refine ⟨fun i => if i = ts.length then gn else g i, fun i => if i = ts.length then cn else c i, ⟨?_, ?_, ?_⟩, ?_⟩
  · rw [List.length_append, List.length_singleton, tcs_succ, tcs_congr (g' := g) (c' := c) (fun i hi => by rw [if_neg (by omega), if_neg (by omega)]; exact ⟨rfl, rfl⟩)]
    simpa [tc3] using ho
  · intro e; simp at e
  · intro s hs
    rw [List.length_append, List.length_singleton] at hs
    by_cases e : s = ts.length
    · subst e
      have e2 : (ts ++ [L]).getD ts.length [] = L := by
        rw [List.getD_eq_getElem?_getD, List.getElem?_append_right (Nat.le_refl _)]
        simp
      simp only [if_true]
      rw [e2]
      exact ⟨sl_grown hsl h1 hg ((h.gr hu).apart hsl h1), h1, hc1, hc2⟩
    · have e2 : (ts ++ [L]).getD s [] = ts.getD s [] := by
        rw [List.getD_eq_getElem?_getD, List.getD_eq_getElem?_getD, List.getElem?_append_left (by omega)]
      obtain ⟨q1, q2, q3, q4⟩ := (h.gr hu).sl s (by omega)
      rw [if_neg e, if_neg e, e2]
      exact ⟨sl_grown q1 q2 hg ((h.gr hu).apart q1 q2), q2, q3, q4⟩
  · refine Gr.grown h0 hg (fun k hk => ?_)
    have := (h.own.lt k hk).1
    omega
/-- the tile of sector s, to be read -/
def tiF (W H : Int) (ts : List (List Int)) (g c : Nat → Nat) (s : Nat) : Ti := ⟨twF W s, thF W H s, some ⟨g s, 0, none⟩, tnF W H s, c s, at0 (ts.getD s [])⟩
theorem Tls.tsl {w : World} {base : Nat} {v : Value} {W H : Int} {ts : List (List Int)} {g c : Nat → Nat} (h : Tls w base v W H ts g c) (hn : 1 ≤ ts.length) : ∃ b cap, v = .slice (some ⟨b, 0, none⟩) ts.length cap ∧ base ≤ b ∧ ts.length ≤ cap ∧ cap ≤ maxLen ∧ TSl w (some ⟨b, 0, none⟩) ts.length (tiF W H ts g c) := by
  have hown := h.own
  rcases hown.2 with ⟨e, e0⟩ | ⟨b, cap, cur, rfl, hb, hg, h1, h2, _⟩
  · omega
  refine ⟨b, cap, rfl, hb, h1, h2, ⟨fun i hi => ⟨(h.sl i hi).1, (h.sl i hi).2.2⟩, .inr ⟨b, 0, rfl, (Array.getElem?_eq_some_iff.1 hg).1, fun i hi => ?_⟩⟩⟩
  have c0 := World.ownsRow.cellAt hown (i * 3 + 0) (by omega)
  have c1 := World.ownsRow.cellAt hown (i * 3 + 1) (by omega)
  have c2 := World.ownsRow.cellAt hown (i * 3 + 2) (by omega)
  rw [tcs_get hi (by omega)] at c0 c1 c2
  rw [Nat.zero_add]
  exact ⟨c0, c1, c2⟩
theorem three_news (w : World) (x y z : Value) (t : TypeId) {g : Nat} (hg : g = w.heap.size) : ∀ j u, [x, y, z][j]? = some u → (w.alloc (.cells #[x, y, z] t)).cell? ((⟨g, 0, none⟩ : Addr).add j) = some u := by
  subst hg
  intro j u hj
  have e : (⟨w.heap.size, 0, none⟩ : Addr).add j = ⟨w.heap.size, j, none⟩ := by unfold Addr.add; split <;> simp_all
  rw [e]
  rcases j with _ | _ | _ | j
  · simp at hj; subst hj; simp
  · simp at hj; subst hj; simp
  · simp at hj; subst hj; simp
  · simp at hj

end Go.Proofs.YtakmiafloolpmaaDoor
