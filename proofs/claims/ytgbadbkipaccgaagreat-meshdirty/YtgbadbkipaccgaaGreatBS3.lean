/- A slice of seeds that came in, in the words of the walks. No condition. -/
import Derived.Test.YtgbadbkipaccgaaGreatBS2
import Derived.Shelf.SlSortCmp.NoneTotal
import Derived.Sort.OwnSorted
import Derived.Test.YtgbadbkipaccgaaGreatBT
namespace Go.Proofs.YtgbadbkipaccgaaGreat
open Go.RowKit
set_option maxRecDepth 20000

open Go.RowKit Go.Sort

theorem ltOf_cmpS (x y : Sd) : ltOf cmpS x y = ltS x y := cmpS_lt x y
theorem swo_cmpS : SWO (ltOf cmpS) where
  irrefl x := by rw [ltOf_cmpS]; exact ltS_irr x
  trans x y z h1 h2 := by rw [ltOf_cmpS] at *; exact ltS_trans h1 h2
  ntrans x y z h1 h2 := by rw [ltOf_cmpS, ltS_no] at *; omega
theorem total_cmpS (x y : Sd) (h : ltOf cmpS x y = false) (g : ltOf cmpS y x = false) : x = y := by
  rw [ltOf_cmpS] at h g
  exact ltS_total x y h g
theorem mrg_eq (L : List Sd) : (L.mergeSort fun x y => !(ltOf cmpS) y x) = mrg L := by
  unfold mrg
  congr 1
  funext x y
  rw [ltOf_cmpS]
theorem encS_len (x : Sd) : (encS x).length = 3 := rfl
theorem encS_one (x : Sd) : ∀ v ∈ encS x, v.oneCell' = true := by
  intro v hv
  rcases List.mem_cons.1 hv with rfl | hv
  · rfl
  · rcases List.mem_cons.1 hv with rfl | hv
    · rfl
    · rcases List.mem_cons.1 hv with rfl | hv
      · rfl
      · cases hv
theorem el_get! {L : List Sd} {i : Nat} (h : i < L.length) : L.toArray[i]! = el L i := by
  rw [getElem!_pos L.toArray i (by simpa using h)]
  simpa using el_getElem h
theorem flatS_at (L : List Sd) {t : Nat} (h : t < L.length * 3) : (flatS L)[t]? = some ((encS (el L (t / 3)))[t % 3]!) := by
  have hi : t / 3 < L.length := by omega
  obtain ⟨e1, e2, e3⟩ := flatS_get L (t / 3) (el L (t / 3)) (el_get? hi)
  rcases (by omega : t % 3 = 0 ∨ t % 3 = 1 ∨ t % 3 = 2) with r | r | r
  · rw [show t / 3 * 3 = t by omega] at e1; rw [r, e1]; rfl
  · rw [show t / 3 * 3 + 1 = t by omega] at e2; rw [r, e2]; rfl
  · rw [show t / 3 * 3 + 2 = t by omega] at e3; rw [r, e3]; rfl
theorem flatK_S (L : List Sd) : flatK encS 3 L.toArray = (flatS L).toArray := by
  apply ext_get! (by simp [flatS_len])
  intro t ht
  have ht' : t < L.toArray.size * 3 := by simpa using ht
  have ht2 : t < L.length * 3 := by simpa using ht'
  rw [get_flatK _ _ _ _ ht', el_get! (by omega)]
  have h := flatS_at L ht2
  rw [getElem!_pos _ t (by simp [flatS_len]; exact ht2)]
  have h2 : (flatS L).toArray[t]? = some ((encS (el L (t / 3)))[t % 3]!) := by simpa using h
  exact ((Array.getElem?_eq_some_iff.1 h2).2).symm
/-- what the sort asks of a row -/
theorem holdsK_own {w : World} {g : Nat} {cur : Array Value} {T : TypeId} {L : List Sd} {n : Nat} (hn : L.length = n) (hb : w.heap[g]? = some (.cells cur T (0, 0))) (ht : cur.toList.take (n * 3) = flatS L) : HoldsK encS 3 w g 0 L.toArray := by
  intro j hj
  rw [flatK_S] at hj ⊢
  have hj' : j < n * 3 := by simpa [flatS_len, hn] using hj
  refine ⟨?_, by simp [World.frozen?, hb]⟩
  rw [Nat.zero_add, cell_of_row w g j cur _ _ hb, ← Array.getElem?_toList, ← List.getElem?_take_of_lt hj', ht]
  rw [getElem!_pos _ j hj]
  simp
/-- behind the sort the slice owns the sorted list -/
theorem own_sorted {w : World} {base g cap m n : Nat} {os : Array Obj} {cur : Array Value} {M : List Sd} (hl : M.length = n) (hbase : base ≤ g) (hb : w.heap[g]? = some (.cells cur 87 (0, 0))) (h1 : n ≤ cap) (h2 : cap ≤ maxLen) (h3 : cur.size = cap * 3) :
    (grow (putRowK encS 3 (Sort.ahead w m) g 0 M.toArray) os).ownsRow base 87 3 (.slice (some ⟨g, 0, none⟩) n cap) n (flatS M) ∧ w.grownBy (grow (putRowK encS 3 (Sort.ahead w m) g 0 M.toArray) os) (some g) := by
  have hg : g < w.heap.size := (Array.getElem?_eq_some_iff.1 hb).1
  refine ⟨⟨by rw [flatS_len, hl], .inr ⟨g, cap, putCells id 0 (flatS M).toArray cur, rfl, hbase, ?_, h1, h2, by simp [putCells, h3], ?_⟩⟩, rfl, rfl, rfl, by simp [putRowK, putRow, mapBlock, Sort.ahead], fun k hk hne => ?_⟩
  · rw [heap_grow_old _ _ (by simpa [putRowK, putRow, mapBlock, Sort.ahead] using hg)]
    simp [putRowK, flatK_S, putRow, mapBlock, Sort.ahead, Array.getElem?_modify, hb, onCells]
  · apply List.ext_getElem?
    intro j
    by_cases hj : j < n * 3
    · have hjl : j < (flatS M).length := by rw [flatS_len, hl]; exact hj
      have hjc : j < cur.size := by rw [h3]; exact Nat.lt_of_lt_of_le hj (Nat.mul_le_mul_right 3 h1)
      rw [List.getElem?_take_of_lt hj, Array.getElem?_toList, List.getElem?_eq_getElem hjl]
      simp [putCells, hjl, hjc]
    · rw [List.getElem?_take_eq_none (by omega), List.getElem?_eq_none (by rw [flatS_len, hl]; omega)]
  · rw [heap_grow_old _ _ (by simpa [putRowK, putRow, mapBlock, Sort.ahead] using hk)]
    have : g ≠ k := fun e => hne (by rw [e])
    simp [putRowK, putRow, mapBlock, Sort.ahead, Array.getElem?_modify, this]
theorem cmpLays_S (blk off size : Nat) (w : World) : CmpLays Tryz.prog 110 #[] encS 3 cmpS blk off size w :=
  fun _ _ _ _ x y => (compare_any x y _).mono fun _ _ ⟨he, hw⟩ => ⟨he, hw⟩

set_option maxHeartbeats 1000000 in
theorem sortFunc_any (base : Nat) (a : Option Addr) (n c : Nat) (L : List Sd) (w : World) (h : w.ownsRow base 87 3 (.slice a n c) n (flatS L)) (hl : L.length = n) (hn : n ≤ 1000000) :
    Calls Tryz.prog 109 #[.slice a n c, .func (.func 110) #[] #[]] w fun e w' => e = .returned (.tuple #[]) ∧ w'.ownsRow base 87 3 (.slice a n c) n (flatS (mrg L)) ∧ w.grownBy w' (Value.slice a n c).ownBlock := by
  by_cases h0 : n = 0
  · subst h0
    have : L = [] := List.eq_nil_of_length_eq_zero hl
    subst this
    have hcon := AnyF.slices_SortFunc_none laySort a c (.func (.func 110) #[] #[]) w
    refine Calls.mono hcon fun e w' he => ?_
    obtain ⟨rfl, rfl⟩ := he
    rw [show mrg [] = [] by simp [mrg]]
    exact ⟨rfl, h, rfl, rfl, rfl, Nat.le_refl _, fun _ _ _ => rfl⟩
  · rcases h.2 with ⟨e, e0⟩ | ⟨g, cap, cur, e, hbase, hb, h1, h2, h3, h4⟩
    · exact absurd e0 h0
    · cases e
      have eg : ∀ args w, (callFunc 110 args).run Tryz.prog w = .ok (.enter 110 args) w := enters_of Tryz.func110 (by kernel_rfl) rfl
      have hsz : L.toArray.size = n := by simpa using hl
      have hcon := AnyQ.slices_SortFunc_total laySort 3 Tryz.isAgg87 Tryz.sizeOf87 encS encS_len encS_one cmpS swo_cmpS 110 #[] g 0 c L.toArray w eg (cmpLays_S g 0 _ w) (holdsK_own hl hb h4) (Array.getElem?_eq_some_iff.1 hb).1 (by omega) total_cmpS
      rw [hsz] at hcon
      refine Calls.mono hcon fun e w' he => ?_
      obtain ⟨rfl, m, os, rfl⟩ := he
      have e1 : (L.toArray.toList.mergeSort fun x y => !(ltOf cmpS) y x) = mrg L := by rw [List.toList_toArray, mrg_eq]
      rw [e1]
      exact ⟨rfl, own_sorted (by rw [mrg_len, hl]) hbase hb h1 h2 h3⟩

set_option maxHeartbeats 1000000 in
theorem sclone_any (a : Option Addr) (n c : Nat) (L : List Sd) (w : World) (h : SlS w a n c L) (ha : a = none ∨ ∃ b o, a = some ⟨b, o, none⟩) (hn : n ≤ 1000000) :
    Calls Tryz.prog 108 #[.slice a n c] w fun e w' => (∃ a' c', e = .returned (.slice a' n c') ∧ w'.ownsRow w.heap.size 87 3 (.slice a' n c') n (flatS L)) ∧ Gr w w' := by
  rcases ha with rfl | ⟨b, o, rfl⟩
  · rcases h with ⟨_, rfl, rfl, rfl⟩ | ⟨x, e, _⟩
    · refine Calls.mono (AnyE.slices_Clone_nil layClone 0 0 w) fun e w' he => ?_
      obtain ⟨rfl, rfl⟩ := he
      exact ⟨⟨none, 0, rfl, World.ownsRow_nil _ _ _ _⟩, Gr.refl _⟩
    · cases e
  · obtain ⟨i0, hi, hz0, hz1, hz2⟩ := info_parts info_seed
    have hl := h.len.1
    have hcells : ∀ j u, (flatS L)[j]? = some u → w.cell? ⟨b, o + j, none⟩ = some u := by
      intro j u hu
      rcases h with ⟨e, _⟩ | ⟨x, e, h1, h2, h3, h4 | ⟨b', o', e', hb, hc⟩⟩
      · cases e
      · have : L = [] := List.eq_nil_of_length_eq_zero (by omega)
        subst this
        cases hu
      · cases e; cases e'; exact hc j u hu
    have hcon := AnyE.slices_Clone layClone i0 (.agg #[.int .i64 0, .int .i64 0, .int .i64 0]) 3 24 hi hz0 hz1 hz2 rfl (by decide) Tryz.sizeOf87 b o n c (flatS L) w (by rw [flatS_len, hl]) (by unfold maxLen; omega) (by omega) hcells (flatS_one L)
    refine Calls.mono hcon fun e w' he => ?_
    obtain ⟨v, rfl, hown, hne, hg⟩ := he
    rcases hown.2 with ⟨e, _⟩ | ⟨g, cap, cur, e, r⟩
    · exact absurd e hne
    · subst e
      exact ⟨⟨_, cap, rfl, hown⟩, hg⟩

open Go.RowKit Go.Sort

/-- block g holds the seeds dk, n of them, with room for c -/
def Rw (u : World) (g c n : Nat) (dk : Array Sd) : Prop :=
  ∃ f, u.rowIs g 87 (c * 3) f ∧ ∀ i, i < n → f (i * 3) = .int .i64 dk[i]!.1 ∧ f (i * 3 + 1) = .int .i64 dk[i]!.2.1 ∧ f (i * 3 + 2) = .int .i64 dk[i]!.2.2
theorem Rw.cells {u : World} {g c n : Nat} {dk : Array Sd} (h : Rw u g c n dk) (hc : n ≤ c) {i : Nat} (hi : i < n) : u.cell? ⟨g, i * 3, none⟩ = some (.int .i64 dk[i]!.1) ∧ u.cell? ⟨g, i * 3 + 1, none⟩ = some (.int .i64 dk[i]!.2.1) ∧ u.cell? ⟨g, i * 3 + 2, none⟩ = some (.int .i64 dk[i]!.2.2) := by
  obtain ⟨f, h1, h2⟩ := h
  obtain ⟨e1, e2, e3⟩ := h2 i hi
  have a := h1.cell (i := i * 3) (by omega)
  have b := h1.cell (i := i * 3 + 1) (by omega)
  have d := h1.cell (i := i * 3 + 2) (by omega)
  rw [e1] at a; rw [e2] at b; rw [e3] at d
  exact ⟨a, b, d⟩
theorem Rw.frozen {u : World} {g c n : Nat} {dk : Array Sd} (h : Rw u g c n dk) (i : Nat) : u.frozen? ⟨g, i, none⟩ = false := by
  obtain ⟨f, h1, _⟩ := h
  exact h1.frozen i
theorem Rw.drew {u : World} {g c n : Nat} {dk : Array Sd} (h : Rw u g c n dk) (q : Nat) : Rw (u.drewN q) g c n dk := h
theorem Rw.put {u : World} {g c n : Nat} {dk : Array Sd} (h : Rw u g c n dk) {k : Nat} (hk : k < n) (hs : dk.size = n) (x : Sd) :
    Rw (((u.setCell ⟨g, k * 3, none⟩ (.int .i64 x.1)).setCell ⟨g, k * 3 + 1, none⟩ (.int .i64 x.2.1)).setCell ⟨g, k * 3 + 2, none⟩ (.int .i64 x.2.2)) g c n (dk.setIfInBounds k x) := by
  obtain ⟨f, h1, h2⟩ := h
  refine ⟨_, ((h1.set _ _).set _ _).set _ _, fun i hi => ?_⟩
  obtain ⟨e1, e2, e3⟩ := h2 i hi
  by_cases e : i = k
  · subst e
    rw [Go.Sort.getElem!_set_same dk i x (by omega)]
    refine ⟨?_, ?_, ?_⟩ <;> simp
  · rw [Go.Sort.getElem!_set_other dk k i x (by omega)]
    refine ⟨?_, ?_, ?_⟩
    · rw [if_neg (by omega), if_neg (by omega), if_neg (by omega)]; exact e1
    · rw [if_neg (by omega), if_neg (by omega), if_neg (by omega)]; exact e2
    · rw [if_neg (by omega), if_neg (by omega), if_neg (by omega)]; exact e3
/-- a row whose cells from o on are written -/
theorem row_setCells {t : TypeId} {g N : Nat} : ∀ (vs : List Value) (o : Nat) (u : World) (f : Nat → Value), u.rowIs g t N f → ∃ f', (u.setCells g o vs).rowIs g t N f' ∧ ∀ i, i < o → f' i = f i
  | [], o, u, f, h => ⟨f, h, fun _ _ => rfl⟩
  | v :: vs, o, u, f, h => by
    obtain ⟨f', h1, h2⟩ := row_setCells vs (o + 1) _ _ (h.set o v)
    exact ⟨f', h1, fun i hi => by rw [h2 i (by omega), if_neg (by omega)]⟩
theorem kp_setCells {S : Nat → Prop} {a : World} {g : Nat} (hg : S g) : ∀ (vs : List Value) (o : Nat) (u : World), Kp S a u → Kp S a (u.setCells g o vs)
  | [], _, _, h => h
  | v :: vs, o, _, h => kp_setCells hg vs (o + 1) _ (h.set (p := ⟨g, o, none⟩) (.inl hg) v)
/-- 'clear(s)' at seeds -/
theorem run_clear_seeds (w : World) (ty : TypeId) (b o n c : Nat) (hn : 0 < n)
    (hc : ∀ j, j < n * 3 → (w.cell? ⟨b, o + j, none⟩).isSome = true) (hf : ∀ j, w.frozen? ⟨b, j, none⟩ = false) :
    (Builtin.clear_ #[88] ty #[.slice (some ⟨b, o, none⟩) n c]).run Tryz.prog w = .ok (.tuple #[]) (w.setCells b o (List.replicate (n * 3) (.int .i64 0))) := by
  have hzc : (Builtin.zeroCells #[.int .i64 0, .int .i64 0, .int .i64 0] n).toList = List.replicate (n * 3) (.int .i64 0) := by
    simp only [Builtin.zeroCells]
    apply List.ext_getElem
    · simp
    · intro i h1 h2
      simp
      rcases (by omega : i % 3 = 0 ∨ i % 3 = 1 ∨ i % 3 = 2) with r | r | r <;> rw [r] <;> rfl
  have hst := run_storeCells_cells (P := Tryz.prog) b o (List.replicate (n * 3) (.int .i64 0)) 0 w (by simpa using hc) (by intro j hj; exact hf _) (by intro v hv'; rw [List.eq_of_mem_replicate hv']; rfl)
  simp only [Nat.add_zero] at hst
  have hv := fun w => Tryz.zeroValue87 w
  obtain ⟨m, rfl⟩ : ∃ m, n = m + 1 := ⟨n - 1, by omega⟩
  simp [Builtin.clear_, run_underlying Tryz.underlying88, hv, Value.cells, hzc, hst]
theorem Kp.grown {g : Nat} {w w' : World} (h : Kp (fun k => k = g) w w') : w.grownBy w' (some g) :=
  ⟨h.os, h.tape, h.output, h.size, fun k hk hne => h.block k hk (fun e => hne (by rw [e]))⟩

theorem rw_own {w : World} {g c n : Nat} {cur : Array Value} {L : List Sd} (hl : L.length = n) (hb : w.heap[g]? = some (.cells cur 87 (0, 0))) (h3 : cur.size = c * 3) (h4 : cur.toList.take (n * 3) = flatS L) : Rw w g c n L.toArray := by
  refine ⟨fun i => cur[i]!, ⟨cur, hb, h3, fun i hi => ?_⟩, fun i hi => ?_⟩
  · show cur[i]? = some cur[i]!
    rw [getElem!_pos cur i (by omega)]
    exact Array.getElem?_eq_getElem (by omega)
  · have hget : ∀ t, t < n * 3 → cur[t]? = (flatS L)[t]? := fun t ht => by
      rw [← h4, List.getElem?_take_of_lt ht, Array.getElem?_toList]
    obtain ⟨e1, e2, e3⟩ := flatS_get L i (el L i) (el_get? (by omega))
    rw [el_get! (by omega)]
    have q : ∀ t u, t < n * 3 → (flatS L)[t]? = some u → cur[t]! = u := fun t u ht hu => by
      rw [← hget t ht] at hu
      obtain ⟨h, e⟩ := Array.getElem?_eq_some_iff.1 hu
      rw [getElem!_pos cur t h, e]
    exact ⟨q _ _ (by omega) e1, q _ _ (by omega) e2, q _ _ (by omega) e3⟩
theorem Rw.own {u : World} {base g c n m : Nat} {dk : Array Sd} {M : List Sd} (h : Rw u g c n dk) (hm : m ≤ n) (hc : n ≤ c) (hcm : c ≤ maxLen) (hb : base ≤ g) (hl : M.length = m) (he : ∀ j, j < m → M[j]? = some dk[j]!) :
    u.ownsRow base 87 3 (.slice (some ⟨g, 0, none⟩) m c) m (flatS M) := by
  obtain ⟨f, ⟨cur, h1, h2, h3⟩, h4⟩ := h
  refine ⟨by rw [flatS_len, hl], .inr ⟨g, c, cur, rfl, hb, h1, by omega, hcm, h2, ?_⟩⟩
  apply List.ext_getElem?
  intro t
  by_cases ht : t < m * 3
  · rw [List.getElem?_take_of_lt ht, Array.getElem?_toList, h3 t (by omega)]
    have hi : t / 3 < m := by omega
    obtain ⟨e1, e2, e3⟩ := flatS_get M (t / 3) _ (he (t / 3) hi)
    obtain ⟨f1, f2, f3⟩ := h4 (t / 3) (by omega)
    rcases (by omega : t % 3 = 0 ∨ t % 3 = 1 ∨ t % 3 = 2) with r | r | r
    · rw [show t / 3 * 3 = t by omega] at e1 f1; rw [e1, f1]
    · rw [show t / 3 * 3 + 1 = t by omega] at e2 f2; rw [e2, f2]
    · rw [show t / 3 * 3 + 2 = t by omega] at e3 f3; rw [e3, f3]
  · rw [List.getElem?_take_eq_none (by omega), List.getElem?_eq_none (by rw [flatS_len, hl]; omega)]
theorem Rw.kp {u u' : World} {g c n : Nat} {dk : Array Sd} (h : Rw u g c n dk) (k : Gr u u') : Rw u' g c n dk := by
  obtain ⟨f, h1, h2⟩ := h
  exact ⟨f, row_gr h1 k, h2⟩
theorem Rw.cut {u : World} {g c n m : Nat} {dk : Array Sd} (h : Rw u g c n dk) (vs : List Value) (hm : m ≤ n) : Rw (u.setCells g (m * 3) vs) g c m dk := by
  obtain ⟨f, h1, h2⟩ := h
  obtain ⟨f', r1, r2⟩ := row_setCells vs (m * 3) u f h1
  refine ⟨f', r1, fun i hi => ?_⟩
  rw [r2 _ (by omega), r2 _ (by omega), r2 _ (by omega)]
  exact h2 i (by omega)
/-- nothing goes where no two neighbours are alike -/
theorem cpt_same {d : Array Sd} (h : ∀ j, j < d.size → Lib.keeps d j = true) : Lib.compactUpTo d d.size = d.toList := by rw [Lib.compactUpTo_all d _ h, Lib.range_map_get]

set_option maxHeartbeats 4000000 in
theorem compact_row (g n c : Nat) (d : Array Sd) (w : World) (h : Rw w g c n d) (hd : d.size = n) (hc : n ≤ c) (hn : n ≤ 1000000) :
    Calls Tryz.prog 111 #[.slice (some ⟨g, 0, none⟩) n c] w fun e w' => ∃ (m : Nat) (dk : Array Sd), e = .returned (.slice (some ⟨g, 0, none⟩) m c) ∧ m = (Lib.compactUpTo d d.size).length ∧ m ≤ n ∧ Rw w' g c m dk ∧ (∀ j, j < m → (Lib.compactUpTo d d.size)[j]? = some dk[j]!) ∧ Kp (fun k => k = g) w w' := by
  have H := hide h
  have HD := hide hd
  clear h hd
  have whole : (∀ j, j < n → Lib.keeps d j = true) → n = (Lib.compactUpTo d d.size).length ∧ ∀ j, j < n → (Lib.compactUpTo d d.size)[j]? = some d[j]! := by
    intro hk
    rw [cpt_same (by rw [HD.out]; exact hk)]
    refine ⟨by simpa using HD.out.symm, fun j hj => ?_⟩
    have : j < d.size := by rw [HD.out]; exact hj
    rw [getElem!_pos d j this]
    simp [this]
  have HW := hide whole
  clear whole
  by_cases h2 : n < 2
  · have h2i : (n : Int) < 2 := by omega
    go_enter Tryz.func111, Tryz.ntmps111
    go_wp2
    go_ret
    obtain ⟨e1, e2⟩ := HW.out (fun j hj => Lib.keeps_lt_one d j (by omega))
    exact ⟨n, d, rfl, e1, Nat.le_refl _, H.out, e2, Kp.refl _ _⟩
  · have h2i : ¬ (n : Int) < 2 := by omega
    go_enter Tryz.func111, Tryz.ntmps111
    go_wp2_with fail
    go_loopw [3] (fun i u => ∃ (k : Nat), 1 ≤ k ∧ k ≤ n ∧ i = .int .i64 k ∧ (∀ j, j < k → Lib.keeps d j = true) ∧ Dr w u) (fun i _ => n - (intOf i).toNat)
    case atStart => exact ⟨1, Nat.le_refl _, by omega, rfl, Lib.keeps_lt_one d, Dr.refl _⟩
    case round =>
      obtain ⟨k, hk1, hk, rfl, hall, hdr⟩ := hrel
      have HA := hide hall
      clear hall
      by_cases hlt : k < n
      · have hlt2 : (k : Int) < (n : Int) := by omega
        have hr := H.out.kp hdr.gr
        obtain ⟨c1, c2, c3⟩ := hr.cells hc hlt
        obtain ⟨d1, d2, d3⟩ := hr.cells hc (i := k - 1) (by omega)
        have HR := hide hr
        clear hr
        obtain ⟨p, hp⟩ : ∃ p : Sd, p = d[k]! := ⟨_, rfl⟩
        obtain ⟨q, hq⟩ : ∃ q : Sd, q = d[k - 1]! := ⟨_, rfl⟩
        rw [← hp] at c1 c2 c3
        rw [← hq] at d1 d2 d3
        have HP := hide hp
        have HQ := hide hq
        clear hp hq
        by_cases e : p = q
        · have en : ∀ w, Sem.run Tryz.prog (binOp .eql 87 (.agg #[.int .i64 p.1, .int .i64 p.2.1, .int .i64 p.2.2]) (.agg #[.int .i64 q.1, .int .i64 q.2.1, .int .i64 q.2.2])) w = .ok (.bool true) w := fun w => by
            have := eql_seed p q w
            rw [decide_eq_true e] at this
            exact this
          have HE := hide e
          clear e
          go_wp2_with fail
          go_quiet (fail)
          go_wp2_with fail
          clear c1 c2 c3 d1 d2 d3 en
          go_loopw [3, 5] (fun i3 i5 u => ∃ (kk k2 : Nat) (dk : Array Sd), i3 = .int .i64 kk ∧ i5 = .int .i64 k2 ∧ 1 ≤ k2 ∧ k + k2 ≤ n ∧ Lib.CompInv d (k + k2) kk dk ∧ Rw u g c n dk ∧ Kp (fun k => k = g) w u) (fun _ i5 _ => n - (intOf i5).toNat)
          case atStart => exact ⟨k, 1, d, rfl, rfl, Nat.le_refl _, by omega, Lib.CompInv.start HA.out (Lib.keeps_neg (by omega) (by rw [← HP.out, ← HQ.out]; exact HE.out)), HR.out.drew nq, (hdr.gr.kp).dr ⟨nq, rfl⟩⟩
          case round =>
            obtain ⟨kk, k2, dk, rfl, rfl, h1, hle, hI, hrw, hkp⟩ := hrel
            have hkk := hI.lt
            have hds := hI.size
            rw [HD.out] at hds
            have HI := hide hI
            have HRw := hide hrw
            have HK := hide hkp
            clear hI hrw hkp HR hdr
            have hfz := fun i => HRw.out.frozen i
            by_cases hlt3 : k + k2 < n
            · have hlt4 : (k2 : Int) < ((n - k : Nat) : Int) := by omega
              obtain ⟨a1, a2, a3⟩ := HRw.out.cells hc (i := k + k2) hlt3
              obtain ⟨b1, b2, b3⟩ := HRw.out.cells hc (i := k + k2 - 1) (by omega)
              obtain ⟨o1, o2, o3⟩ := HRw.out.cells hc (i := kk) (by omega)
              rw [HI.out.high (k + k2) (by omega), show (k + k2) * 3 = k * 3 + k2 * 3 by omega] at a1 a2 a3
              rw [HI.out.high (k + k2 - 1) (by omega), show (k + k2 - 1) * 3 = k * 3 + (k2 - 1) * 3 by omega] at b1 b2 b3
              obtain ⟨x, hx⟩ : ∃ x : Sd, x = d[k + k2]! := ⟨_, rfl⟩
              obtain ⟨y, hy⟩ : ∃ y : Sd, y = d[k + k2 - 1]! := ⟨_, rfl⟩
              rw [← hx] at a1 a2 a3
              rw [← hy] at b1 b2 b3
              have HX := hide hx
              have HY := hide hy
              clear hx hy
              by_cases e : x = y
              · have en : ∀ w, Sem.run Tryz.prog (binOp .neq 87 (.agg #[.int .i64 x.1, .int .i64 x.2.1, .int .i64 x.2.2]) (.agg #[.int .i64 y.1, .int .i64 y.2.1, .int .i64 y.2.2])) w = .ok (.bool false) w := fun w => by
                  have := neq_seed x y w
                  rw [decide_eq_true e] at this
                  exact this
                have HE := hide e
                clear e
                go_wp2_with fail
                go_quiet (fail)
                go_wp2
                go_roundw
                case rel => exact ⟨kk, k2 + 1, dk, rfl, by go_num, by omega, by omega, HI.out.skip (Lib.keeps_neg (by omega) (by rw [← HX.out, ← HY.out]; exact HE.out)), HRw.out.drew _, HK.out.dr ⟨_, rfl⟩⟩
                case measure => simp [intOf]; omega
              · have en : ∀ w, Sem.run Tryz.prog (binOp .neq 87 (.agg #[.int .i64 x.1, .int .i64 x.2.1, .int .i64 x.2.2]) (.agg #[.int .i64 y.1, .int .i64 y.2.1, .int .i64 y.2.2])) w = .ok (.bool true) w := fun w => by
                  have := neq_seed x y w
                  rw [decide_eq_false e] at this
                  exact this
                have HE := hide e
                clear e
                go_wp2_with fail
                go_quiet (fail)
                go_wp2_with fail
                go_roundw
                case rel =>
                  refine ⟨kk + 1, k2 + 1, dk.setIfInBounds kk x, by go_num, by go_num, by omega, by omega, ?_, (HRw.out.drew _).put (by omega) hds x, (((HK.out.dr ⟨_, rfl⟩).set (.inl rfl) _).set (.inl rfl) _).set (.inl rfl) _⟩
                  have := HI.out.keep (by rw [HD.out]; exact hlt3) (Lib.keeps_pos (by rw [← HX.out, ← HY.out]; exact HE.out))
                  rwa [← HX.out] at this
                case measure => simp [intOf]; omega
            · have hend : k + k2 = n := by omega
              have hlt4 : ¬ (k2 : Int) < ((n - k : Nat) : Int) := by omega
              have hcl : ∀ ty, (Builtin.clear_ #[88] ty #[.slice (some ⟨g, kk * 3, none⟩) (n - kk) (c - kk)]).run Tryz.prog wr = .ok (.tuple #[]) (wr.setCells g (kk * 3) (List.replicate ((n - kk) * 3) (.int .i64 0))) := fun ty =>
                run_clear_seeds wr ty g (kk * 3) (n - kk) (c - kk) (by omega) (fun j hj => by
                  obtain ⟨f, r1, _⟩ := HRw.out
                  rw [r1.cell (i := kk * 3 + j) (by omega)]; rfl) hfz
              go_wp2_with fail
              go_ret
              have hI := HI.out
              rw [hend, ← HD.out] at hI
              exact ⟨kk, rfl, hI.len.symm, by omega, dk, HRw.out.cut _ (by omega), hI.low, kp_setCells (S := fun k => k = g) rfl _ _ _ HK.out⟩
        · have en : ∀ w, Sem.run Tryz.prog (binOp .eql 87 (.agg #[.int .i64 p.1, .int .i64 p.2.1, .int .i64 p.2.2]) (.agg #[.int .i64 q.1, .int .i64 q.2.1, .int .i64 q.2.2])) w = .ok (.bool false) w := fun w => by
            have := eql_seed p q w
            rw [decide_eq_false e] at this
            exact this
          have HE := hide e
          clear e
          go_wp2_with fail
          go_quiet (fail)
          go_wp2
          go_roundw
          case rel =>
            refine ⟨k + 1, by omega, by omega, by go_num, fun j hj => ?_, by repeat (first | exact Dr.refl _ | assumption | refine Dr.add ?_ | refine Dr.trans ?_ (by assumption))⟩
            rcases (by omega : j < k ∨ j = k) with r | rfl
            · exact HA.out j r
            · exact Lib.keeps_pos (by rw [← HP.out, ← HQ.out]; exact HE.out)
          case measure => simp [intOf]; omega
      · have : k = n := by omega
        subst this
        go_wp2
        go_ret
        obtain ⟨e1, e2⟩ := HW.out HA.out
        exact ⟨k, d, rfl, e1, Nat.le_refl _, H.out.kp hdr.gr, e2, hdr.gr.kp⟩

/-- the library's Compact at a slice of the call's own that holds the sorted list -/
theorem compact_any (base : Nat) (a : Option Addr) (n c : Nat) (L : List Sd) (w : World) (h : w.ownsRow base 87 3 (.slice a n c) n (flatS (mrg L))) (hl : L.length = n) (hn : n ≤ 1000000) :
    Calls Tryz.prog 111 #[.slice a n c] w fun e w' => (∃ m, m = (srt L).length ∧ e = .returned (.slice a m c) ∧ w'.ownsRow base 87 3 (.slice a m c) m (flatS (srt L))) ∧ w.grownBy w' (Value.slice a n c).ownBlock := by
  rcases h.2 with ⟨e, e0⟩ | ⟨g, cap, cur, e, hbase, hb, h1, h2, h3, h4⟩
  · cases e
    have : L = [] := List.eq_nil_of_length_eq_zero hl
    subst this
    have hs : srt ([] : List Sd) = [] := List.eq_nil_of_length_eq_zero (Nat.le_zero.1 (srt_len []))
    rw [hs]
    have ho := World.ownsRow_nil w base 87 3
    clear h hs
    go_enter Tryz.func111, Tryz.ntmps111
    go_wp2
    go_ret
    exact ⟨⟨rfl, ho⟩, rfl, rfl, rfl, Nat.le_refl _, fun _ _ _ => rfl⟩
  · cases e
    have hml : (mrg L).length = n := by rw [mrg_len, hl]
    refine Calls.mono (compact_row g n c (mrg L).toArray w (rw_own hml hb h3 h4) (by simpa using hml) h1 hn) fun e w' he => ?_
    obtain ⟨m, dk, rfl, hm, hmn, hrw, hd, hk⟩ := he
    rw [compact_srt] at hm hd
    exact ⟨⟨m, hm, rfl, hrw.own (Nat.le_refl _) (by omega) h2 hbase hm.symm hd⟩, hk.grown⟩

set_option maxHeartbeats 1000000 in
/-- seeds.Sort -/
theorem sort_any (a : Option Addr) (n c : Nat) (L : List Sd) (w : World) (h : SlS w a n c L) (ha : a = none ∨ ∃ b o, a = some ⟨b, o, none⟩) (hn : n ≤ 1000000) :
    Calls Tryz.prog 101 #[.slice a n c] w fun e w' => (∃ a' c' m, m = (srt L).length ∧ e = .returned (.slice a' m c') ∧ w'.ownsRow w.heap.size 87 3 (.slice a' m c') m (flatS (srt L))) ∧ Gr w w' := by
  have hl := h.len.1
  go_enter Tryz.func101, Tryz.ntmps101
  go_wp2_with fail
  refine (sclone_any a n c L w h ha hn).mono ?_
  rintro e w1 ⟨⟨a1, c1, rfl, hown⟩, hg⟩
  go_wp2_with fail
  refine (sortFunc_any w.heap.size a1 n c1 L w1 hown hl hn).mono ?_
  rintro e w2 ⟨rfl, hown2, hb2⟩
  go_wp2_with fail
  refine (compact_any w.heap.size a1 n c1 L w2 hown2 hl hn).mono ?_
  rintro e w3 ⟨⟨m, hm, rfl, hown3⟩, hb3⟩
  have hlo := fun k e => (hown.lt k e).1
  have hg2 : Gr w w2 := hg.grown hb2 hlo
  have hg3 : Gr w w3 := hg2.grown hb3 hlo
  subst hm
  go_wp2
  go_ret
  exact ⟨⟨a1, c1, _, rfl, rfl, hown3⟩, hg3⟩

/-- the seeds, as a list -/
def lstS (n : Nat) (z : Nat → Nat → Int) : List Sd := (List.range n).map fun i => (z i 0, z i 1, z i 2)
theorem lstS_len (n : Nat) (z : Nat → Nat → Int) : (lstS n z).length = n := by simp [lstS]
theorem lstS_el {n : Nat} {z : Nat → Nat → Int} {i : Nat} (h : i < n) : el (lstS n z) i = (z i 0, z i 1, z i 2) := by simp [el, lstS, h]
theorem SlS.of_st {w : World} {a : Option Addr} {n c : Nat} {z : Nat → Nat → Int} (h : IsSt 3 w a n c z) : SlS w a n c (lstS n z) := by
  have hh := h.has (by omega)
  have hl := h.len
  rcases h with ⟨rfl, rfl, rfl⟩ | ⟨x, rfl, h1, h2, h3⟩
  · exact .inl ⟨rfl, rfl, rfl, rfl⟩
  · refine .inr ⟨x, rfl, lstS_len _ _, h1, h2, ?_⟩
    rcases hh with h0 | ⟨b, o, e, hb, hc⟩
    · exact .inl h0
    · cases e
      refine .inr ⟨b, o, rfl, hb, fun j u hu => ?_⟩
      have hj : j < n * 3 := by
        have := (List.getElem?_eq_some_iff.1 hu).1
        rwa [flatS_len, lstS_len] at this
      rw [flatS_at (lstS n z) (by rw [lstS_len]; exact hj), lstS_el (by omega)] at hu
      have hi : j / 3 < n := by omega
      have e : o + j = o + j / 3 * 3 + j % 3 := by omega
      rw [e, (hc (j / 3) hi (j % 3) (by omega)).1]
      rcases (by omega : j % 3 = 0 ∨ j % 3 = 1 ∨ j % 3 = 2) with r | r | r <;> (rw [r] at hu ⊢; exact hu)

end Go.Proofs.YtgbadbkipaccgaaGreat
