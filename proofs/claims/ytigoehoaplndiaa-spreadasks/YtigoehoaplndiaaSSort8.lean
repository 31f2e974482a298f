/- The library's sort and copy at a slice of seeds of the call's own. No condition. -/
import Derived.Test.YtigoehoaplndiaaSSame8
import Derived.Shelf.SlSortCmp.NoneTotal
import Derived.Sort.OwnSorted
namespace Go.Proofs.Ytigoehoaplndiaa
open Go.RowKit Go.Sort
set_option maxRecDepth 20000

theorem ltOf_cmpS (x y : Sd) : ltOf cmpS x y = ltS x y := cmpS_lt x y
theorem swo_cmpS : SWO (ltOf cmpS) where
  irrefl x := by rw [ltOf_cmpS]; exact ltS_irr x
  trans x y z h1 h2 := by rw [ltOf_cmpS] at *; exact ltS_trans h1 h2
  ntrans x y z h1 h2 := by rw [ltOf_cmpS, ltS_no] at *; omega
theorem total_cmpS (x y : Sd) (h : ltOf cmpS x y = false) (g : ltOf cmpS y x = false) : x = y := by
  rw [ltOf_cmpS] at h g
  exact ltS_total x y h g
theorem mrg_eq (L : List Sd) : (L.mergeSort fun x y => !(ltOf cmpS) y x) = mrg L := by
  unfold mrg
  congr 1
  funext x y
  rw [ltOf_cmpS]
theorem encS_len (x : Sd) : (encS x).length = 3 := rfl
theorem encS_one (x : Sd) : ∀ v ∈ encS x, v.oneCell' = true := by
  intro v hv
  rcases List.mem_cons.1 hv with rfl | hv
  · rfl
  · rcases List.mem_cons.1 hv with rfl | hv
    · rfl
    · rcases List.mem_cons.1 hv with rfl | hv
      · rfl
      · cases hv
theorem el_get! {L : List Sd} {i : Nat} (h : i < L.length) : L.toArray[i]! = el L i := by
  rw [getElem!_pos L.toArray i (by simpa using h)]
  simpa using el_getElem h
theorem flatS_at (L : List Sd) {t : Nat} (h : t < L.length * 3) : (flatS L)[t]? = some ((encS (el L (t / 3)))[t % 3]!) := by
  have hi : t / 3 < L.length := by omega
  obtain ⟨e1, e2, e3⟩ := flatS_get L (t / 3) (el L (t / 3)) (el_get? hi)
  rcases (by omega : t % 3 = 0 ∨ t % 3 = 1 ∨ t % 3 = 2) with r | r | r
  · rw [show t / 3 * 3 = t by omega] at e1; rw [r, e1]; rfl
  · rw [show t / 3 * 3 + 1 = t by omega] at e2; rw [r, e2]; rfl
  · rw [show t / 3 * 3 + 2 = t by omega] at e3; rw [r, e3]; rfl
theorem flatK_S (L : List Sd) : flatK encS 3 L.toArray = (flatS L).toArray := by
  apply ext_get! (by simp [flatS_len])
  intro t ht
  have ht' : t < L.toArray.size * 3 := by simpa using ht
  have ht2 : t < L.length * 3 := by simpa using ht'
  rw [get_flatK _ _ _ _ ht', el_get! (by omega)]
  have h := flatS_at L ht2
  rw [getElem!_pos _ t (by simp [flatS_len]; exact ht2)]
  have h2 : (flatS L).toArray[t]? = some ((encS (el L (t / 3)))[t % 3]!) := by simpa using h
  exact ((Array.getElem?_eq_some_iff.1 h2).2).symm
/-- what the sort asks of a row -/
theorem holdsK_own {w : World} {g : Nat} {cur : Array Value} {T : TypeId} {L : List Sd} {n : Nat} (hn : L.length = n) (hb : w.heap[g]? = some (.cells cur T (0, 0))) (ht : cur.toList.take (n * 3) = flatS L) : HoldsK encS 3 w g 0 L.toArray := by
  intro j hj
  rw [flatK_S] at hj ⊢
  have hj' : j < n * 3 := by simpa [flatS_len, hn] using hj
  refine ⟨?_, by simp [World.frozen?, hb]⟩
  rw [Nat.zero_add, cell_of_row w g j cur _ _ hb, ← Array.getElem?_toList, ← List.getElem?_take_of_lt hj', ht]
  rw [getElem!_pos _ j hj]
  simp
/-- behind the sort the slice owns the sorted list -/
theorem own_sorted {w : World} {base g cap m n : Nat} {os : Array Obj} {cur : Array Value} {M : List Sd} (hl : M.length = n) (hbase : base ≤ g) (hb : w.heap[g]? = some (.cells cur 39 (0, 0))) (h1 : n ≤ cap) (h2 : cap ≤ maxLen) (h3 : cur.size = cap * 3) :
    (grow (putRowK encS 3 (Sort.ahead w m) g 0 M.toArray) os).ownsRow base 39 3 (.slice (some ⟨g, 0, none⟩) n cap) n (flatS M) ∧ w.grownBy (grow (putRowK encS 3 (Sort.ahead w m) g 0 M.toArray) os) (some g) := by
  have hg : g < w.heap.size := (Array.getElem?_eq_some_iff.1 hb).1
  refine ⟨⟨by rw [flatS_len, hl], .inr ⟨g, cap, putCells id 0 (flatS M).toArray cur, rfl, hbase, ?_, h1, h2, by simp [putCells, h3], ?_⟩⟩, rfl, rfl, rfl, by simp [putRowK, putRow, mapBlock, Sort.ahead], fun k hk hne => ?_⟩
  · rw [heap_grow_old _ _ (by simpa [putRowK, putRow, mapBlock, Sort.ahead] using hg)]
    simp [putRowK, flatK_S, putRow, mapBlock, Sort.ahead, Array.getElem?_modify, hb, onCells]
  · apply List.ext_getElem?
    intro j
    by_cases hj : j < n * 3
    · have hjl : j < (flatS M).length := by rw [flatS_len, hl]; exact hj
      have hjc : j < cur.size := by rw [h3]; exact Nat.lt_of_lt_of_le hj (Nat.mul_le_mul_right 3 h1)
      rw [List.getElem?_take_of_lt hj, Array.getElem?_toList, List.getElem?_eq_getElem hjl]
      simp [putCells, hjl, hjc]
    · rw [List.getElem?_take_eq_none (by omega), List.getElem?_eq_none (by rw [flatS_len, hl]; omega)]
  · rw [heap_grow_old _ _ (by simpa [putRowK, putRow, mapBlock, Sort.ahead] using hk)]
    have : g ≠ k := fun e => hne (by rw [e])
    simp [putRowK, putRow, mapBlock, Sort.ahead, Array.getElem?_modify, this]
theorem cmpLays_S (blk off size : Nat) (w : World) : CmpLays Try.prog 42 #[] encS 3 cmpS blk off size w :=
  fun _ _ _ _ x y => (compare_any x y _).mono fun _ _ ⟨he, hw⟩ => ⟨he, hw⟩

set_option maxHeartbeats 1000000 in
theorem sortFunc_any (base : Nat) (a : Option Addr) (n c : Nat) (L : List Sd) (w : World) (h : w.ownsRow base 39 3 (.slice a n c) n (flatS L)) (hl : L.length = n) (hn : n ≤ 1000000) :
    Calls Try.prog 41 #[.slice a n c, .func (.func 42) #[] #[]] w fun e w' => e = .returned (.tuple #[]) ∧ w'.ownsRow base 39 3 (.slice a n c) n (flatS (mrg L)) ∧ w.grownBy w' (Value.slice a n c).ownBlock := by
  by_cases h0 : n = 0
  · subst h0
    have : L = [] := List.eq_nil_of_length_eq_zero hl
    subst this
    have hcon := AnyF.slices_SortFunc_none laySort a c (.func (.func 42) #[] #[]) w
    refine Calls.mono hcon fun e w' he => ?_
    obtain ⟨rfl, rfl⟩ := he
    rw [show mrg [] = [] by simp [mrg]]
    exact ⟨rfl, h, rfl, rfl, rfl, Nat.le_refl _, fun _ _ _ => rfl⟩
  · rcases h.2 with ⟨e, e0⟩ | ⟨g, cap, cur, e, hbase, hb, h1, h2, h3, h4⟩
    · exact absurd e0 h0
    · cases e
      have eg : ∀ args w, (callFunc 42 args).run Try.prog w = .ok (.enter 42 args) w := enters_of Try.func42 (by kernel_rfl) rfl
      have hsz : L.toArray.size = n := by simpa using hl
      have hcon := AnyQ.slices_SortFunc_total laySort 3 Try.isAgg39 Try.sizeOf39 encS encS_len encS_one cmpS swo_cmpS 42 #[] g 0 c L.toArray w eg (cmpLays_S g 0 _ w) (holdsK_own hl hb h4) (Array.getElem?_eq_some_iff.1 hb).1 (by omega) total_cmpS
      rw [hsz] at hcon
      refine Calls.mono hcon fun e w' he => ?_
      obtain ⟨rfl, m, os, rfl⟩ := he
      have e1 : (L.toArray.toList.mergeSort fun x y => !(ltOf cmpS) y x) = mrg L := by rw [List.toList_toArray, mrg_eq]
      rw [e1]
      exact ⟨rfl, own_sorted (by rw [mrg_len, hl]) hbase hb h1 h2 h3⟩

set_option maxHeartbeats 1000000 in
theorem sclone_any (a : Option Addr) (n c : Nat) (L : List Sd) (w : World) (h : SlS w a n c L) (ha : a = none ∨ ∃ b o, a = some ⟨b, o, none⟩) (hn : n ≤ 1000000) :
    Calls Try.prog 40 #[.slice a n c] w fun e w' => (∃ a' c', e = .returned (.slice a' n c') ∧ w'.ownsRow w.heap.size 39 3 (.slice a' n c') n (flatS L)) ∧ Gr w w' := by
  rcases ha with rfl | ⟨b, o, rfl⟩
  · rcases h with ⟨_, rfl, rfl, rfl⟩ | ⟨x, e, _⟩
    · refine Calls.mono (AnyE.slices_Clone_nil layClone 0 0 w) fun e w' he => ?_
      obtain ⟨rfl, rfl⟩ := he
      exact ⟨⟨none, 0, rfl, World.ownsRow_nil _ _ _ _⟩, Gr.refl _⟩
    · cases e
  · obtain ⟨i0, hi, hz0, hz1, hz2⟩ := info_parts info_seed
    have hl := h.len.1
    have hcells : ∀ j u, (flatS L)[j]? = some u → w.cell? ⟨b, o + j, none⟩ = some u := by
      intro j u hu
      rcases h with ⟨e, _⟩ | ⟨x, e, h1, h2, h3, h4 | ⟨b', o', e', hb, hc⟩⟩
      · cases e
      · have : L = [] := List.eq_nil_of_length_eq_zero (by omega)
        subst this
        cases hu
      · cases e; cases e'; exact hc j u hu
    have hcon := AnyE.slices_Clone layClone i0 (.agg #[.int .i64 0, .int .i64 0, .int .i64 0]) 3 24 hi hz0 hz1 hz2 rfl (by decide) Try.sizeOf39 b o n c (flatS L) w (by rw [flatS_len, hl]) (by unfold maxLen; omega) (by omega) hcells (flatS_one L)
    refine Calls.mono hcon fun e w' he => ?_
    obtain ⟨v, rfl, hown, hne, hg⟩ := he
    rcases hown.2 with ⟨e, _⟩ | ⟨g, cap, cur, e, r⟩
    · exact absurd e hne
    · subst e
      exact ⟨⟨_, cap, rfl, hown⟩, hg⟩

end Go.Proofs.Ytigoehoaplndiaa
