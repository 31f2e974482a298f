/- The sort of locals by how far they are: the closure that compares, the library's sort at it. No condition. -/
import Derived.Test.YtigoehoaplndiaaXFar9
import Derived.Test.YtigoehoaplndiaaSSort8
import Derived.Test.YtigoehoaplndiaaXLay9
namespace Go.Proofs.Ytigoehoaplndiaa
open Go.RowKit Go.Sort Go.Shelf
set_option maxRecDepth 20000

/-- the first that is not 0 -/
def or2 (x y : Int) : Int := if x ≠ 0 then x else y
def sel2 (x y : Int) (i : Nat) : Int := if i = 0 then x else y
theorem or2_at {x y : Int} {s : Nat} (hs : s < 2) (h0 : ∀ j, j < s → sel2 x y j = 0) (h : sel2 x y s ≠ 0) : or2 x y = sel2 x y s := by
  rcases (by omega : s = 0 ∨ s = 1) with rfl | rfl
  · exact if_pos h
  · have a0 : x = 0 := h0 0 (by omega)
    unfold or2
    rw [if_neg (by omega)]
    rfl
theorem or2_none {x y : Int} (h0 : ∀ j, j < 2 → sel2 x y j = 0) : or2 x y = 0 := by
  have a0 : x = 0 := h0 0 (by omega)
  have a1 : y = 0 := h0 1 (by omega)
  unfold or2
  rw [if_neg (by omega), a1]
set_option maxHeartbeats 400000 in
theorem or2_any (x y : Int) (B : Nat) (w : World) (hc : ∀ i, i < 2 → w.cell? ⟨B, i, none⟩ = some (.int .i64 (sel2 x y i))) :
    Calls Try.prog 27 #[.slice (some ⟨B, 0, none⟩) 2 2] w fun e w' => e = .returned (.int .i64 (or2 x y)) ∧ w' = w := by
  have HC := hide hc
  clear hc
  go_enter Try.func27, Try.ntmps27
  go_wp2_with fail
  go_loopw [8] (fun i u => ∃ (s : Nat), s ≤ 2 ∧ i = .int .i64 s ∧ (∀ j, j < s → sel2 x y j = 0) ∧ u = w) (fun i _ => 2 - (intOf i).toNat)
  case atStart => exact ⟨0, by omega, rfl, fun j hj => absurd hj (Nat.not_lt_zero _), rfl⟩
  case round =>
    obtain ⟨s, hs, rfl, h0, rfl⟩ := hrel
    have H0 := hide h0
    clear h0
    by_cases hsn : s < 2
    · have hsn2 : (s : Int) < 2 := by omega
      have c := HC.out s hsn
      by_cases hz : sel2 x y s = 0
      · rw [hz] at c
        have HZ := hide hz
        clear hz
        go_wp2
        go_roundw
        case rel =>
          refine ⟨s + 1, hsn, by go_num, fun j hj => ?_, by trivial⟩
          rcases (by omega : j < s ∨ j = s) with k | rfl
          · exact H0.out j k
          · exact HZ.out
        case measure => simp [intOf]; omega
      · have hz0 : (sel2 x y s == 0) = false := by simpa using hz
        obtain ⟨V, hV⟩ : ∃ V, V = sel2 x y s := ⟨_, rfl⟩
        have HE := hide (or2_at hsn H0.out hz)
        rw [← hV] at c hz hz0
        have HV := hide hV
        clear hV
        go_wp2
        go_ret
        rw [HE.out.trans HV.out.symm]
        exact ⟨rfl, rfl⟩
    · have : s = 2 := by omega
      subst this
      go_wp2
      go_ret
      rw [or2_none H0.out]
      exact ⟨rfl, rfl⟩
/-- a local as a seed: the order of locals is that of seeds -/
def sdF (F : Nat → Int) (c : Nat) : Sd := ((c : Int), 0, F c)
theorem sdF_inj {F : Nat → Int} {c d : Nat} (h : sdF F c = sdF F d) : c = d := by
  have : (c : Int) = (d : Int) := congrArg (fun x : Sd => x.1) h
  omega
theorem cmp_sd (F : Nat → Int) (c d : Nat) : or2 (cmpI (F c) (F d)) (cmpI (c : Int) (d : Int)) = cmpS (sdF F c) (sdF F d) := by
  show _ = or3 (cmpI (F c) (F d)) (cmpI (c : Int) (d : Int)) (cmpI 0 0)
  unfold or2 or3
  split
  · rfl
  · split
    · rfl
    · rename_i h
      have : cmpI (c : Int) (d : Int) = 0 := by omega
      rw [this]
      rfl
theorem new2 (w : World) (x y : Int) (T : TypeId) : ∀ i, i < 2 → (w.alloc (.cells #[.int .i64 x, .int .i64 y] T)).drew.cell? ⟨w.heap.size, i, none⟩ = some (.int .i64 (sel2 x y i)) := by
  intro i hi
  rw [cell_of_row (w.alloc (.cells #[.int .i64 x, .int .i64 y] T)).drew _ _ _ _ _ (Go.Deep.blk_alloc_new _ _)]
  rcases (by omega : i = 0 ∨ i = 1) with rfl | rfl <;> rfl

set_option maxHeartbeats 2000000 in
/-- the closure -/
theorem clo_any (F : Nat → Int) (BF gf n cf a b : Nat) (w : World) (h1 : w.cell? ⟨BF, 0, none⟩ = some (.slice (some ⟨gf, 0, none⟩) n cf)) (h2 : w.cell? ⟨gf, a, none⟩ = some (.int .i64 (F a))) (h3 : w.cell? ⟨gf, b, none⟩ = some (.int .i64 (F b))) (ha : a < n) (hb : b < n) :
    Calls Try.prog 26 #[.int .i64 a, .int .i64 b, .pointer (some ⟨BF, 0, none⟩)] w fun e w' => e = .returned (.int .i64 (cmpS (sdF F a) (sdF F b))) ∧ Gw w w' := by
  rw [← cmp_sd]
  have ha' : (a : Int) < (n : Int) := by omega
  have hb' : (b : Int) < (n : Int) := by omega
  generalize F a = x at *
  generalize F b = y at *
  go_enter Try.func26, Try.ntmps26
  go_upto_region 1 with fail
  go_region_held3 (fun u => u.cell? ⟨BF, 0, none⟩ = some (.slice (some ⟨gf, 0, none⟩) n cf) ∧ u.cell? ⟨gf, a, none⟩ = some (.int .i64 x) ∧ u.cell? ⟨gf, b, none⟩ = some (.int .i64 y)) (first | exact ⟨h1, h2, h3⟩ | exact ⟨cell_gr h1 ((Gr.refl w).alloc _).drew, cell_gr h2 ((Gr.refl w).alloc _).drew, cell_gr h3 ((Gr.refl w).alloc _).drew⟩) (first | (go_at_call 28; refine (cmp_any _ _ _).mono ?_; rintro e9 w9 ⟨rfl, rfl⟩) | (go_at_call 27; refine (or2_any _ _ _ _ (new2 _ _ _ _)).mono ?_; rintro e9 w9 ⟨rfl, rfl⟩))
  go_wp2
  go_ret
  exact ⟨rfl, ((Gw.refl w).alloc _).drew⟩

/-- a local as a value -/
def encI {n : Nat} (x : Fin n) : Value := .int .i64 (x.val : Int)
theorem encI_one (n : Nat) : OneCell (encI (n := n)) := fun _ => rfl
theorem sw_block {n : Nat} {w : World} {g m b : Nat} {d : Array (Fin n)} [Inhabited (Fin n)] {os : Array Obj} (hb : b < w.heap.size) (hne : b ≠ g) : (sortWorld encI w g 0 m d os).heap[b]? = w.heap[b]? := by
  unfold sortWorld
  rw [heap_grow_old _ _ (by simpa [putRow, mapBlock, Sort.ahead] using hb)]
  have : g ≠ b := fun e => hne e.symm
  simp [putRow, mapBlock, Sort.ahead, Array.getElem?_modify, this]
theorem sw_cell {n : Nat} {w : World} {g m b o : Nat} {v : Value} {d : Array (Fin n)} [Inhabited (Fin n)] {os : Array Obj} (h : w.cell? ⟨b, o, none⟩ = some v) (hne : b ≠ g) : (sortWorld encI w g 0 m d os).cell? ⟨b, o, none⟩ = some v :=
  (World.cell?_of_block (w := w) (a := ⟨b, o, none⟩) (sw_block (World.block_lt_of_cell? w ⟨b, o, none⟩ h) hne)).trans h
theorem own_sorted1 {q : Nat} [Inhabited (Fin q)] {w : World} {base g cap m n : Nat} {os : Array Obj} {cur : Array Value} {M : List (Fin q)} (hl : M.length = n) (hbase : base ≤ g) (hb : w.heap[g]? = some (.cells cur 3 (0, 0))) (h1 : n ≤ cap) (h2 : cap ≤ maxLen) (h3 : cur.size = cap * 1) :
    (sortWorld encI w g 0 m M.toArray os).ownsRow base 3 1 (.slice (some ⟨g, 0, none⟩) n cap) n (M.map encI) ∧ w.grownBy (sortWorld encI w g 0 m M.toArray os) (some g) := by
  have hg : g < w.heap.size := (Array.getElem?_eq_some_iff.1 hb).1
  refine ⟨⟨by rw [List.length_map, hl, Nat.mul_one], .inr ⟨g, cap, putCells encI 0 M.toArray cur, rfl, hbase, ?_, h1, h2, by simp [putCells, h3], ?_⟩⟩, rfl, rfl, rfl, by simp [sortWorld, putRow, mapBlock, Sort.ahead], fun k hk hne => sw_block hk (fun e => hne (by rw [e]))⟩
  · unfold sortWorld
    rw [heap_grow_old _ _ (by simpa [putRow, mapBlock, Sort.ahead] using hg)]
    simp [putRow, mapBlock, Sort.ahead, Array.getElem?_modify, hb, onCells]
  · apply List.ext_getElem?
    intro j
    by_cases hj : j < n
    · have hjc : j < cur.size := by rw [h3]; omega
      have hjl : j < M.length := by omega
      rw [List.getElem?_take_of_lt (by omega), Array.getElem?_toList, List.getElem?_map, List.getElem?_eq_getElem hjl]
      simp [putCells, hjl, hjc]
    · rw [List.getElem?_take_eq_none (by omega), List.getElem?_eq_none (by rw [List.length_map, hl]; omega)]
theorem holds_own1 {q : Nat} [Inhabited (Fin q)] {w : World} {g n : Nat} {cur : Array Value} {M : List (Fin q)} (hl : M.length = n) (hb : w.heap[g]? = some (.cells cur 3 (0, 0))) (ht : cur.toList.take (n * 1) = M.map encI) : Holds encI w g 0 M.toArray := by
  intro j hj
  have hj' : j < n := by simpa [hl] using hj
  refine ⟨?_, by simp [World.frozen?, hb]⟩
  rw [Nat.zero_add, cell_of_row w g j cur _ _ hb, ← Array.getElem?_toList, ← List.getElem?_take_of_lt (l := cur.toList) (j := n * 1) (by omega), ht, List.getElem?_map, List.getElem?_eq_getElem (by omega), getElem!_pos M.toArray j hj]
  simp

/-- the order of locals -/
def cmpF (F : Nat → Int) (q : Nat) (x y : Fin q) : Int := cmpS (sdF F x.val) (sdF F y.val)
theorem swo_cmpF (F : Nat → Int) (q : Nat) : SWO (ltOf (cmpF F q)) where
  irrefl x := swo_cmpS.irrefl (sdF F x.val)
  trans x y z h1 h2 := swo_cmpS.trans (sdF F x.val) (sdF F y.val) (sdF F z.val) h1 h2
  ntrans x y z h1 h2 := swo_cmpS.ntrans (sdF F x.val) (sdF F y.val) (sdF F z.val) h1 h2
theorem total_cmpF (F : Nat → Int) (q : Nat) (x y : Fin q) (h : ltOf (cmpF F q) x y = false) (g : ltOf (cmpF F q) y x = false) : x = y :=
  Fin.ext (sdF_inj (total_cmpS (sdF F x.val) (sdF F y.val) h g))
theorem ltOf_cmpF (F : Nat → Int) (q : Nat) (x y : Fin q) : ltOf (cmpF F q) x y = ltS (sdF F x.val) (sdF F y.val) := ltOf_cmpS _ _
/-- the sorted list -/
def srtF (F : Nat → Int) (q : Nat) (l : List (Fin q)) : List (Fin q) := l.mergeSort fun x y => !(ltOf (cmpF F q)) y x
theorem srtF_mem (F : Nat → Int) (q : Nat) (l : List (Fin q)) (x : Fin q) : x ∈ srtF F q l ↔ x ∈ l := List.mem_mergeSort
theorem srtF_len (F : Nat → Int) (q : Nat) (l : List (Fin q)) : (srtF F q l).length = l.length := List.length_mergeSort l
theorem srtF_rise {F : Nat → Int} {q : Nat} {l : List (Fin q)} (hd : l.Nodup) : Rise ((srtF F q l).map fun x => sdF F x.val) := by
  have h := List.pairwise_mergeSort (le := fun x y => !(ltOf (cmpF F q)) y x) (l := l) ?_ ?_
  · have hn : (srtF F q l).Nodup := (List.mergeSort_perm l _).nodup_iff.2 hd
    unfold Rise
    rw [List.pairwise_map]
    refine (h.and hn).imp fun {a b} hab => ?_
    obtain ⟨h1, h2⟩ := hab
    have h1' : ltOf (cmpF F q) b a = false := by simpa using h1
    rw [← ltOf_cmpF]
    cases e : ltOf (cmpF F q) a b with
    | true => rfl
    | false => exact absurd (total_cmpF F q a b e h1') h2
  · intro a b c h1 h2
    simp only [Bool.not_eq_true', ltOf_cmpF, ltS_no] at *
    omega
  · intro a b
    cases h : ltOf (cmpF F q) b a with
    | false => simp
    | true =>
      have : ltOf (cmpF F q) a b = false := by rw [ltOf_cmpF] at *; exact ltS_asym h
      simp [this]

set_option maxHeartbeats 1000000 in
theorem sortI_any {n : Nat} {F : Nat → Int} {BF gf cf base : Nat} {a : Option Addr} {k c : Nat} {l : List (Fin (n + 1))} {w : World} (hown : w.ownsRow base 3 1 (.slice a k c) k (l.map encI)) (hl : l.length = k) (h1 : w.cell? ⟨BF, 0, none⟩ = some (.slice (some ⟨gf, 0, none⟩) (n + 1) cf)) (hF : FarS w gf cf (n + 1) F) (hB : BF < base) (hg : gf < base) (hk : k ≤ 1000000) :
    Calls Try.prog 25 #[.slice a k c, .func (.func 26) #[] #[.pointer (some ⟨BF, 0, none⟩)]] w fun e w' => e = .returned (.tuple #[]) ∧ w'.ownsRow base 3 1 (.slice a k c) k ((srtF F (n + 1) l).map encI) ∧ w.grownBy w' (Value.slice a k c).ownBlock := by
  by_cases h0 : k = 0
  · subst h0
    have : l = [] := List.eq_nil_of_length_eq_zero hl
    subst this
    have hcon := AnyF.slices_SortFunc_none ({ laySortI with } : SlLaysF0.n6 Try.prog laySortI_ren) a c (.func (.func 26) #[] #[.pointer (some ⟨BF, 0, none⟩)]) w
    refine Calls.mono hcon fun e w' he => ?_
    obtain ⟨rfl, rfl⟩ := he
    rw [show srtF F (n + 1) [] = [] by simp [srtF]]
    exact ⟨rfl, hown, rfl, rfl, rfl, Nat.le_refl _, fun _ _ _ => rfl⟩
  · rcases hown.2 with ⟨e, e0⟩ | ⟨g, cap, cur, e, hbase, hb, q1, q2, q3, q4⟩
    · exact absurd e0 h0
    · cases e
      have eg : ∀ args w, (callFunc 26 args).run Try.prog w = .ok (.enter 26 args) w := enters_of Try.func26 (by kernel_rfl) rfl
      have hsz : l.toArray.size = k := by simpa using hl
      have hlays : CmpLays1 Try.prog 26 #[.pointer (some ⟨BF, 0, none⟩)] encI (cmpF F (n + 1)) g 0 l.toArray.size w := fun m os dk _ x y => by
        have e : (#[encI x, encI y] ++ #[Value.pointer (some ⟨BF, 0, none⟩)] : Array Value) = #[.int .i64 (x.val : Int), .int .i64 (y.val : Int), .pointer (some ⟨BF, 0, none⟩)] := rfl
        rw [e]
        exact (clo_any F BF gf (n + 1) cf x.val y.val _ (sw_cell h1 (by omega)) (sw_cell (hF.cell x.isLt) (by omega)) (sw_cell (hF.cell y.isLt) (by omega)) x.isLt y.isLt).mono fun _ _ ⟨he, hw⟩ => ⟨he, hw⟩
      have hcon := Any.slices_SortFunc_total laySortI encI (encI_one _) (cmpF F (n + 1)) (swo_cmpF F _) 26 #[.pointer (some ⟨BF, 0, none⟩)] g 0 c l.toArray w eg hlays (holds_own1 hl hb q4) (Array.getElem?_eq_some_iff.1 hb).1 (by omega) (total_cmpF F _)
      rw [hsz] at hcon
      refine Calls.mono hcon fun e w' he => ?_
      obtain ⟨rfl, m, os, rfl⟩ := he
      exact ⟨rfl, own_sorted1 (by rw [List.toList_toArray]; exact (srtF_len F _ l).trans hl) hbase hb q1 q2 q3⟩
end Go.Proofs.Ytigoehoaplndiaa
