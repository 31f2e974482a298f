/- The library's binary search and copy at numbers: the program's functions are the library's. No condition. -/
import Derived.Test.YtgbadbkipaccgaaGreatLNat
import Derived.Shelf.Slices.SearchI
import Derived.Shelf.Slices.Clone
namespace Go.Proofs.YtgbadbkipaccgaaGreat
open Go.Shelf Go.Proofs

def layFind_ren : Go.Shelf.Ren := ⟨fun | 25 => 61 | 31 => 77 | 32 => 78 | 37 => 88 | n => n, fun | 0 => 0 | 3 => 3 | 4 => 4 | 22 => 31 | 40 => 110 | n => n, fun | n => n⟩
theorem layFind : Go.Proofs.Lays2.n25 Tryz.prog layFind_ren := {
  mixed := by kernel_rfl,
  f25 := Tryz.func61.trans (congrArg some (by kernel_rfl)),
  f31 := Tryz.func77.trans (congrArg some (by kernel_rfl)),
  f32 := Tryz.func78.trans (congrArg some (by kernel_rfl)),
  f37 := Tryz.func88.trans (congrArg some (by kernel_rfl)),
  t0 := Tryz.underlying0,
  a0 := Tryz.isAgg0,
  z0 := Tryz.sizeOf0,
  v0 := Tryz.zeroValue0,
  t3 := Tryz.underlying3,
  a3 := Tryz.isAgg3,
  z3 := Tryz.sizeOf3,
  v3 := Tryz.zeroValue3,
  t4 := Tryz.underlying4,
  a4 := Tryz.isAgg4,
  z4 := Tryz.sizeOf4,
  v4 := Tryz.zeroValue4,
  t22 := Tryz.underlying31,
  a22 := Tryz.isAgg31,
  z22 := Tryz.sizeOf31,
  v22 := Tryz.zeroValue31,
  t40 := Tryz.underlying110,
  a40 := Tryz.isAgg110,
  z40 := Tryz.sizeOf110,
  v40 := Tryz.zeroValue110 }
def layCopy_ren : Go.Shelf.Ren := ⟨fun | 15 => 33 | n => n, fun | 3 => 3 | 4 => 4 | 22 => 31 | n => n, fun | n => n⟩
theorem layCopy : Go.Proofs.Lays2.n15 Tryz.prog layCopy_ren := {
  mixed := by kernel_rfl,
  f15 := Tryz.func33.trans (congrArg some (by kernel_rfl)),
  t3 := Tryz.underlying3,
  a3 := Tryz.isAgg3,
  z3 := Tryz.sizeOf3,
  v3 := Tryz.zeroValue3,
  t4 := Tryz.underlying4,
  a4 := Tryz.isAgg4,
  z4 := Tryz.sizeOf4,
  v4 := Tryz.zeroValue4,
  t22 := Tryz.underlying31,
  a22 := Tryz.isAgg31,
  z22 := Tryz.sizeOf31,
  v22 := Tryz.zeroValue31,
  i3 := info_int }

theorem nums_get {L : List Nat} {j : Nat} (h : j < L.length) : (L.map fun (y : Nat) => (y : Int)).getD j 0 = ((L.getD j 0 : Nat) : Int) := by
  simp [List.getD_eq_getElem?_getD, h]
theorem nums_flat (L : List Nat) : (L.map fun (y : Nat) => (y : Int)).map (Value.int .i64) = flatN L := by
  simp [flatN, encN]
/-- slices.Clone of numbers -/
theorem icopy_any {w : World} {base : Nat} {a : Option Addr} {n c : Nat} {L : List Nat} (h : w.ownsRow base 3 1 (.slice a n c) n (flatN L)) (hn : n ≤ 1000000) :
    Calls Tryz.prog 33 #[.slice a n c] w fun e w' => (∃ v, e = .returned v ∧ w'.ownsRow w.heap.size 3 1 v L.length (flatN L)) ∧ Gr w w' := by
  have hl : L.length = n := by have := h.1; rw [flatN_len] at this; omega
  rcases h.2 with ⟨e, h0⟩ | ⟨g, cap, cur, e, hb, hg, h1, h2, h3, h4⟩
  · cases e
    obtain rfl := List.eq_nil_of_length_eq_zero hl
    refine (Any.slices_Clone_int_nil layCopy 0 0 w).mono ?_
    rintro e w' ⟨rfl, rfl⟩
    exact ⟨⟨_, rfl, ints_nil _ _⟩, Gr.refl _⟩
  · cases e
    refine (Any.slices_Clone_int layCopy g 0 n c (L.map fun (y : Nat) => (y : Int)) w (by simp [hl]) (by omega) (fun j hj => ?_)).mono ?_
    · rw [List.length_map] at hj
      rw [nums_get hj, Nat.zero_add, h.cellAt j (by omega)]
      exact flatN_get (by simp [hj])
    · rintro e w' ⟨v', rfl, ho, -, hgr⟩
      rw [List.take_of_length_le (by simp [hl]), nums_flat] at ho
      exact ⟨⟨v', rfl, by rw [hl]; exact ho⟩, hgr⟩

theorem count_at : ∀ {L : List Nat} {k : Nat}, L.Pairwise (· < ·) → k < L.length → (L.map fun (y : Nat) => (y : Int)).countP (fun y => decide (y < ((L.getD k 0 : Nat) : Int))) = k
  | [], k, _, h => absurd h (Nat.not_lt_zero _)
  | a :: L, 0, hp, _ => by
    have h := (List.pairwise_cons.1 hp).1
    rw [List.countP_eq_zero]
    intro y hy
    obtain ⟨z, hz, rfl⟩ := List.mem_map.1 hy
    rcases List.mem_cons.1 hz with rfl | hz
    · simp
    · have := h z hz
      simp only [List.getD_cons_zero, decide_eq_true_eq]
      omega
  | a :: L, k + 1, hp, hk => by
    have h := List.pairwise_cons.1 hp
    have hk' : k < L.length := by simpa using hk
    have ih := count_at h.2 hk'
    have hm : a < L.getD k 0 := h.1 _ (by simp [List.getD_eq_getElem?_getD, hk'])
    rw [List.map_cons, List.countP_cons, List.getD_cons_succ, ih, if_pos (by rw [decide_eq_true_eq]; omega)]
theorem has_at {L : List Nat} {k : Nat} (h : k < L.length) : (L.map fun (y : Nat) => (y : Int)).contains ((L.getD k 0 : Nat) : Int) = true := by
  rw [List.contains_iff_mem, List.mem_map]
  exact ⟨L.getD k 0, by simp [List.getD_eq_getElem?_getD, h], rfl⟩
theorem has_no {L : List Nat} {x : Int} (h : ∀ y : Nat, y ∈ L → (y : Int) ≠ x) : (L.map fun (y : Nat) => (y : Int)).contains x = false := by
  rw [Bool.eq_false_iff]
  intro k
  rw [List.contains_iff_mem, List.mem_map] at k
  obtain ⟨y, hy, e⟩ := k
  exact h y hy e
set_option maxHeartbeats 1000000 in
theorem ifind_nil (x : Int) (w : World) : Calls Tryz.prog 61 #[.slice none 0 0, .int .i64 x] w fun e w' => e = .returned (.tuple #[.int .i64 0, .bool false]) ∧ Dr w w' := by
  go_enter Tryz.func61, Tryz.ntmps61
  go_wp2
  go_loopw [7, 8] (fun i j u => i = .int .i64 0 ∧ j = .int .i64 0 ∧ Dr w u) (fun _ _ _ => 0)
  case atStart => exact ⟨rfl, rfl, by repeat (first | exact Dr.refl _ | assumption | refine Dr.add ?_ | refine Dr.trans ?_ (by assumption))⟩
  case round =>
    obtain ⟨rfl, rfl, hd⟩ := hrel
    go_wp2
    go_ret2
    exact ⟨rfl, hd⟩
/-- slices.BinarySearch of rising numbers -/
theorem ifind_any {w : World} {base : Nat} {a : Option Addr} {n c : Nat} {L : List Nat} (h : w.ownsRow base 3 1 (.slice a n c) n (flatN L)) (hp : L.Pairwise (· < ·)) (hn : n ≤ 1000000) (x : Int) :
    Calls Tryz.prog 61 #[.slice a n c, .int .i64 x] w fun e w' => e = .returned (.tuple #[.int .i64 ((L.map fun (y : Nat) => (y : Int)).countP (fun y => decide (y < x)) : Nat), .bool ((L.map fun (y : Nat) => (y : Int)).contains x)]) ∧ Dr w w' := by
  have hl : L.length = n := by have := h.1; rw [flatN_len] at this; omega
  rcases h.2 with ⟨e, h0⟩ | ⟨g, cap, cur, e, hb, hg, h1, h2, h3, h4⟩
  · cases e
    obtain rfl := List.eq_nil_of_length_eq_zero hl
    exact ifind_nil x w
  · cases e
    have hs : ((L.map fun (y : Nat) => (y : Int)).take n).Pairwise (· ≤ ·) := by
      rw [List.take_of_length_le (by simp [hl]), List.pairwise_map]
      exact hp.imp fun {a b} q => by omega
    have := Any.slices_BinarySearch_int layFind g 0 n c (L.map fun (y : Nat) => (y : Int)) x w (by simp [hl]) (by omega) (fun j hj => by
      rw [List.length_map] at hj
      rw [nums_get hj, Nat.zero_add, h.cellAt j (by omega)]
      exact flatN_get (by simp [hj])) hs
    refine this.mono ?_
    rintro e w' ⟨rfl, q, rfl⟩
    rw [List.take_of_length_le (by simp [hl])]
    exact ⟨rfl, q, rfl⟩
end Go.Proofs.YtgbadbkipaccgaaGreat
