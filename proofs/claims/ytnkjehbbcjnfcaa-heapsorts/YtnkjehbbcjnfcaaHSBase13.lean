/- What HeapSorts lays beside its heap: what went in, which have been met, the one that came out last. No condition. -/
import Derived.Test.YtnkjehbbcjnfcaaHSMath13
import Derived.Test.YtnkjehbbcjnfcaaHRow13
import Derived.ChangeKeysEq
namespace Go.Proofs.Ytnkjehbbcjnfcaa
open Go.RowKit
set_option maxRecDepth 20000

theorem info_duo : (Try.prog.info? 30).map (fun i => (i.zero, i.size, i.bytes)) = some (some (.agg #[.int .i64 0, .int .i64 0]), 2, 16) := by kernel_rfl
theorem withinF_bd5 (x : Int) : 0 ≤ withinF x 0 5 := (within_bd x 0 5 (by omega)).1
/-- what goes in -/
def goesE (b : Bool) (f g : Nat → Int) (i : Nat) : Int × Int := if b then (withinF (f i) 0 5, withinF (g i) 0 5) else (f i, g i)
theorem goes_low (b : Bool) {f g : Nat → Int} (hf : ∀ i, -9223372036854775808 ≤ f i) (hg : ∀ i, -9223372036854775808 ≤ g i) (i : Nat) : -9223372036854775808 ≤ (goesE b f g i).1 ∧ -9223372036854775808 ≤ (goesE b f g i).2 := by
  unfold goesE
  cases b
  · exact ⟨hf i, hg i⟩
  · have h1 := withinF_bd5 (f i)
    have h2 := withinF_bd5 (g i)
    simp only [if_true]
    omega
/-- the heap, and beside it the list of what went in -/
def LstH (w u : World) (p : Nat) (v : Value) (L : List (Int × Int)) : Prop := Hs w u p (srtP L) (fun t => v.ownBlock = some t) ∧ u.ownsRow w.heap.size 30 2 v L.length (flatP L)

theorem LstH.gr {w u u' : World} {p : Nat} {v : Value} {L : List (Int × Int)} (h : LstH w u p v L) (k : Gr u u') : LstH w u' p v L := ⟨h.1.gr k, own_grP h.2 k⟩
theorem info_bool : (Try.prog.info? 4).map (fun i => (i.zero, i.size, i.bytes)) = some (some (.bool false), 1, 1) := by kernel_rfl
theorem make_met (N : Nat) (hN : N ≤ 4096) (w : World) : (Instr.makeSlice 37 (.int .i64 (N : Int)) (.int .i64 (N : Int))).run Try.prog w = .ok (.slice (some ⟨w.heap.size, 0, none⟩) N N) (w.alloc (.cells (madeCells #[.bool false] N) 4)) := by
  obtain ⟨i0, hi, hz0, hz1, hz2⟩ := info_parts info_bool
  have hr := run_make (P := Try.prog) w 37 4 i0 (.bool false) Try.underlying37 hi hz0 .i64 .i64 N N (by omega) (by omega) (by rw [hz2]; omega) (by omega)
  simp only [Int.toNat_natCast, hz1, Nat.mul_one] at hr
  exact hr
/-- the one that came out last -/
def lastP (S : List (Int × Int)) (k : Nat) : Int × Int := if k = 0 then (-9223372036854775808, -9223372036854775808) else elP S (k - 1)
theorem lastP_le {S : List (Int × Int)} (hs : SrtP S) (hb : ∀ y ∈ S, -9223372036854775808 ≤ y.1 ∧ -9223372036854775808 ≤ y.2) {k : Nat} (hk : k < S.length) : LeP (lastP S k) (elP S k) := by
  unfold lastP
  by_cases h0 : k = 0
  · rw [if_pos h0]
    have := hb _ (elP_mem hk)
    unfold LeP
    simp only
    omega
  · rw [if_neg h0, ← elP_getElem hk, ← elP_getElem (show k - 1 < S.length by omega)]
    exact List.pairwise_iff_getElem.1 hs (k - 1) k (by omega) hk (by omega)
/-- a box of two -/
def boxF (x y : Value) : Nat → Value := fun j => if j = 0 then x else y
theorem box_alloc (w : World) (x y : Value) (t : TypeId) : (w.alloc (.cells #[x, y] t)).rowIs w.heap.size t 2 (boxF x y) :=
  World.rowIs_alloc w #[x, y] t _ (fun i hi => by
    have hi : i < 2 := hi
    rcases (by omega : i = 0 ∨ i = 1) with rfl | rfl <;> rfl)
theorem box_at {w : World} {b : Nat} {t : TypeId} {x y : Value} (h : w.rowIs b t 2 (boxF x y)) : w.cell? ⟨b, 0, none⟩ = some x ∧ w.cell? ⟨b, 1, none⟩ = some y ∧ (∀ i, w.frozen? ⟨b, i, none⟩ = false) :=
  ⟨h.cell (i := 0) (by omega), h.cell (i := 1) (by omega), fun i => h.frozen i⟩
theorem box_set {w : World} {b : Nat} {t : TypeId} {x y : Value} (x' y' : Value) (h : w.rowIs b t 2 (boxF x y)) : ((w.setCell ⟨b, 0, none⟩ x').setCell ⟨b, 1, none⟩ y').rowIs b t 2 (boxF x' y') :=
  World.rowIs.congr ((h.set 0 x').set 1 y') (fun i hi => by rcases (by omega : i = 0 ∨ i = 1) with rfl | rfl <;> simp [boxF])
theorem gr_set2 {a w : World} {b : Nat} (x y : Value) (h : Gr a w) (hb : a.heap.size ≤ b) : Gr a ((w.setCell ⟨b, 0, none⟩ x).setCell ⟨b, 1, none⟩ y) :=
  Gr.set (p := ⟨b, 1, none⟩) (Gr.set (p := ⟨b, 0, none⟩) h hb x) hb y
theorem own_kp {S : Nat → Prop} {w w' : World} {base : Nat} {e : TypeId} {v : Value} {n : Nat} {xs : List Value} (h : w.ownsRow base e 2 v n xs) (k : Kp S w w') (hs : ∀ b, v.ownBlock = some b → ¬ S b) : w'.ownsRow base e 2 v n xs := by
  refine ⟨h.1, ?_⟩
  rcases h.2 with h0 | ⟨b, cap, cur, rfl, hb, hg, r⟩
  · exact .inl h0
  · exact .inr ⟨b, cap, cur, rfl, hb, (k.block b (Array.getElem?_eq_some_iff.1 hg).1 (hs b rfl)).trans hg, r⟩

theorem eql_duo (a b c d : Int) (w : World) : Sem.run Try.prog (binOp .eql 30 (.agg #[.int .i64 a, .int .i64 b]) (.agg #[.int .i64 c, .int .i64 d])) w = .ok (.bool (decide ((a, b) = (c, d)))) w := by
  have u3 := Try.underlying3
  have a3 := Try.isAgg3
  have z3 := Try.sizeOf3
  obtain ⟨i0, hi, hz0, hz1, hz2⟩ := info_parts info_int
  have hc : Try.prog.cellsOf 3 = 1 := by kernel_rfl
  rw [run_eql_struct, show (10000 : Nat) = 9999 + 1 from rfl, run_equalIn_array w 9999 _ _ Try.underlying30 hi, hc]
  simp only [List.range_succ, List.range_zero, List.nil_append, List.cons_append, Op.eqItems]
  go_simp
  by_cases h1 : a = c <;> by_cases h2 : b = d <;> simp [h1, h2]
theorem eql_is {a b c d : Int} {v : Bool} (h : decide ((a, b) = (c, d)) = v) (w : World) : Sem.run Try.prog (binOp .eql 30 (.agg #[.int .i64 a, .int .i64 b]) (.agg #[.int .i64 c, .int .i64 d])) w = .ok (.bool v) w := by rw [← h]; exact eql_duo a b c d w
/-- the heap, and beside it what went in, which have been met, the one that came out last -/
structure Oth (w u : World) (p : Nat) (v : Value) (N : Nat) (L R : List (Int × Int)) (met : Nat → Bool) (gm BX : Nat) (la : Int × Int) : Prop where
  hs : Hs w u p R (fun t => v.ownBlock = some t ∨ t = gm ∨ t = BX)
  row : u.ownsRow w.heap.size 30 2 v N (flatP L)
  met : u.rowIs gm 4 N (fun i => .bool (met i))
  box : u.rowIs BX 30 2 (boxF (.int .i64 la.1) (.int .i64 la.2))
  ne : ∀ t, v.ownBlock = some t → t ≠ gm ∧ t ≠ BX
  lt : gm < BX
  lo : w.heap.size ≤ gm
theorem Oth.gr {w u u' : World} {p : Nat} {v : Value} {N : Nat} {L R : List (Int × Int)} {met : Nat → Bool} {gm BX : Nat} {la : Int × Int} (h : Oth w u p v N L R met gm BX la) (k : Gr u u') : Oth w u' p v N L R met gm BX la :=
  ⟨h.hs.gr k, own_grP h.row k, row_gr h.met k, row_gr h.box k, h.ne, h.lt, h.lo⟩
theorem Oth.kp {w u u' : World} {p : Nat} {v : Value} {N : Nat} {L R R' : List (Int × Int)} {met : Nat → Bool} {gm BX : Nat} {la : Int × Int} (h : Oth w u p v N L R met gm BX la) (hs : Hs w u' p R' (fun t => v.ownBlock = some t ∨ t = gm ∨ t = BX)) (k : Kp (fun t => ¬ (v.ownBlock = some t ∨ t = gm ∨ t = BX)) u u') : Oth w u' p v N L R' met gm BX la :=
  ⟨hs, own_kp h.row k (fun _ ht q => q (.inl ht)), k.row h.met (fun q => q (.inr (.inl rfl))), k.row h.box (fun q => q (.inr (.inr rfl))), h.ne, h.lt, h.lo⟩
theorem Oth.next {w u : World} {p : Nat} {v : Value} {N : Nat} {L R : List (Int × Int)} {met : Nat → Bool} {gm BX : Nat} {la : Int × Int} (h : Oth w u p v N L R met gm BX la) (a : Nat) (y : Int × Int) :
    Oth w (((u.setCell ⟨gm, a, none⟩ (.bool true)).setCell ⟨BX, 0, none⟩ (.int .i64 y.1)).setCell ⟨BX, 1, none⟩ (.int .i64 y.2)) p v N L R (fun i => if i = a then true else met i) gm BX y := by
  have hlt := h.lt
  have k : Kp (fun t => t = gm ∨ t = BX) u (((u.setCell ⟨gm, a, none⟩ (.bool true)).setCell ⟨BX, 0, none⟩ (.int .i64 y.1)).setCell ⟨BX, 1, none⟩ (.int .i64 y.2)) :=
    Kp.set (Kp.set (Kp.set (Kp.refl _ u) (p := ⟨gm, a, none⟩) (.inl (.inl rfl)) _) (p := ⟨BX, 0, none⟩) (.inl (.inr rfl)) _) (p := ⟨BX, 1, none⟩) (.inl (.inr rfl)) _
  refine ⟨h.hs.kp k (fun b hb => ?_), own_kp h.row k (fun t ht q => ?_), ?_, box_set _ _ (h.box.setOther (a := ⟨gm, a, none⟩) (by show BX ≠ gm; omega) _), h.ne, h.lt, h.lo⟩
  · rcases hb with rfl | rfl
    · exact ⟨.inr (.inl rfl), h.lo⟩
    · exact ⟨.inr (.inr rfl), by have := h.lo; omega⟩
  · have := h.ne t ht
    rcases q with q | q
    · exact this.1 q
    · exact this.2 q
  · refine World.rowIs.congr (((h.met.set a (.bool true)).setOther (a := ⟨BX, 0, none⟩) (by show gm ≠ BX; omega) _).setOther (a := ⟨BX, 1, none⟩) (by show gm ≠ BX; omega) _) (fun i _ => ?_)
    by_cases e : i = a <;> simp [e]

theorem oth_start {w wk : World} {p N : Nat} {v : Value} {L S : List (Int × Int)} (h : Hs w wk p S (fun t => v.ownBlock = some t)) (hr : wk.ownsRow w.heap.size 30 2 v N (flatP L)) :
    Oth w ((wk.alloc (.cells (madeCells #[.bool false] N) 4)).alloc (.cells #[.int .i64 (-9223372036854775808), .int .i64 (-9223372036854775808)] 30)) p v N L S (fun _ => false) wk.heap.size (wk.heap.size + 1) (-9223372036854775808, -9223372036854775808) := by
  have g1 := (Gr.refl wk).alloc (.cells (madeCells #[.bool false] N) 4)
  have g2 := g1.alloc (.cells #[.int .i64 (-9223372036854775808), .int .i64 (-9223372036854775808)] 30)
  refine ⟨h.more g2 (fun t ht => ?_), own_grP hr g2, row_gr (World.rowIs_made wk (.bool false) N 4) ((Gr.refl _).alloc _), ?_, fun t ht => ?_, by omega, Below.size h.g⟩
  · rw [World.size_alloc, World.size_alloc]
    rcases ht with ht | rfl | rfl
    · exact ⟨.inl ht, by have := (hr.lt t ht).2; omega⟩
    · exact ⟨.inr (Nat.le_refl _), by omega⟩
    · exact ⟨.inr (by omega), by omega⟩
  · have := box_alloc (wk.alloc (.cells (madeCells #[.bool false] N) 4)) (.int .i64 (-9223372036854775808)) (.int .i64 (-9223372036854775808)) 30
    rw [World.size_alloc] at this
    exact this
  · have := (hr.lt t ht).2
    omega
end Go.Proofs.Ytnkjehbbcjnfcaa
