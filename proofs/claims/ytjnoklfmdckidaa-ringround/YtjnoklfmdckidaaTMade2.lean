/- The document's MadeTile: a tile of numbers. -/
import Derived.Test.YtjnoklfmdckidaaTMade
namespace Go.Proofs.Ytjnoklfmdckidaa
open Go.RowKit

theorem step_append_own {P : Program} {ops : Array Oper} {o : Oper} {a : Act} {w : World} {K : Act → World → Prop} {Q : Exit → Act → World → Prop} {E : Prop}
    (hg : o.guard = none) (s x : Operand) (t : TypeId) (ho : o.op = Op.call { callee := Callee.builtin Builtin.append, args := #[s, x], argTypes := #[t, t] })
    (base : Nat) (e : TypeId) (i : TypeInfo) (z : Value) (size bytes : Nat) (ht : P.underlying t = some (.slice e)) (hi : P.info? e = some i) (hz : i.zero = some z)
    (hsize : i.size = size) (hby : i.bytes = bytes) (hzs : z.cells.size = size) (hsz : 0 < size)
    (v : Value) (n : Nat) (xs : List Value) (hs : a.eval s = v) (hown : w.ownsRow base e size v n xs)
    (ad : Addr) (m c : Nat) (news : List Value) (hx : a.eval x = .slice (some ad) m c) (hl : news.length = m * size) (hnews : ∀ j u, news[j]? = some u → w.cell? (ad.add j) = some u) (h1 : ∀ u ∈ news, u.oneCell' = true)
    (h63 : n + m ≤ maxLen) (hbytes : (n + m) * bytes ≤ 140737488355328) (hbase : base ≤ w.heap.size)
    (hK : ∀ v' w', w'.ownsRow base e size v' (n + m) (xs ++ news) → w.grownBy w' v.ownBlock → K (a.put o.dst v') w') :
    if Region.wanted o (yielded ops a.tmps) = true then Oper.wp P o a w K Q else E := by
  have hw : Region.wanted o (yielded ops a.tmps) = true := by simp [Region.wanted, hg]
  rw [if_pos hw]
  exact wp_append_own w s x t ho base e i z size bytes ht hi hz hsize hby hzs hsz v n xs hs hown ad m c news hx hl hnews h1 h63 hbytes hbase fun v' w' r1 r2 _ => hK v' w' r1 r2

set_option maxHeartbeats 400000 in
theorem within_st (n lo hi : Int) (w : World) (h : lo ≤ hi) (hl : -4611686018427387904 ≤ lo * 4) (hh : hi * 4 ≤ 4611686018427387904) :
    Calls Try.prog 8 #[.int .i64 n, .int .i64 lo, .int .i64 hi] w fun e w' => e = .returned (.int .i64 (withinF n lo hi)) ∧ w' = w := by
  have b := tmod_bd n (hi - lo + 1) (by omega)
  have hz : ((hi - lo + 1) == 0) = false := by simp; omega
  by_cases g : n.tmod (hi - lo + 1) < 0
  · have e := tmod_neg n (hi - lo + 1) (by omega) g
    have H : Hid (withinF n lo hi = lo + (n.tmod (hi - lo + 1) + hi - lo + 1)) := hide (by unfold withinF; omega)
    clear e
    go_enter Try.func8, Try.ntmps8
    go_wp2
    go_ret
    exact ⟨ret_int (by rw [H.out]), rfl⟩
  · have e := tmod_pos n (hi - lo + 1) (by omega) g
    have H : Hid (withinF n lo hi = lo + (n.tmod (hi - lo + 1))) := hide (by unfold withinF; omega)
    clear e
    go_enter Try.func8, Try.ntmps8
    go_wp2
    go_ret
    exact ⟨ret_int (by rw [H.out]), rfl⟩

/-- the cost that a tile of numbers has at a local -/
def madeF (n : Nat) (f : Nat → Int) (i : Nat) : Int := costF (if n = 0 then 1 else f ((i + i / n * 5) % n))
theorem madeF_bd {n : Nat} {f : Nat → Int} (hf : ∀ i, i < n → 0 ≤ f i ∧ f i ≤ 255) (i : Nat) : 1 ≤ madeF n f i ∧ madeF n f i ≤ 255 := by
  unfold madeF
  apply costF_bd
  split
  · omega
  · exact hf _ (Nat.mod_lt _ (by omega))
/-- three cells -/
def tri (x y z : Value) : Nat → Value := fun j => if j = 0 then x else if j = 1 then y else z
theorem tri_0 (x y z : Value) : tri x y z 0 = x := rfl
theorem tri_1 (x y z : Value) : tri x y z 1 = y := rfl
theorem tri_2 (x y z : Value) : tri x y z 2 = z := rfl
theorem tri_set (x y z v : Value) : ∀ i, i < 3 → (if i = 2 then v else tri x y z i) = tri x y v i := by
  intro i hi
  rcases (by omega : i = 0 ∨ i = 1 ∨ i = 2) with rfl | rfl | rfl <;> simp [tri]
theorem tri_alloc (w : World) (x y z : Value) (t : TypeId) : (w.alloc (.cells #[x, y, z] t)).rowIs w.heap.size t 3 (tri x y z) :=
  World.rowIs_alloc w #[x, y, z] t (tri x y z) (fun i hi => by
    have hi : i < 3 := hi
    rcases (by omega : i = 0 ∨ i = 1 ∨ i = 2) with rfl | rfl | rfl <;> rfl)
theorem row_gr {w w' : World} {b t n : Nat} {g : Nat → Value} (h : w.rowIs b t n g) (k : Gr w w') : w'.rowIs b t n g := h.of_block (Below.block k b h.lt)
theorem row_grown {w w' : World} {b t n : Nat} {g : Nat → Value} {row : Option Nat} (h : w.rowIs b t n g) (k : w.grownBy w' row) (hr : ∀ q, row = some q → q ≠ b) : w'.rowIs b t n g :=
  h.of_block (k.block b h.lt (fun e => hr b e.symm rfl))

theorem made_step {w wr u w1 : World} {B k c0 : Nat} {a0 : Option Addr} {F : Nat → Int} {t : TypeId} {g1 g0 : Nat → Value} {v' : Value} {p : Int}
    (hown : wr.ownsRow (B + 2) 5 1 (.slice a0 k c0) k (cel .u8 k F)) (hr1 : wr.rowIs (B + 1) t 3 g1) (hr0 : wr.rowIs B t 3 g0) (hgr : Gr w wr) (hB : w.heap.size = B) (hu : Gr wr u)
    (hown' : w1.ownsRow (B + 2) 5 1 v' (k + 1) (cel .u8 k F ++ [.int .u8 p])) (hgrow : u.grownBy w1 (Value.slice a0 k c0).ownBlock) (hp : F k = p) :
    ∃ a1 c1, v' = .slice a1 (k + 1) c1 ∧ w1.ownsRow (B + 2) 5 1 (.slice a1 (k + 1) c1) (k + 1) (cel .u8 (k + 1) F) ∧ w1.rowIs (B + 1) t 3 g1 ∧ w1.rowIs B t 3 g0 ∧ Gr w w1 := by
  rw [← hp, ← cel_succ] at hown'
  obtain ⟨a1, c1, rfl, _⟩ := own_form hown'
  have hl := hown.lt
  exact ⟨a1, c1, rfl, hown', row_grown (row_gr hr1 hu) hgrow (fun q e => by have := (hl q e).1; omega), row_grown (row_gr hr0 hu) hgrow (fun q e => by have := (hl q e).1; omega),
    Gr.grown (hgr.trans hu) hgrow (fun q e => by have := (hl q e).1; omega)⟩

theorem made_next {w w1 : World} {B k c1 : Nat} {a1 : Option Addr} {F : Nat → Int} {t : TypeId} {x y z : Value} {g0 : Nat → Value}
    (hown : w1.ownsRow (B + 2) 5 1 (.slice a1 (k + 1) c1) (k + 1) (cel .u8 (k + 1) F)) (hr1 : w1.rowIs (B + 1) t 3 (tri x y z)) (hr0 : w1.rowIs B t 3 g0) (hgr : Gr w w1) (hB : w.heap.size = B) :
    (w1.setCell ⟨B + 1, 2, none⟩ (.slice a1 (k + 1) c1)).ownsRow (B + 2) 5 1 (.slice a1 (k + 1) c1) (k + 1) (cel .u8 (k + 1) F) ∧ (w1.setCell ⟨B + 1, 2, none⟩ (.slice a1 (k + 1) c1)).rowIs (B + 1) t 3 (tri x y (.slice a1 (k + 1) c1)) ∧
      (w1.setCell ⟨B + 1, 2, none⟩ (.slice a1 (k + 1) c1)).rowIs B t 3 g0 ∧ Gr w (w1.setCell ⟨B + 1, 2, none⟩ (.slice a1 (k + 1) c1)) :=
  ⟨ownsRow_setCell_below hown (a := ⟨B + 1, 2, none⟩) (by show B + 1 < B + 2; omega) _, World.rowIs.congr (hr1.set 2 _) (tri_set x y z _), hr0.setOther (by show B ≠ B + 1; omega) _, hgr.set (by show _ ≤ B + 1; omega) _⟩
theorem made_end {wr : World} {base B N c0 : Nat} {a0 : Option Addr} {F : Nat → Int} (hown : wr.ownsRow (B + 2) 5 1 (.slice a0 N c0) N (cel .u8 N F)) (hN : 0 < N) (hF : ∀ i, 1 ≤ F i ∧ F i ≤ 255) (hb : base ≤ B) (x y z : Value) :
    ∃ g, a0 = some ⟨g, 0, none⟩ ∧ OwnB (((wr.setCell ⟨B, 0, none⟩ x).setCell ⟨B, 1, none⟩ y).setCell ⟨B, 2, none⟩ z) base g N c0 F := by
  obtain ⟨a, c, e, _, _, h⟩ := own_form hown
  simp only [Value.slice.injEq] at e
  obtain ⟨rfl, _, rfl⟩ := e
  rcases h with h | ⟨g, rfl, _⟩
  · omega
  refine ⟨g, rfl, own_mono (base := B + 2) ?_ (by omega), fun i _ => by have := hF i; omega⟩
  exact ownsRow_setCell_below (ownsRow_setCell_below (ownsRow_setCell_below hown (a := ⟨B, 0, none⟩) (by show B < B + 2; omega) x) (a := ⟨B, 1, none⟩) (by show B < B + 2; omega) y) (a := ⟨B, 2, none⟩) (by show B < B + 2; omega) z

end Go.Proofs.Ytjnoklfmdckidaa
