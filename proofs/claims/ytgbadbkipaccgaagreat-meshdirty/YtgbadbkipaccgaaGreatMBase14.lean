/- A mesh in memory. No condition. -/
import Derived.Test.YtgbadbkipaccgaaGreatMMath14
import Derived.Test.YtgbadbkipaccgaaGreatBG
import Derived.Test.YtgbadbkipaccgaaGreatBCells11
import Derived.Test.YtgbadbkipaccgaaGreatMLay14
namespace Go.Proofs.YtgbadbkipaccgaaGreat
open Go.RowKit
set_option maxRecDepth 20000

theorem own_kpB {S : Nat → Prop} {w w' : World} {base size : Nat} {e : TypeId} {v : Value} {n : Nat} {xs : List Value} (h : w.ownsRow base e size v n xs) (k : Kp S w w') (hS : ∀ b, S b → b < base) : w'.ownsRow base e size v n xs := by
  refine ⟨h.1, ?_⟩
  rcases h.2 with q | ⟨b, cap, cur, e1, hb, hg, r⟩
  · exact .inl q
  · exact .inr ⟨b, cap, cur, e1, hb, (k.block b (Array.getElem?_eq_some_iff.1 hg).1 (fun q => by have := hS b q; omega)).trans hg, r⟩

/-- a part in memory: its version; its nodes; its rows -/
structure Pc where
  ver : Int
  na : Option Addr
  nn : Nat
  nc : Nat
  ra : Option Addr
  rn : Nat
  rc : Nat
def pcF (P : Nat → Pc) (i : Nat) : Value :=
  if i % 3 = 0 then .int .i64 (P (i / 3)).ver else if i % 3 = 1 then .slice (P (i / 3)).na (P (i / 3)).nn (P (i / 3)).nc else .slice (P (i / 3)).ra (P (i / 3)).rn (P (i / 3)).rc
theorem pcF_0 (P : Nat → Pc) (s : Nat) : pcF P (s * 3) = .int .i64 (P s).ver := by
  unfold pcF
  rw [if_pos (by omega), show s * 3 / 3 = s by omega]
theorem pcF_1 (P : Nat → Pc) (s : Nat) : pcF P (s * 3 + 1) = .slice (P s).na (P s).nn (P s).nc := by
  unfold pcF
  rw [if_neg (by omega), if_pos (by omega), show (s * 3 + 1) / 3 = s by omega]
theorem pcF_2 (P : Nat → Pc) (s : Nat) : pcF P (s * 3 + 2) = .slice (P s).ra (P s).rn (P s).rc := by
  unfold pcF
  rw [if_neg (by omega), if_neg (by omega), show (s * 3 + 2) / 3 = s by omega]
def pcU (P : Nat → Pc) (s : Nat) (x : Pc) : Nat → Pc := fun k => if k = s then x else P k
theorem pcF_set {P : Nat → Pc} {s : Nat} {x : Pc} (i : Nat) : (if i = s * 3 + 2 then .slice x.ra x.rn x.rc else if i = s * 3 + 1 then .slice x.na x.nn x.nc else if i = s * 3 then .int .i64 x.ver else pcF P i) = pcF (pcU P s x) i := by
  by_cases e : i / 3 = s
  · unfold pcF pcU
    rw [if_pos e]
    rcases (by omega : i % 3 = 0 ∨ i % 3 = 1 ∨ i % 3 = 2) with k | k | k
    · rw [if_neg (by omega), if_neg (by omega), if_pos (by omega), if_pos k]
    · rw [if_neg (by omega), if_pos (by omega), if_neg (by omega), if_pos k]
    · rw [if_pos (by omega), if_neg (by omega), if_neg (by omega)]
  · unfold pcF pcU
    rw [if_neg e, if_neg (by omega), if_neg (by omega), if_neg (by omega)]

def ndI (L : List Nat) (i : Nat) : Int := ((L.getD i 0 : Nat) : Int)
/-- a part: what was rebuilt last of a sector -/
structure Prt (w : World) (B : Nat) (W H : Int) (N : Nat) (S : Nat → Int) (v : Int) (s : Nat) (x : Pc) : Prop where
  ver : x.ver = v
  nodes : w.ownsRow B 3 1 (.slice x.na x.nn x.nc) x.nn (flatN (nodesL W H N S s))
  rows : ∃ R, (x.nn = 0 ∨ ∃ g, x.ra = some ⟨g, 0, none⟩ ∧ B ≤ g ∧ Row w g 101 .u16 (x.nn * x.nn) R) ∧ ∀ i j, i < x.nn → j < x.nn → R (i * x.nn + j) = min (distF W H N S (ndI (nodesL W H N S s) i) (ndI (nodesL W H N S s) j)) 65535
  rn : x.rn = x.nn * x.nn
theorem Prt.nn {w : World} {B : Nat} {W H : Int} {N : Nat} {S : Nat → Int} {v : Int} {s : Nat} {x : Pc} (h : Prt w B W H N S v s x) : (nodesL W H N S s).length = x.nn := by
  have := h.nodes.1
  rw [flatN_len] at this
  omega
theorem Prt.kp {P : Nat → Prop} {w w' : World} {B : Nat} {W H : Int} {N : Nat} {S : Nat → Int} {v : Int} {s : Nat} {x : Pc} (h : Prt w B W H N S v s x) (k : Kp P w w') (hP : ∀ b, P b → b < B) : Prt w' B W H N S v s x := by
  refine ⟨h.ver, own_kpB h.nodes k hP, ?_, h.rn⟩
  obtain ⟨R, h1, h2⟩ := h.rows
  refine ⟨R, ?_, h2⟩
  rcases h1 with h1 | ⟨g, e, hb, hr⟩
  · exact .inl h1
  · exact .inr ⟨g, e, hb, hr.kp k (fun q => by have := hP g q; omega)⟩
theorem Prt.gr {w w' : World} {B : Nat} {W H : Int} {N : Nat} {S : Nat → Int} {v : Int} {s : Nat} {x : Pc} (h : Prt w B W H N S v s x) (g : Gr w w') : Prt w' B W H N S v s x := h.kp (P := fun _ => False) g.kp (fun _ q => q.elim)
theorem Prt.sec {w : World} {B : Nat} {W H : Int} {N : Nat} {S S' : Nat → Int} {v : Int} {s : Nat} {x : Pc} (hm : mayB W H = true) (hN : (N : Int) = W * H) (hs : s < cntS W H) (e : SecEq W N s S S') (h : Prt w B W H N S v s x) : Prt w B W H N S' v s x := by
  have hs1 := sec_of hs
  have hl := nodes_sec hs1 e
  have hn := h.nn
  refine ⟨h.ver, by rw [← hl]; exact h.nodes, ?_, h.rn⟩
  obtain ⟨R, h1, h2⟩ := h.rows
  refine ⟨R, h1, fun i j hi hj => ?_⟩
  rw [h2 i j hi hj, ← hl]
  rw [dist_sec hm hN (s := s) e (b := ndI (nodesL W H N S s) j)]
  unfold ndI
  refine ((nodes_mem (N := N) (S := S) hs1).1 ?_).2
  rw [List.getD_eq_getElem?_getD, List.getElem?_eq_getElem (by omega)]
  exact List.getElem_mem _

/-- a mesh at p over the grid at gp, its parts at q: it is as the sheet S says, of versions mv -/
structure Ms (w : World) (p q gp B : Nat) (W H : Int) (N : Nat) (S mv : Nat → Int) (cnt : Int) : Prop where
  box : w.rowIs p 74 3 (tri (.pointer (some ⟨gp, 0, none⟩)) (.slice (some ⟨q, 0, none⟩) (cntS W H) (cntS W H)) (.int .u64 cnt))
  parts : ∃ P : Nat → Pc, w.rowIs q 69 (cntS W H * 3) (pcF P) ∧ ∀ s, s < cntS W H → Prt w B W H N S (mv s) s (P s)
  apart : p < B ∧ q < B ∧ p ≠ q ∧ B ≤ w.heap.size
  may : mayB W H = true ∧ (N : Int) = W * H
  byte : Byt N S
  good : ∀ s, s < cntS W H → GoodS W H N S s
section
variable {w w' : World} {p q gp B : Nat} {W H : Int} {N : Nat} {S mv : Nat → Int} {cnt : Int}
theorem Ms.kp {P : Nat → Prop} (h : Ms w p q gp B W H N S mv cnt) (k : Kp P w w') (hP : ∀ b, P b → b < B) (h1 : ¬ P p) (h2 : ¬ P q) : Ms w' p q gp B W H N S mv cnt := by
  obtain ⟨Q, a, b⟩ := h.parts
  exact ⟨k.row h.box h1, ⟨Q, k.row a h2, fun s hs => (b s hs).kp k hP⟩, ⟨h.apart.1, h.apart.2.1, h.apart.2.2.1, Nat.le_trans h.apart.2.2.2 k.size⟩, h.may, h.byte, h.good⟩
theorem Ms.gr (h : Ms w p q gp B W H N S mv cnt) (g : Gr w w') : Ms w' p q gp B W H N S mv cnt := h.kp (P := fun _ => False) g.kp (fun _ q => q.elim) id id
theorem Ms.cells (h : Ms w p q gp B W H N S mv cnt) : w.cell? ⟨p, 0, none⟩ = some (.pointer (some ⟨gp, 0, none⟩)) ∧ w.cell? ⟨p, 1, none⟩ = some (.slice (some ⟨q, 0, none⟩) (cntS W H) (cntS W H)) ∧ w.cell? ⟨p, 2, none⟩ = some (.int .u64 cnt) :=
  ⟨h.box.cell (i := 0) (by omega), h.box.cell (i := 1) (by omega), h.box.cell (i := 2) (by omega)⟩
/-- a sector's part, as it is read -/
theorem Ms.at (h : Ms w p q gp B W H N S mv cnt) {s : Nat} (hs : s < cntS W H) : ∃ x : Pc, Prt w B W H N S (mv s) s x ∧ w.cell? ⟨q, s * 3, none⟩ = some (.int .i64 (mv s)) ∧ w.cell? ⟨q, s * 3 + 1, none⟩ = some (.slice x.na x.nn x.nc) ∧ w.cell? ⟨q, s * 3 + 2, none⟩ = some (.slice x.ra x.rn x.rc) := by
  obtain ⟨P, a, b⟩ := h.parts
  have c0 := a.cell (i := s * 3) (by omega)
  have c1 := a.cell (i := s * 3 + 1) (by omega)
  have c2 := a.cell (i := s * 3 + 2) (by omega)
  rw [pcF_0] at c0
  rw [pcF_1] at c1
  rw [pcF_2] at c2
  rw [(b s hs).ver] at c0
  exact ⟨P s, b s hs, c0, c1, c2⟩
theorem Ms.bd (h : Ms w p q gp B W H N S mv cnt) : 1 ≤ cntS W H ∧ cntS W H ≤ 4096 ∧ 1 ≤ N ∧ N ≤ 1048576 ∧ (cntS W H : Int) = countF W H := by
  obtain ⟨hm, hn⟩ := h.may
  have := may_mul hm
  have q := cntS_eq hm
  have := cntS_int W H
  omega
end
end Go.Proofs.YtgbadbkipaccgaaGreat
