/- PackBack's walk: it answers true at every input where the package's variables hold what its text lays; nothing that was there is written. -/
import Derived.Test.YtakmiafloolpmaaDoorPTurned
namespace Go.Proofs.YtakmiafloolpmaaDoor
open Go.RowKit
set_option maxRecDepth 20000

/-- one list behind another, by the index -/
def appF (n : Nat) (f g : Nat → Int) (i : Nat) : Int := if i < n then f i else g (i - n)
theorem cel_app (n m : Nat) (f g : Nat → Int) : cel .u8 n f ++ cel .u8 m g = cel .u8 (n + m) (appF n f g) := by
  apply List.ext_getElem?
  intro i
  by_cases h : i < n
  · rw [List.getElem?_append_left (by rw [cel_len]; exact h), cel_get _ _ _ h, cel_get _ _ _ (by omega)]
    simp [appF, h]
  · rw [List.getElem?_append_right (by rw [cel_len]; omega), cel_len]
    by_cases h2 : i < n + m
    · rw [cel_get _ _ _ (by omega), cel_get _ _ _ h2]
      simp [appF, h]
    · rw [List.getElem?_eq_none (by rw [cel_len]; omega), List.getElem?_eq_none (by rw [cel_len]; omega)]
theorem appF_bd {n m : Nat} {f g : Nat → Int} (hf : ∀ i, i < n → 0 ≤ f i ∧ f i ≤ 255) (hg : ∀ i, i < m → 0 ≤ g i ∧ g i ≤ 255) : ∀ i, i < n + m → 0 ≤ appF n f g i ∧ appF n f g i ≤ 255 := by
  intro i hi
  unfold appF
  split
  · exact hf i (by assumption)
  · exact hg _ (by omega)
theorem own_empty {w u : World} {base k : Nat} (hk : k = w.heap.size) (hb : base ≤ w.heap.size) (hu : Gr (w.alloc (.cells #[] 5)) u) : u.ownsRow base 5 1 (.slice (some ⟨k, 0, none⟩) 0 0) 0 [] := by
  subst hk
  exact own_gr (World.ownsRow_made w #[] 0 hb (Nat.zero_le _) rfl) hu
theorem rowL_first {w1 u w0 : World} {B n k cc : Nat} {v' : Value} {f : Nat → Int} (h : w1.ownsRow B 5 1 v' (0 + n) ([] ++ cel .u8 n f)) (hn : 0 < n) (hg : u.grownBy w1 (Value.slice (some ⟨k, 0, none⟩) 0 cc).ownBlock) (h0 : Gr w0 u) (hk : w0.heap.size ≤ k) (hb : ∀ i, i < n → 0 ≤ f i ∧ f i ≤ 255) :
    ∃ g c, v' = .slice (some ⟨g, 0, none⟩) n c ∧ OwnB w1 B g n c f ∧ Gr w0 w1 := by
  rw [Nat.zero_add, List.nil_append] at h
  rcases h.2 with ⟨_, h0'⟩ | ⟨g, cap, cur, rfl, hb', r⟩
  · omega
  · refine ⟨g, cap, rfl, ⟨h, hb⟩, Gr.grown h0 hg ?_⟩
    intro j hj
    simp [Value.ownBlock] at hj
    omega
theorem rowL_second {w1 u w0 : World} {B n m g c : Nat} {v' : Value} {f t : Nat → Int} (h : w1.ownsRow B 5 1 v' (n + m) (cel .u8 n f ++ cel .u8 m t)) (hn : 0 < n) (hg : u.grownBy w1 (Value.slice (some ⟨g, 0, none⟩) n c).ownBlock) (h0 : Gr w0 u) (hk : w0.heap.size ≤ g) (hf : ∀ i, i < n → 0 ≤ f i ∧ f i ≤ 255) (ht : ∀ i, i < m → 0 ≤ t i ∧ t i ≤ 255) :
    ∃ g' c', v' = .slice (some ⟨g', 0, none⟩) (n + m) c' ∧ OwnB w1 B g' (n + m) c' (appF n f t) ∧ Gr w0 w1 := by
  rw [cel_app] at h
  rcases h.2 with ⟨_, h0'⟩ | ⟨g', cap, cur, rfl, hb', r⟩
  · omega
  · refine ⟨g', cap, rfl, ⟨h, appF_bd hf ht⟩, Gr.grown h0 hg ?_⟩
    intro j hj
    simp [Value.ownBlock] at hj
    omega

/-- the box of a tile that holds nothing yet -/
def Bx (w : World) (b : Nat) : Prop := w.rowIs b 31 3 (tri (.int .i64 0) (.int .i64 0) (.slice none 0 0))
theorem bx_new (w : World) {k : Nat} (hk : k = w.heap.size) : Bx (w.alloc (.cells #[.int .i64 0, .int .i64 0, .slice none 0 0] 31)) k := by
  subst hk
  exact tri_alloc w _ _ _ _
theorem bx_grown {u w1 : World} {b base k n c : Nat} {xs : List Value} (h : Bx u b) (ho : u.ownsRow base 5 1 (.slice (some ⟨k, 0, none⟩) n c) n xs) (hg : u.grownBy w1 (Value.slice (some ⟨k, 0, none⟩) n c).ownBlock) : Bx w1 b := by
  refine row_grown h hg ?_
  intro q hq e
  simp only [Value.ownBlock, Option.some.injEq] at hq
  subst hq
  subst e
  rcases ho.2 with ⟨e0, _⟩ | ⟨g, cap, cur, e0, _, hh, _⟩
  · simp at e0
  · simp only [Value.slice.injEq, Option.some.injEq, Addr.mk.injEq, and_true, true_and] at e0
    obtain ⟨rfl, _⟩ := e0
    obtain ⟨cs, hcs, -⟩ := h
    rw [hh] at hcs
    simp at hcs
theorem bx_cells {w : World} {b : Nat} (h : Bx w b) : w.cell? ⟨b, 0, none⟩ = some (.int .i64 0) ∧ w.cell? ⟨b, 1, none⟩ = some (.int .i64 0) ∧ w.cell? ⟨b, 2, none⟩ = some (.slice none 0 0) ∧ w.frozen? ⟨b, 0, none⟩ = false ∧ w.frozen? ⟨b, 1, none⟩ = false ∧ w.frozen? ⟨b, 2, none⟩ = false :=
  ⟨h.cell (i := 0) (by omega), h.cell (i := 1) (by omega), h.cell (i := 2) (by omega), h.frozen 0, h.frozen 1, h.frozen 2⟩
theorem sl_lt {w : World} {g n : Nat} {f : Nat → Int} (h : Sl w (some ⟨g, 0, none⟩) n f) (hn : 1 ≤ n) : g < w.heap.size := by
  obtain ⟨b, o, e, hb, -⟩ := h.at hn
  cases e
  exact hb
theorem Sl.drewF {w : World} {a : Option Addr} {n : Nat} {f : Nat → Int} (h : Sl w a n f) : Sl w.drew a n f := h.gr (Gr.refl _).drew
theorem Sl.allocF {w : World} {a : Option Addr} {n : Nat} {f : Nat → Int} {o : Obj} (h : Sl w a n f) : Sl (w.alloc o) a n f := h.gr ((Gr.refl _).alloc _)
theorem step_append_none {P : Program} {ops : Array Oper} {o : Oper} {a : Act} {w : World} {K : Act → World → Prop} {Q : Exit → Act → World → Prop} {E : Prop}
    (hg : o.guard = none) (s x : Operand) (t : TypeId) (ho : o.op = Op.call { callee := Callee.builtin Builtin.append, args := #[s, x], argTypes := #[t, t] })
    (base : Nat) (e : TypeId) (i : TypeInfo) (size : Nat) (ht : P.underlying t = some (.slice e)) (hi : P.info? e = some i)
    (v : Value) (n : Nat) (xs : List Value) (hs : a.eval s = v) (hown : w.ownsRow base e size v n xs) (hx : a.eval x = .slice none 0 0)
    (hK : K (a.put o.dst v) w) :
    if Region.wanted o (yielded ops a.tmps) = true then Oper.wp P o a w K Q else E := by
  have hw : Region.wanted o (yielded ops a.tmps) = true := by simp [Region.wanted, hg]
  rw [if_pos hw]
  have hrun := run_append_owned_none (P := P) (w := w) base t o.type e i size ht hi v n xs hown
  unfold Oper.wp
  simp [execOp, ho, resolve, invoke, builtin, hs, hx, hrun, Result.andThen]
  exact hK
theorem get_back (N u : Nat) (F : Nat → Int) (a : Option Addr) (B cap : Nat) (W H : Int) (b : Nat → Int) (ga : Nat → Addr) (w : World) (h : Sl w a B b) (hw : Glob w ga) (hc : B ≤ cap) (hcm : cap ≤ maxLen) (hB7 : B ≤ 1000000) (hW : 1 ≤ W ∧ W ≤ 16) (hH : 1 ≤ H ∧ H ≤ 16) (hn : (N : Int) = W * H) (hr : getL N B b = (0, lst N F, u)) :
    Calls Tryd.prog 65 #[.slice a B cap, .int .i64 W, .int .i64 H] w fun e w' => (∃ g c, e = .returned (.tuple #[.agg #[.int .i64 W, .int .i64 H, .slice (some ⟨g, 0, none⟩) N c], .int .i64 u, .int .i64 0]) ∧ Sl w' (some ⟨g, 0, none⟩) N F) ∧ Gr w w' := by
  refine (Go.Proofs.YtakmiafloolpmaaDoor.get_ok (lst N F) u a B cap W H N b ga w h hw hc hcm hB7 hW hH hn hr).mono ?_
  rintro e w1 ⟨⟨g, c, rfl, h1, h2, h3⟩, hg⟩
  rw [lst_len] at h3
  exact ⟨⟨g, c, by rw [lst_len], h3.congr fun i hi => at0_lst hi⟩, hg⟩

end Go.Proofs.YtakmiafloolpmaaDoor
