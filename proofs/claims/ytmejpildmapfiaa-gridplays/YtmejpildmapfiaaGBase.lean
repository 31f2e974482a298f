/- Objects that are written: a frame that leaves some blocks out; a row of at least n cells; a grid in memory. No condition. -/
import Derived.Test.YtmejpildmapfiaaAWalks2
namespace Go.Proofs.Ytmejpildmapfiaa
open Go.RowKit
set_option maxRecDepth 20000

/-- nothing that was there has turned, but for the blocks of S -/
structure Kp (S : Nat → Prop) (w w' : World) : Prop where
  os : w'.os = w.os
  tape : w'.tape = w.tape
  output : w'.output = w.output
  size : w.heap.size ≤ w'.heap.size
  block : ∀ k, k < w.heap.size → ¬ S k → w'.heap[k]? = w.heap[k]?
theorem Gr.kp {S : Nat → Prop} {w w' : World} (h : Gr w w') : Kp S w w' := ⟨Below.os h, Below.tape h, Below.output h, Below.size h, fun k hk _ => Below.block h k hk⟩
theorem Kp.refl (S : Nat → Prop) (w : World) : Kp S w w := (Gr.refl w).kp
theorem Kp.trans {S : Nat → Prop} {a b c : World} (h : Kp S a b) (k : Kp S b c) : Kp S a c :=
  ⟨k.os.trans h.os, k.tape.trans h.tape, k.output.trans h.output, Nat.le_trans h.size k.size, fun i hi hs => (k.block i (Nat.lt_of_lt_of_le hi h.size) hs).trans (h.block i hi hs)⟩
theorem Kp.mono {S T : Nat → Prop} {w w' : World} (h : Kp S w w') (hs : ∀ k, S k → T k) : Kp T w w' := ⟨h.os, h.tape, h.output, h.size, fun i hi hn => h.block i hi (fun q => hn (hs i q))⟩
theorem Kp.set {S : Nat → Prop} {a w : World} (h : Kp S a w) {p : Addr} (hp : S p.block ∨ a.heap.size ≤ p.block) (v : Value) : Kp S a (w.setCell p v) :=
  ⟨h.os, h.tape, h.output, by simpa [World.setCell] using h.size, fun i hi hs => (Below.heap_setCell w p v i (by rintro rfl; rcases hp with hp | hp; exact hs hp; omega)).trans (h.block i hi hs)⟩
theorem Kp.gr {S : Nat → Prop} {a w w' : World} (k : Kp S w w') (h : Gr a w) (hs : ∀ k, S k → a.heap.size ≤ k) : Gr a w' :=
  ⟨k.os.trans (Below.os h), k.tape.trans (Below.tape h), k.output.trans (Below.output h), Nat.le_trans h.size k.size, fun i hi => (k.block i (Nat.lt_of_lt_of_le hi h.size) (fun q => by have := hs i q; omega)).trans (Below.block h i hi)⟩
theorem Kp.cell {S : Nat → Prop} {w w' : World} (k : Kp S w w') {b o : Nat} {v : Value} (h : w.cell? ⟨b, o, none⟩ = some v) (hb : ¬ S b) : w'.cell? ⟨b, o, none⟩ = some v :=
  (World.cell?_of_block (w := w) (a := ⟨b, o, none⟩) (k.block b (World.block_lt_of_cell? w ⟨b, o, none⟩ h) hb)).trans h
theorem Kp.row {S : Nat → Prop} {w w' : World} (k : Kp S w w') {b t n : Nat} {f : Nat → Value} (h : w.rowIs b t n f) (hb : ¬ S b) : w'.rowIs b t n f := h.of_block (k.block b h.lt hb)
theorem Kp.sl {S : Nat → Prop} {w w' : World} (k : Kp S w w') {b o n : Nat} {f : Nat → Int} (h : Sl w (some ⟨b, o, none⟩) n f) (hb : ¬ S b) : Sl w' (some ⟨b, o, none⟩) n f := by
  refine ⟨h.byte, ?_⟩
  rcases h.has with h0 | ⟨b', o', e, hB, hc⟩
  · exact .inl h0
  · cases e
    exact .inr ⟨b, o, rfl, Nat.lt_of_lt_of_le hB k.size, fun i hi => k.cell (hc i hi) hb⟩
theorem Kp.own {S : Nat → Prop} {w w' : World} (k : Kp S w w') {base g n c : Nat} {f : Nat → Int} (h : OwnB w base g n c f) (hb : ¬ S g) : OwnB w' base g n c f := by
  refine ⟨⟨h.own.1, ?_⟩, h.byte⟩
  rcases h.own.2 with ⟨e, _⟩ | ⟨b, cap, cur, e, hb', hg, r⟩
  · cases e
  · cases e
    exact .inr ⟨g, c, cur, rfl, hb', (k.block g (Array.getElem?_eq_some_iff.1 hg).1 hb).trans hg, r⟩

/-- block b holds at least n cells of type t, none frozen, that read as f -/
def Row (w : World) (b : Nat) (t : TypeId) (k : IntKind) (n : Nat) (f : Nat → Int) : Prop := ∃ m g, n ≤ m ∧ w.rowIs b t m g ∧ ∀ i, i < n → g i = .int k (f i)
theorem Row.cell {w : World} {b : Nat} {t : TypeId} {k : IntKind} {n : Nat} {f : Nat → Int} (h : Row w b t k n f) {i : Nat} (hi : i < n) : w.cell? ⟨b, i, none⟩ = some (.int k (f i)) := by
  obtain ⟨m, g, hm, hr, hg⟩ := h
  rw [hr.cell (i := i) (by omega), hg i hi]
theorem Row.frozen {w : World} {b : Nat} {t : TypeId} {k : IntKind} {n : Nat} {f : Nat → Int} (h : Row w b t k n f) (i : Nat) : w.frozen? ⟨b, i, none⟩ = false := by
  obtain ⟨m, g, hm, hr, hg⟩ := h
  exact hr.frozen i
theorem Row.lt {w : World} {b : Nat} {t : TypeId} {k : IntKind} {n : Nat} {f : Nat → Int} (h : Row w b t k n f) : b < w.heap.size := by
  obtain ⟨m, g, hm, hr, hg⟩ := h
  exact hr.lt
theorem Row.of_block {w w' : World} {b : Nat} {t : TypeId} {k : IntKind} {n : Nat} {f : Nat → Int} (h : Row w b t k n f) (e : w'.heap[b]? = w.heap[b]?) : Row w' b t k n f := by
  obtain ⟨m, g, hm, hr, hg⟩ := h
  exact ⟨m, g, hm, hr.of_block e, hg⟩
theorem Row.gr {w w' : World} {b : Nat} {t : TypeId} {k : IntKind} {n : Nat} {f : Nat → Int} (h : Row w b t k n f) (g : Gr w w') : Row w' b t k n f := h.of_block (Below.block g b h.lt)
theorem Row.kp {S : Nat → Prop} {w w' : World} {b : Nat} {t : TypeId} {k : IntKind} {n : Nat} {f : Nat → Int} (h : Row w b t k n f) (g : Kp S w w') (hb : ¬ S b) : Row w' b t k n f := h.of_block (g.block b h.lt hb)
theorem Row.set {w : World} {b : Nat} {t : TypeId} {k : IntKind} {n : Nat} {f : Nat → Int} (h : Row w b t k n f) (i : Nat) (x : Int) : Row (w.setCell ⟨b, i, none⟩ (.int k x)) b t k n (fun j => if j = i then x else f j) := by
  obtain ⟨m, g, hm, hr, hg⟩ := h
  refine ⟨m, _, hm, hr.set i _, fun j hj => ?_⟩
  by_cases e : j = i
  · simp [e]
  · simp only [if_neg e, hg j hj]
theorem Row.setOther {w : World} {b : Nat} {t : TypeId} {k : IntKind} {n : Nat} {f : Nat → Int} (h : Row w b t k n f) {a : Addr} (ha : b ≠ a.block) (v : Value) : Row (w.setCell a v) b t k n f := by
  obtain ⟨m, g, hm, hr, hg⟩ := h
  exact ⟨m, g, hm, hr.setOther ha v, hg⟩
theorem Row.congr {w : World} {b : Nat} {t : TypeId} {k : IntKind} {n : Nat} {f g : Nat → Int} (h : Row w b t k n f) (e : ∀ i, i < n → f i = g i) : Row w b t k n g := by
  obtain ⟨m, q, hm, hr, hg⟩ := h
  exact ⟨m, q, hm, hr, fun i hi => by rw [hg i hi, e i hi]⟩
theorem Row.of_is {w : World} {b : Nat} {t : TypeId} {k : IntKind} {n : Nat} {f : Nat → Int} (h : w.rowIs b t n (fun i => .int k (f i))) : Row w b t k n f := ⟨n, _, Nat.le_refl _, h, fun _ _ => rfl⟩
theorem Row.of_own {w : World} {base g c : Nat} {e : TypeId} {n : Nat} {k : IntKind} {f : Nat → Int} (h : w.ownsRow base e 1 (.slice (some ⟨g, 0, none⟩) n c) n (cel k n f)) : Row w g e k n f := by
  rcases h.2 with ⟨q, _⟩ | ⟨b, cap, cur, q, hb, hg, hn, hm, hs, ht⟩
  · cases q
  · cases q
    refine ⟨cur.size, fun i => cur[i]?.getD .nilIface, by omega, ⟨cur, hg, rfl, fun i hi => ?_⟩, fun i hi => ?_⟩
    · simp [hi]
    · have e := congrArg (fun l => l[i]?) ht
      simp only [cel_get _ _ _ hi, List.getElem?_take, Nat.mul_one, hi, if_true, Array.getElem?_toList] at e
      show cur[i]?.getD Value.nilIface = _
      rw [e]; rfl
theorem Row.sl {w : World} {b : Nat} {t : TypeId} {n : Nat} {f : Nat → Int} (h : Row w b t .u8 n f) (hf : ∀ i, i < n → 0 ≤ f i ∧ f i ≤ 255) : Sl w (some ⟨b, 0, none⟩) n f :=
  ⟨hf, .inr ⟨b, 0, rfl, h.lt, fun i hi => by rw [Nat.zero_add]; exact h.cell hi⟩⟩
theorem Row.own {w : World} {b base c : Nat} {n : Nat} {f : Nat → Int} (h : Row w b 5 .u8 n f) (hf : ∀ i, i < n → 0 ≤ f i ∧ f i ≤ 255) (hb : base ≤ b) (hn : n ≤ c) (hc : c ≤ maxLen) (hs : ∃ cur, w.heap[b]? = some (.cells cur 5 (0, 0)) ∧ cur.size = c) : OwnB w base b n c f := by
  obtain ⟨cur, hg, hs⟩ := hs
  refine ⟨⟨by rw [cel_len, Nat.mul_one], .inr ⟨b, c, cur, rfl, hb, hg, hn, hc, by omega, ?_⟩⟩, hf⟩
  obtain ⟨m, q, hm, ⟨cur', e1, e2, e3⟩, hq⟩ := h
  rw [hg] at e1
  cases e1
  apply List.ext_getElem?
  intro i
  rw [List.getElem?_take, Nat.mul_one]
  split
  · rename_i hi
    rw [cel_get _ _ _ hi, Array.getElem?_toList, e3 i (by omega), hq i hi]
  · rename_i hi
    rw [List.getElem?_eq_none (by rw [cel_len]; omega)]

/-- five cells -/
def pen (a b c d e : Value) : Nat → Value := fun j => if j = 0 then a else if j = 1 then b else if j = 2 then c else if j = 3 then d else e
theorem pen_set3 (a b c d e v : Value) : ∀ i, i < 5 → (if i = 3 then v else pen a b c d e i) = pen a b c v e i := by
  intro i hi
  rcases (by omega : i = 0 ∨ i = 1 ∨ i = 2 ∨ i = 3 ∨ i = 4) with rfl | rfl | rfl | rfl | rfl <;> simp [pen]
theorem pen_alloc (w : World) (a b c d e : Value) (t : TypeId) : (w.alloc (.cells #[a, b, c, d, e] t)).rowIs w.heap.size t 5 (pen a b c d e) :=
  World.rowIs_alloc w #[a, b, c, d, e] t (pen a b c d e) (fun i hi => by
    have hi : i < 5 := hi
    rcases (by omega : i = 0 ∨ i = 1 ∨ i = 2 ∨ i = 3 ∨ i = 4) with rfl | rfl | rfl | rfl | rfl <;> rfl)

/-- a grid in memory: its box at p, its costs at c, its versions at v -/
structure Gd (w : World) (p c v : Nat) (W H : Int) (N cc : Nat) (f : Nat → Int) (ep : Int) (ver : Nat → Int) : Prop where
  box : w.rowIs p 58 5 (pen (.int .i64 W) (.int .i64 H) (.slice (some ⟨c, 0, none⟩) N cc) (.int .i64 ep) (.slice (some ⟨v, 0, none⟩) (cntS W H) (cntS W H)))
  cost : Row w c 5 .u8 N f
  vers : Row w v 2 .i64 (cntS W H) ver
  byte : ∀ i, i < N → 0 ≤ f i ∧ f i ≤ 255
  may : mayM W H N f = true
  cap : N ≤ cc ∧ cc ≤ maxLen
  apart : p ≠ c ∧ p ≠ v ∧ c ≠ v
theorem Gd.gr {w w' : World} {p c v : Nat} {W H : Int} {N cc : Nat} {f : Nat → Int} {ep : Int} {ver : Nat → Int} (h : Gd w p c v W H N cc f ep ver) (g : Gr w w') : Gd w' p c v W H N cc f ep ver :=
  ⟨row_gr h.box g, h.cost.gr g, h.vers.gr g, h.byte, h.may, h.cap, h.apart⟩
theorem Gd.kp {S : Nat → Prop} {w w' : World} {p c v : Nat} {W H : Int} {N cc : Nat} {f : Nat → Int} {ep : Int} {ver : Nat → Int} (h : Gd w p c v W H N cc f ep ver) (g : Kp S w w') (h1 : ¬ S p) (h2 : ¬ S c) (h3 : ¬ S v) : Gd w' p c v W H N cc f ep ver :=
  ⟨g.row h.box h1, h.cost.kp g h2, h.vers.kp g h3, h.byte, h.may, h.cap, h.apart⟩
theorem Gd.cells {w : World} {p c v : Nat} {W H : Int} {N cc : Nat} {f : Nat → Int} {ep : Int} {ver : Nat → Int} (h : Gd w p c v W H N cc f ep ver) :
    w.cell? ⟨p, 0, none⟩ = some (.int .i64 W) ∧ w.cell? ⟨p, 1, none⟩ = some (.int .i64 H) ∧ w.cell? ⟨p, 2, none⟩ = some (.slice (some ⟨c, 0, none⟩) N cc) ∧ w.cell? ⟨p, 3, none⟩ = some (.int .i64 ep) ∧ w.cell? ⟨p, 4, none⟩ = some (.slice (some ⟨v, 0, none⟩) (cntS W H) (cntS W H)) :=
  ⟨h.box.cell (i := 0) (by omega), h.box.cell (i := 1) (by omega), h.box.cell (i := 2) (by omega), h.box.cell (i := 3) (by omega), h.box.cell (i := 4) (by omega)⟩
/-- how large all of it is -/
theorem Gd.bd {w : World} {p c v : Nat} {W H : Int} {N cc : Nat} {f : Nat → Int} {ep : Int} {ver : Nat → Int} (h : Gd w p c v W H N cc f ep ver) :
    mayB W H = true ∧ (N : Int) = W * H ∧ 1 ≤ N ∧ N ≤ 1048576 ∧ 1 ≤ cntS W H ∧ cntS W H ≤ 4096 ∧ (cntS W H : Int) = countF W H := by
  obtain ⟨hm, hn, -⟩ := (mayM_iff _ _ _ _).1 h.may
  have := may_mul hm
  have q := cntS_eq hm
  exact ⟨hm, hn, by omega, by omega, q.2.1, q.2.2, cntS_int W H⟩

end Go.Proofs.Ytmejpildmapfiaa
