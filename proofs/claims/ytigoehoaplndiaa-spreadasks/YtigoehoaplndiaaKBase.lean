/- A frame that leaves some blocks out: nothing that was there has turned but those. No condition. -/
import Derived.Test.YtigoehoaplndiaaTMade2
namespace Go.Proofs.Ytigoehoaplndiaa
open Go.RowKit
set_option maxRecDepth 20000

/-- nothing that was there has turned, but for the blocks of S -/
structure Kp (S : Nat → Prop) (w w' : World) : Prop where
  os : w'.os = w.os
  tape : w'.tape = w.tape
  output : w'.output = w.output
  size : w.heap.size ≤ w'.heap.size
  block : ∀ k, k < w.heap.size → ¬ S k → w'.heap[k]? = w.heap[k]?
theorem Gr.kp {S : Nat → Prop} {w w' : World} (h : Gr w w') : Kp S w w' := ⟨Below.os h, Below.tape h, Below.output h, Below.size h, fun k hk _ => Below.block h k hk⟩
theorem Kp.refl (S : Nat → Prop) (w : World) : Kp S w w := (Gr.refl w).kp
theorem Kp.trans {S : Nat → Prop} {a b c : World} (h : Kp S a b) (k : Kp S b c) : Kp S a c :=
  ⟨k.os.trans h.os, k.tape.trans h.tape, k.output.trans h.output, Nat.le_trans h.size k.size, fun i hi hs => (k.block i (Nat.lt_of_lt_of_le hi h.size) hs).trans (h.block i hi hs)⟩
theorem Kp.mono {S T : Nat → Prop} {w w' : World} (h : Kp S w w') (hs : ∀ k, S k → T k) : Kp T w w' := ⟨h.os, h.tape, h.output, h.size, fun i hi hn => h.block i hi (fun q => hn (hs i q))⟩
theorem Kp.set {S : Nat → Prop} {a w : World} (h : Kp S a w) {p : Addr} (hp : S p.block ∨ a.heap.size ≤ p.block) (v : Value) : Kp S a (w.setCell p v) :=
  ⟨h.os, h.tape, h.output, by simpa [World.setCell] using h.size, fun i hi hs => (Below.heap_setCell w p v i (by rintro rfl; rcases hp with hp | hp; exact hs hp; omega)).trans (h.block i hi hs)⟩
theorem Kp.gr {S : Nat → Prop} {a w w' : World} (k : Kp S w w') (h : Gr a w) (hs : ∀ k, S k → a.heap.size ≤ k) : Gr a w' :=
  ⟨k.os.trans (Below.os h), k.tape.trans (Below.tape h), k.output.trans (Below.output h), Nat.le_trans h.size k.size, fun i hi => (k.block i (Nat.lt_of_lt_of_le hi h.size) (fun q => by have := hs i q; omega)).trans (Below.block h i hi)⟩
theorem Kp.cell {S : Nat → Prop} {w w' : World} (k : Kp S w w') {b o : Nat} {v : Value} (h : w.cell? ⟨b, o, none⟩ = some v) (hb : ¬ S b) : w'.cell? ⟨b, o, none⟩ = some v :=
  (World.cell?_of_block (w := w) (a := ⟨b, o, none⟩) (k.block b (World.block_lt_of_cell? w ⟨b, o, none⟩ h) hb)).trans h
theorem Kp.row {S : Nat → Prop} {w w' : World} (k : Kp S w w') {b t n : Nat} {f : Nat → Value} (h : w.rowIs b t n f) (hb : ¬ S b) : w'.rowIs b t n f := h.of_block (k.block b h.lt hb)
theorem Kp.sl {S : Nat → Prop} {w w' : World} (k : Kp S w w') {b o n : Nat} {f : Nat → Int} (h : Sl w (some ⟨b, o, none⟩) n f) (hb : ¬ S b) : Sl w' (some ⟨b, o, none⟩) n f := by
  refine ⟨h.byte, ?_⟩
  rcases h.has with h0 | ⟨b', o', e, hB, hc⟩
  · exact .inl h0
  · cases e
    exact .inr ⟨b, o, rfl, Nat.lt_of_lt_of_le hB k.size, fun i hi => k.cell (hc i hi) hb⟩
theorem Kp.dr {S : Nat → Prop} {a b c : World} (h : Kp S a b) (d : Dr b c) : Kp S a c := h.trans (d.gr.kp)
theorem Kp.grb {S : Nat → Prop} {a b c : World} (h : Kp S a b) (d : Gr b c) : Kp S a c := h.trans d.kp
theorem Gr.kpb {S : Nat → Prop} {a b c : World} (h : Gr a b) (d : Kp S b c) : Kp S a c := h.kp.trans d

end Go.Proofs.Ytigoehoaplndiaa
