/- Bytes in memory: a slice that reads as a function of the index; worlds behind which nothing that was there has turned. No condition. -/
import Derived.Test.YtigoehoaplndiaaWRef2
import Derived.Deep.OwnRows
import Derived.Lib.BytesEntry
import Derived.Lib.SliceRun
import Derived.Laws.BytesString
import Derived.Laws.IdiomStrings
namespace Go.Proofs.Ytigoehoaplndiaa
open Go.RowKit

/-- Of what was there in w nothing has turned. -/
def Gr (w w' : World) : Prop := Below w.heap.size w w'
theorem Gr.refl (w : World) : Gr w w := Below.refl _ _
theorem Gr.size {a b : World} (h : Gr a b) : a.heap.size ≤ b.heap.size := Below.size h
theorem Gr.trans {a b c : World} (h : Gr a b) (g : Gr b c) : Gr a c := Below.trans (B := a.heap.size) h (Below.mono g h.size)
theorem Gr.alloc {a w : World} (h : Gr a w) (o : Obj) : Gr a (w.alloc o) := Below.alloc h h.size o
theorem Gr.drew {a w : World} (h : Gr a w) : Gr a w.drew := Below.drew h
theorem Gr.drewN {a w : World} (h : Gr a w) (n : Nat) : Gr a (w.drewN n) := by
  induction n with
  | zero => exact h
  | succ k ih => exact ih.drew
theorem Dr.gr {w w' : World} (h : Dr w w') : Gr w w' := by
  obtain ⟨m, rfl⟩ := h
  exact (Gr.refl _).drewN m
theorem Gr.set {a w : World} (h : Gr a w) {p : Addr} (hp : a.heap.size ≤ p.block) (v : Value) : Gr a (w.setCell p v) := Below.setCell h hp v
theorem Gr.grown {a w w' : World} {row : Option Nat} (h : Gr a w) (hg : w.grownBy w' row) (hr : ∀ k, row = some k → a.heap.size ≤ k) : Gr a w' := Below.grown h hg h.size hr
theorem Gr.cell {w w' : World} (h : Gr w w') (b o : Nat) (hb : b < w.heap.size) : w'.cell? ⟨b, o, none⟩ = w.cell? ⟨b, o, none⟩ := Below.cell (p := ⟨b, o, none⟩) h hb
theorem Gr.frozen {w w' : World} (h : Gr w w') (b o : Nat) (hb : b < w.heap.size) : w'.frozen? ⟨b, o, none⟩ = w.frozen? ⟨b, o, none⟩ := Below.frozen (p := ⟨b, o, none⟩) h hb
/-- what the walk is told of old cells behind a call -/
theorem Gr.old {w w' : World} (h : Gr w w') : (∀ b o, b < w.heap.size → w'.cell? ⟨b, o, none⟩ = w.cell? ⟨b, o, none⟩) ∧ (∀ b o, b < w.heap.size → w'.frozen? ⟨b, o, none⟩ = w.frozen? ⟨b, o, none⟩) ∧ w.heap.size ≤ w'.heap.size :=
  ⟨h.cell, h.frozen, h.size⟩

/-- The slice at a, of n bytes, reads as f. -/
structure Sl (w : World) (a : Option Addr) (n : Nat) (f : Nat → Int) : Prop where
  byte : ∀ i, i < n → 0 ≤ f i ∧ f i ≤ 255
  has : n = 0 ∨ ∃ b o, a = some ⟨b, o, none⟩ ∧ b < w.heap.size ∧ ∀ i, i < n → w.cell? ⟨b, o + i, none⟩ = some (.int .u8 (f i))
theorem Sl.gr {w w' : World} {a : Option Addr} {n : Nat} {f : Nat → Int} (h : Sl w a n f) (g : Gr w w') : Sl w' a n f := by
  refine ⟨h.byte, ?_⟩
  rcases h.has with h0 | ⟨b, o, rfl, hb, hc⟩
  · exact .inl h0
  · exact .inr ⟨b, o, rfl, Nat.lt_of_lt_of_le hb g.size, fun i hi => by rw [g.cell b _ hb]; exact hc i hi⟩
theorem Sl.congr {w : World} {a : Option Addr} {n : Nat} {f g : Nat → Int} (h : Sl w a n f) (e : ∀ i, i < n → f i = g i) : Sl w a n g := by
  refine ⟨fun i hi => by rw [← e i hi]; exact h.byte i hi, ?_⟩
  rcases h.has with h0 | ⟨b, o, rfl, hb, hc⟩
  · exact .inl h0
  · exact .inr ⟨b, o, rfl, hb, fun i hi => by rw [← e i hi]; exact hc i hi⟩
theorem Sl.at {w : World} {a : Option Addr} {n : Nat} {f : Nat → Int} (h : Sl w a n f) (hn : 0 < n) : ∃ b o, a = some ⟨b, o, none⟩ ∧ b < w.heap.size ∧ ∀ i, i < n → w.cell? ⟨b, o + i, none⟩ = some (.int .u8 (f i)) := by
  rcases h.has with h0 | h1
  · omega
  · exact h1
/-- none of the bytes is 0 -/
def fullB (n : Nat) (f : Nat → Int) : Bool := decide (∀ i, i < n → f i ≠ 0)
theorem fullB_iff (n : Nat) (f : Nat → Int) : fullB n f = true ↔ ∀ i, i < n → f i ≠ 0 := by simp [fullB]
theorem fullB_false (n : Nat) (f : Nat → Int) : fullB n f = false ↔ ∃ i, i < n ∧ f i = 0 := by simp [fullB]

/-- the bytes of a slice, as a list -/
def lst (n : Nat) (f : Nat → Int) : List Int := (List.range n).map f
theorem lst_len (n : Nat) (f : Nat → Int) : (lst n f).length = n := by simp [lst]
theorem lst_get (n : Nat) (f : Nat → Int) {i : Nat} (h : i < n) : (lst n f).getD i 0 = f i := by simp [lst, h]
theorem lst_get? (n : Nat) (f : Nat → Int) {i : Nat} (h : i < n) : (lst n f)[i]? = some (f i) := by simp [lst, h]

theorem byte_eq {x y : Int} (hx : 0 ≤ x ∧ x ≤ 255) (hy : 0 ≤ y ∧ y ≤ 255) : x.toNat.toUInt8 = y.toNat.toUInt8 ↔ x = y := by
  constructor
  · intro h
    have := congrArg UInt8.toNat h
    simp only [Nat.toUInt8, UInt8.toNat_ofNat'] at this
    omega
  · rintro rfl; rfl

theorem ib_neg (c : UInt8) : ∀ l : List UInt8, Lib.indexByte l c < 0 ↔ ∀ x ∈ l, x ≠ c
  | [] => by simp [Lib.indexByte]
  | b :: l => by
    have ih := ib_neg c l
    have g := Lib.indexByte_ge l c
    unfold Lib.indexByte
    by_cases hb : b = c
    · simp [hb]
    · simp only [beq_iff_eq, hb, if_false, List.mem_cons, forall_eq_or_imp, ne_eq, not_false_eq_true, true_and]
      split <;> rename_i h
      · rw [← ne_eq] at *
        constructor
        · intro _; exact ih.1 (by omega)
        · intro _; omega
      · constructor
        · intro k; omega
        · intro k; have := ih.2 k; omega
theorem indexByte_neg (n : Nat) (f : Nat → Int) (hb : ∀ i, i < n → 0 ≤ f i ∧ f i ≤ 255) : decide (Lib.indexByte (Lib.bytesOf (lst n f)) (0 : Int).toNat.toUInt8 < 0) = fullB n f := by
  unfold fullB
  rw [decide_eq_decide, ib_neg]
  constructor
  · intro h i hi e
    refine h (UInt8.ofNat (f i).toNat) ?_ (by rw [e])
    simp only [Lib.bytesOf, lst, List.map_map, List.mem_map, List.mem_range]
    exact ⟨i, hi, rfl⟩
  · intro h x hx
    simp only [Lib.bytesOf, lst, List.map_map, List.mem_map, List.mem_range] at hx
    obtain ⟨i, hi, rfl⟩ := hx
    intro e
    exact h i hi ((byte_eq (hb i hi) (by omega)).1 e)

/-- the entry internal/bytealg.IndexByte at such a slice -/
theorem run_index0 {P : Program} {w : World} {a : Option Addr} {n : Nat} {f : Nat → Int} (h : Sl w a n f) (cap : Nat) :
    ∃ r : Int, (Extern.BytealgIndexByte.indexByte #[.slice a n cap, .int .u8 0]).run P w = .ok (.int .i64 r) w ∧ decide (r < 0) = fullB n f := by
  cases a with
  | none =>
    refine ⟨-1, Lib.run_indexByteNil w n cap 0, ?_⟩
    rcases h.has with h0 | ⟨b, o, e, _⟩
    · subst h0; simp [fullB]
    · cases e
  | some x =>
    rcases h.has with h0 | ⟨b, o, e, _, hc⟩
    · subst h0
      refine ⟨-1, ?_, by simp [fullB]⟩
      have hs := Lib.run_indexByteString (P := P) .empty 0 w
      exact hs
    · cases e
      exact ⟨_, Lib.run_indexByteSlice w b o n cap (lst n f) (lst_len n f) (fun i hi => by rw [lst_get n f hi]; exact hc i hi) 0, indexByte_neg n f h.byte⟩

set_option maxHeartbeats 400000 in
set_option maxRecDepth 20000 in
theorem indexByte_any (a : Option Addr) (n cap : Nat) (f : Nat → Int) (w : World) (h : Sl w a n f) :
    Calls Try.prog 50 #[.slice a n cap, .int .u8 0] w fun e w' => (∃ r, e = .returned (.int .i64 r) ∧ decide (r < 0) = fullB n f) ∧ w' = w := by
  obtain ⟨r, hr, hd⟩ := run_index0 (P := Try.prog) h cap
  have HR := hide hr
  have HD := hide hd
  clear hr hd
  go_enter Try.func50, Try.ntmps50
  go_wp2
  rw [run_callFunc_extern Try.func71 (by kernel_rfl) (by kernel_rfl) (by kernel_rfl) (e := Extern.BytealgIndexByte.indexByte) (by kernel_rfl), HR.out]
  simp only [Result.andThen]
  rw [Oper.upon_value]
  go_wp2
  go_ret
  exact ⟨⟨r, rfl, HD.out⟩, rfl⟩

end Go.Proofs.Ytigoehoaplndiaa
