/- Both rings side by side, the program's and the document's, in memory of their own: what each call does to both. No condition. -/
import Derived.Test.YtjnoklfmdckidaaQRefPop
namespace Go.Proofs.Ytjnoklfmdckidaa
open Go.RowKit
set_option maxRecDepth 20000

structure Pl (w0 u : World) (p q : Nat) (a : Int) (L : List (Int × Int)) (b : Int) (M : List (Int × Int)) (PB : Nat → Prop) : Prop where
  mem : ∃ FP g, Rg u p FP a L ∧ Rf u q g b M ∧ ¬ FP q ∧ (∀ t, g = some t → ¬ FP t ∧ ¬ PB t) ∧ (∀ t, FP t → w0.heap.size ≤ t ∧ ¬ PB t) ∧ w0.heap.size ≤ q ∧ ¬ PB q
  pb : ∀ t, PB t → t < u.heap.size
  g : Gr w0 u
variable {w0 u : World} {p q : Nat} {a b : Int} {L M : List (Int × Int)} {PB : Nat → Prop}
theorem Pl.gr {u' : World} (h : Pl w0 u p q a L b M PB) (k : Gr u u') : Pl w0 u' p q a L b M PB := by
  obtain ⟨FP, g, h1, h2, h3, h4, h5, h6, h7⟩ := h.mem
  exact ⟨⟨FP, g, h1.gr k, h2.gr k, h3, h4, h5, h6, h7⟩, fun t ht => Nat.lt_of_lt_of_le (h.pb t ht) (Below.size k), h.g.trans k⟩
theorem Pl.mono (h : Pl w0 u p q a L b M PB) {PC : Nat → Prop} (hp : ∀ t, PC t → PB t) : Pl w0 u p q a L b M PC := by
  obtain ⟨FP, g, h1, h2, h3, h4, h5, h6, h7⟩ := h.mem
  exact ⟨⟨FP, g, h1, h2, h3, fun t ht => ⟨(h4 t ht).1, fun c => (h4 t ht).2 (hp t c)⟩, fun t ht => ⟨(h5 t ht).1, fun c => (h5 t ht).2 (hp t c)⟩, h6, fun c => h7 (hp q c)⟩, fun t ht => h.pb t (hp t ht), h.g⟩
/-- a block of the call's own beside both -/
theorem Pl.box (h : Pl w0 u p q a L b M (fun _ => False)) (o : Obj) : Pl w0 (u.alloc o) p q a L b M (fun t => t = u.heap.size) := by
  obtain ⟨FP, g, h1, h2, h3, h4, h5, h6, h7⟩ := h.mem
  have k : Gr u (u.alloc o) := (Gr.refl u).alloc o
  exact ⟨⟨FP, g, h1.gr k, h2.gr k, h3, fun t ht => ⟨(h4 t ht).1, Nat.ne_of_lt (h2.g_lt ht)⟩, fun t ht => ⟨(h5 t ht).1, Nat.ne_of_lt (h1.lt t ht)⟩, h6, Nat.ne_of_lt h2.q_lt⟩, fun t ht => by rw [ht, World.size_alloc]; omega, h.g.trans k⟩
/-- a store into a block beside both -/
theorem Pl.set (h : Pl w0 u p q a L b M PB) {B i : Nat} (hB : PB B) (hw : w0.heap.size ≤ B) (v : Value) : Pl w0 (u.setCell ⟨B, i, none⟩ v) p q a L b M PB := by
  obtain ⟨FP, g, h1, h2, h3, h4, h5, h6, h7⟩ := h.mem
  have k : Kp (fun t => t = B) u (u.setCell ⟨B, i, none⟩ v) := Kp.set (S := fun t => t = B) (Kp.refl _ u) (p := ⟨B, i, none⟩) (.inl rfl) v
  exact ⟨⟨FP, g, h1.kp k (fun t ht e => (h5 t ht).2 (by rw [e]; exact hB)), h2.kp k (fun e => h7 (by rw [e]; exact hB)) (fun t ht e => (h4 t ht).2 (by rw [e]; exact hB)), h3, h4, h5, h6, h7⟩, fun t ht => by simpa [World.setCell] using h.pb t ht, h.g.set (p := ⟨B, i, none⟩) hw v⟩
theorem Pl.cell (h : Pl w0 u p q a L b M PB) : u.cell? ⟨q, 0, none⟩ = some (.int .i64 b) ∧ (∃ al c, u.cell? ⟨q, 1, none⟩ = some (.slice al M.length c)) ∧ 0 ≤ a := by
  obtain ⟨FP, g, h1, h2, h3, h4, h5, h6, h7⟩ := h.mem
  obtain ⟨c0, ⟨al, c, c1, -⟩, -⟩ := h2.open
  exact ⟨c0, ⟨al, c, c1⟩, h1.lo⟩
theorem Pl.near (h : Pl w0 u p q a L b M PB) : Near a L := by
  obtain ⟨FP, g, h1, -⟩ := h.mem
  exact h1.near

/-- does the ring take the key? -/
def inK (a k : Int) : Bool := decide (a ≤ k) && decide (k ≤ a + 255)
def putL (a : Int) (L : List (Int × Int)) (k x : Int) : List (Int × Int) := if inK a k then L ++ [(k, x)] else L
theorem inK_yes {a k : Int} (h : inK a k = true) : a ≤ k ∧ k ≤ a + 255 := by simpa [inK] using h
theorem inK_no {a k : Int} (h : ¬ inK a k = true) : k < a ∨ a + 255 < k := by
  simp only [inK, Bool.and_eq_true, decide_eq_true_eq, not_and] at h
  omega
theorem putL_len (a : Int) (L : List (Int × Int)) (k x : Int) : (putL a L k x).length ≤ L.length + 1 := by
  unfold putL
  split <;> simp
theorem lput (h : Pl w0 u p q a L b M PB) (k x : Int) (hL : L.length ≤ 900000) (ha : a ≤ 4611686018427387904) (hk : k ≤ 9223372036854775807) :
    Calls Try.prog 11 #[.pointer (some ⟨p, 0, none⟩), .int .i64 k, .int .i64 x] u fun e u' => e = .returned (.bool (inK a k)) ∧ Pl w0 u' p q a (putL a L k x) b M PB ∧ Kp (fun t => ¬ PB t) u u' := by
  have H := h
  obtain ⟨FP, g, h1, h2, h3, h4, h5, h6, h7⟩ := h.mem
  unfold putL
  by_cases c : inK a k = true
  · obtain ⟨c1, c2⟩ := inK_yes c
    rw [c]
    refine (qput_yes h1 k x c1 c2 (by omega) ha).mono ?_
    rintro e u' ⟨rfl, ⟨FP', hr, hfp⟩, hk⟩
    have hold : ∀ t, t < u.heap.size → ¬ FP t → ¬ FP' t := fun t ht hn hc => by
      rcases hfp t hc with hc | hc
      · exact hn hc
      · omega
    refine ⟨rfl, ⟨⟨FP', g, hr, h2.kp hk h3 (fun t ht => (h4 t ht).1), hold q h2.q_lt h3, fun t ht => ⟨hold t (h2.g_lt ht) (h4 t ht).1, (h4 t ht).2⟩, fun t ht => ?_, h6, h7⟩, fun t ht => Nat.lt_of_lt_of_le (h.pb t ht) hk.size, hk.gr h.g (fun t ht => (h5 t ht).1)⟩, hk.mono fun t ht => (h5 t ht).2⟩
    rcases hfp t ht with hc | hc
    · exact h5 t hc
    · exact ⟨Nat.le_trans (Below.size h.g) hc, fun hb => by have := h.pb t hb; omega⟩
  · have c' : inK a k = false := by simpa using c
    rw [c']
    refine (qput_no h1 k x (inK_no c) hk).mono ?_
    rintro e u' ⟨rfl, rfl⟩
    exact ⟨rfl, H, Kp.refl _ _⟩
theorem rput (h : Pl w0 u p q a L b M PB) (k x : Int) (hL : M.length ≤ 900000) (hb0 : 0 ≤ b) (hb : b ≤ 4611686018427387904) (hk : k ≤ 9223372036854775807) :
    Calls Try.prog 12 #[.pointer (some ⟨q, 0, none⟩), .int .i64 k, .int .i64 x] u fun e u' => e = .returned (.bool (inK b k)) ∧ Pl w0 u' p q a L b (putL b M k x) PB ∧ Kp (fun t => ¬ PB t) u u' := by
  have H := h
  obtain ⟨FP, g, h1, h2, h3, h4, h5, h6, h7⟩ := h.mem
  unfold putL
  by_cases c : inK b k = true
  · obtain ⟨c1, c2⟩ := inK_yes c
    rw [c]
    refine (rput_yes h2 k x c1 c2 hb0 hb hL).mono ?_
    rintro e u' ⟨rfl, ⟨g', hr, hg⟩, hk⟩
    refine ⟨rfl, ⟨⟨FP, g', h1.kp hk (fun t ht e => h3 (by rw [← e]; exact ht)), hr, h3, fun t ht => ⟨fun hc => by have := h1.lt t hc; have := hg t ht; omega, fun hc => by have := h.pb t hc; have := hg t ht; omega⟩, h5, h6, h7⟩, fun t ht => Nat.lt_of_lt_of_le (h.pb t ht) hk.size, hk.gr h.g (fun t ht => by rw [ht]; exact h6)⟩, hk.mono fun t ht => by rw [ht]; exact h7⟩
  · have c' : inK b k = false := by simpa using c
    rw [c']
    refine (rput_no h2 k x (inK_no c) hb0 hk).mono ?_
    rintro e u' ⟨rfl, rfl⟩
    exact ⟨rfl, H, Kp.refl _ _⟩

/-- what a Pop answers, and leaves -/
def PopIs (a : Int) (L : List (Int × Int)) (k x : Int) (ok : Bool) (a' : Int) (L' : List (Int × Int)) : Prop :=
  (L = [] ∧ k = 0 ∧ x = 0 ∧ ok = false ∧ a' = a ∧ L' = L) ∨ ∃ m, FirstMin L m k x ∧ ok = true ∧ a' = k ∧ L' = L.eraseIdx m
theorem pop_is (a : Int) (L : List (Int × Int)) : ∃ k x ok a' L', PopIs a L k x ok a' L' := by
  by_cases h : L = []
  · exact ⟨0, 0, false, a, L, .inl ⟨h, rfl, rfl, rfl, rfl, rfl⟩⟩
  · obtain ⟨m, k, x, hf⟩ := exists_first L h
    exact ⟨k, x, true, k, _, .inr ⟨m, hf, rfl, rfl, rfl⟩⟩
theorem PopIs.bd {k x : Int} {ok : Bool} {a' : Int} {L' : List (Int × Int)} (h : PopIs a L k x ok a' L') (hn : Near a L) : L'.length ≤ L.length ∧ a ≤ a' ∧ a' ≤ a + 255 := by
  rcases h with ⟨_, _, _, _, rfl, rfl⟩ | ⟨m, hf, _, rfl, rfl⟩
  · omega
  · have := hn _ hf.mem
    simp only at this
    exact ⟨by rw [erase_len hf]; omega, this.1, this.2⟩
theorem lpop (h : Pl w0 u p q a L b M PB) {k x : Int} {ok : Bool} {a' : Int} {L' : List (Int × Int)} (hp : PopIs a L k x ok a' L') (hL : L.length ≤ 900000) (ha : a ≤ 4611686018427387904) :
    Calls Try.prog 13 #[.pointer (some ⟨p, 0, none⟩)] u fun e u' => e = .returned (.tuple #[.int .i64 k, .int .i64 x, .bool ok]) ∧ Pl w0 u' p q a' L' b M PB ∧ Kp (fun t => ¬ PB t) u u' := by
  have H := h
  obtain ⟨FP, g, h1, h2, h3, h4, h5, h6, h7⟩ := h.mem
  rcases hp with ⟨rfl, rfl, rfl, rfl, rfl, rfl⟩ | ⟨m, hf, rfl, rfl, rfl⟩
  · refine (qpop_no h1).mono ?_
    rintro e u' ⟨rfl, rfl⟩
    exact ⟨rfl, H, Kp.refl _ _⟩
  · refine (qpop_yes h1 ha hf (by omega)).mono ?_
    rintro e u' ⟨rfl, hr, hk⟩
    exact ⟨rfl, ⟨⟨FP, g, hr, h2.kp hk h3 (fun t ht => (h4 t ht).1), h3, h4, h5, h6, h7⟩, fun t ht => Nat.lt_of_lt_of_le (h.pb t ht) hk.size, hk.gr h.g (fun t ht => (h5 t ht).1)⟩, hk.mono fun t ht => (h5 t ht).2⟩
theorem rpop (h : Pl w0 u p q a L b M PB) {k x : Int} {ok : Bool} {a' : Int} {L' : List (Int × Int)} (hp : PopIs b M k x ok a' L') (hL : M.length ≤ 900000) :
    Calls Try.prog 14 #[.pointer (some ⟨q, 0, none⟩)] u fun e u' => e = .returned (.tuple #[.int .i64 k, .int .i64 x, .bool ok]) ∧ Pl w0 u' p q a L a' L' PB ∧ Kp (fun t => ¬ PB t) u u' := by
  have H := h
  obtain ⟨FP, g, h1, h2, h3, h4, h5, h6, h7⟩ := h.mem
  rcases hp with ⟨rfl, rfl, rfl, rfl, rfl, rfl⟩ | ⟨m, hf, rfl, rfl, rfl⟩
  · refine (rpop_no h2).mono ?_
    rintro e u' ⟨rfl, rfl⟩
    exact ⟨rfl, H, Kp.refl _ _⟩
  · refine (rpop_yes h2 hf hL).mono ?_
    rintro e u' ⟨rfl, ⟨g', hr, hg⟩, hk⟩
    exact ⟨rfl, ⟨⟨FP, g', h1.kp hk (fun t ht e => h3 (by rw [← e]; exact ht)), hr, h3, fun t ht => ⟨fun hc => by have := h1.lt t hc; have := hg t ht; omega, fun hc => by have := h.pb t hc; have := hg t ht; omega⟩, h5, h6, h7⟩, fun t ht => Nat.lt_of_lt_of_le (h.pb t ht) hk.size, hk.gr h.g (fun t ht => by rw [ht]; exact h6)⟩, hk.mono fun t ht => by rw [ht]; exact h7⟩

/-- may an empty ring go on there? -/
def inJ (a : Int) (L : List (Int × Int)) (k : Int) : Bool := decide (L.length = 0) && (decide (a ≤ k) && decide (k ≤ 1099511627776))
def jmp (a : Int) (L : List (Int × Int)) (k : Int) : Int := if inJ a L k then k else a
theorem jmp_bd {B : Int} (h0 : 0 ≤ a) (h1 : a ≤ B) (h2 : 1099511627776 ≤ B) (k : Int) : 0 ≤ jmp a L k ∧ jmp a L k ≤ B := by
  unfold jmp
  split
  · rename_i h
    simp only [inJ, Bool.and_eq_true, decide_eq_true_eq] at h
    omega
  · omega
theorem ljump (h : Pl w0 u p q a L b M PB) (k : Int) :
    Calls Try.prog 15 #[.pointer (some ⟨p, 0, none⟩), .int .i64 k] u fun e u' => e = .returned (.bool (inJ a L k)) ∧ Pl w0 u' p q (jmp a L k) L b M PB ∧ Kp (fun t => ¬ PB t) u u' := by
  have H := h
  obtain ⟨FP, g, h1, h2, h3, h4, h5, h6, h7⟩ := h.mem
  unfold jmp
  by_cases c : inJ a L k = true
  · rw [c]
    simp only [inJ, Bool.and_eq_true, decide_eq_true_eq] at c
    obtain ⟨c0, c1, c2⟩ := c
    obtain rfl : L = [] := List.eq_nil_of_length_eq_zero c0
    refine (qjump_yes h1 k c1 c2).mono ?_
    rintro e u' ⟨rfl, hr, hk⟩
    exact ⟨rfl, ⟨⟨FP, g, hr, h2.kp hk h3 (fun t ht => (h4 t ht).1), h3, h4, h5, h6, h7⟩, fun t ht => Nat.lt_of_lt_of_le (h.pb t ht) hk.size, hk.gr h.g (fun t ht => (h5 t ht).1)⟩, hk.mono fun t ht => (h5 t ht).2⟩
  · have c' : inJ a L k = false := by simpa using c
    rw [c']
    simp only [inJ, Bool.and_eq_true, decide_eq_true_eq, not_and] at c
    by_cases c0 : L.length = 0
    · obtain rfl : L = [] := List.eq_nil_of_length_eq_zero c0
      refine (qjump_no h1 k (by have := c c0; omega)).mono ?_
      rintro e u' ⟨rfl, rfl⟩
      exact ⟨rfl, H, Kp.refl _ _⟩
    · refine (qjump_full h1 k (by omega)).mono ?_
      rintro e u' ⟨rfl, rfl⟩
      exact ⟨rfl, H, Kp.refl _ _⟩
theorem rjump (h : Pl w0 u p q a L b M PB) (k : Int) (hL : M.length ≤ 900000) :
    Calls Try.prog 16 #[.pointer (some ⟨q, 0, none⟩), .int .i64 k] u fun e u' => e = .returned (.bool (inJ b M k)) ∧ Pl w0 u' p q a L (jmp b M k) M PB ∧ Kp (fun t => ¬ PB t) u u' := by
  have H := h
  obtain ⟨FP, g, h1, h2, h3, h4, h5, h6, h7⟩ := h.mem
  unfold jmp
  by_cases c : inJ b M k = true
  · rw [c]
    simp only [inJ, Bool.and_eq_true, decide_eq_true_eq] at c
    obtain ⟨c0, c1, c2⟩ := c
    obtain rfl : M = [] := List.eq_nil_of_length_eq_zero c0
    refine (rjump_yes h2 k c1 c2).mono ?_
    rintro e u' ⟨rfl, hr, hk⟩
    exact ⟨rfl, ⟨⟨FP, g, h1.kp hk (fun t ht e => h3 (by rw [← e]; exact ht)), hr, h3, h4, h5, h6, h7⟩, fun t ht => Nat.lt_of_lt_of_le (h.pb t ht) hk.size, hk.gr h.g (fun t ht => by rw [ht]; exact h6)⟩, hk.mono fun t ht => by rw [ht]; exact h7⟩
  · have c' : inJ b M k = false := by simpa using c
    rw [c']
    simp only [inJ, Bool.and_eq_true, decide_eq_true_eq, not_and] at c
    refine (rjump_no h2 k (by by_cases c0 : M.length = 0; (have := c c0; omega); omega) hL).mono ?_
    rintro e u' ⟨rfl, rfl⟩
    exact ⟨rfl, H, Kp.refl _ _⟩
theorem lat (h : Pl w0 u p q a L b M PB) : Calls Try.prog 17 #[.pointer (some ⟨p, 0, none⟩)] u fun e u' => e = .returned (.int .i64 a) ∧ u' = u := by
  obtain ⟨FP, g, h1, -⟩ := h.mem
  exact qat_any h1
theorem llen (h : Pl w0 u p q a L b M PB) : Calls Try.prog 18 #[.pointer (some ⟨p, 0, none⟩)] u fun e u' => e = .returned (.int .i64 (L.length : Int)) ∧ u' = u := by
  obtain ⟨FP, g, h1, -⟩ := h.mem
  exact qlen_any h1
end Go.Proofs.Ytjnoklfmdckidaa
