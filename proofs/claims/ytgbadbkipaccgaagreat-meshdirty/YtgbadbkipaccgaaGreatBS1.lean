/- Which of two seeds is ahead: the program's compare and the document's before. No condition. -/
import Derived.Test.YtgbadbkipaccgaaGreatProg
import Derived.Lib.SlicesCompact
import Derived.Test.YtgbadbkipaccgaaGreatBT
import Derived.Laws.AppendOwnNone
import Derived.Sort.Grow
import Derived.Deep.RegionHeld3
import Derived.Deep.CutRange
namespace Go.Proofs.YtgbadbkipaccgaaGreat
open Go.RowKit
set_option maxRecDepth 20000

/-- a seed: its cell, its side, its key -/
abbrev Sd := Int × Int × Int
/-- which of two numbers is less, as -1, 0, 1 -/
def cmpI (x y : Int) : Int := if x < y then -1 else if y < x then 1 else 0
/-- which of two seeds is ahead -/
def cmpS (x y : Sd) : Int := if cmpI x.2.2 y.2.2 ≠ 0 then cmpI x.2.2 y.2.2 else if cmpI x.1 y.1 ≠ 0 then cmpI x.1 y.1 else cmpI x.2.1 y.2.1
/-- x is ahead of y -/
def ltS (x y : Sd) : Bool := decide (x.2.2 < y.2.2 ∨ x.2.2 = y.2.2 ∧ (x.1 < y.1 ∨ x.1 = y.1 ∧ x.2.1 < y.2.1))
theorem ltS_iff (x y : Sd) : ltS x y = true ↔ x.2.2 < y.2.2 ∨ x.2.2 = y.2.2 ∧ (x.1 < y.1 ∨ x.1 = y.1 ∧ x.2.1 < y.2.1) := by simp [ltS]
theorem ltS_no (x y : Sd) : ltS x y = false ↔ ¬ (x.2.2 < y.2.2 ∨ x.2.2 = y.2.2 ∧ (x.1 < y.1 ∨ x.1 = y.1 ∧ x.2.1 < y.2.1)) := by rw [← ltS_iff]; simp
theorem cmpS_lt (x y : Sd) : (fun x y => decide (cmpS x y < 0)) x y = ltS x y := by
  show decide (cmpS x y < 0) = _
  unfold ltS
  rw [decide_eq_decide]
  unfold cmpS cmpI
  split <;> split <;> (try split) <;> (try split) <;> (try split) <;> (try split) <;> omega
theorem ltS_irr (x : Sd) : ltS x x = false := by rw [ltS_no]; omega
theorem ltS_trans {x y z : Sd} (h : ltS x y = true) (g : ltS y z = true) : ltS x z = true := by
  rw [ltS_iff] at *
  omega
theorem ltS_total (x y : Sd) (h : ltS x y = false) (g : ltS y x = false) : x = y := by
  rw [ltS_no] at *
  obtain ⟨a, b, c⟩ := x
  obtain ⟨d, e, f⟩ := y
  simp only [Prod.mk.injEq] at *
  omega
theorem ltS_asym {x y : Sd} (h : ltS x y = true) : ltS y x = false := by
  rw [ltS_no]; rw [ltS_iff] at h
  omega

/-- each ahead of all behind it -/
def Rise (l : List Sd) : Prop := l.Pairwise fun x y => ltS x y = true
/-- lists that rise and hold the same are one -/
theorem rise_unique : ∀ {l m : List Sd}, Rise l → Rise m → (∀ x, x ∈ l ↔ x ∈ m) → l = m
  | [], [], _, _, _ => rfl
  | [], y :: m, _, _, h => absurd ((h y).2 (.head _)) (by simp)
  | x :: l, [], _, _, h => absurd ((h x).1 (.head _)) (by simp)
  | x :: l, y :: m, hl, hm, h => by
    obtain ⟨h1, h2⟩ := List.pairwise_cons.1 hl
    obtain ⟨g1, g2⟩ := List.pairwise_cons.1 hm
    have e : x = y := by
      rcases List.mem_cons.1 ((h x).1 (.head _)) with e | e
      · exact e
      · rcases List.mem_cons.1 ((h y).2 (.head _)) with e' | e'
        · exact e'.symm
        · have := ltS_asym (g1 x e)
          rw [h1 y e'] at this
          cases this
    subst e
    congr 1
    refine rise_unique h2 g2 fun z => ?_
    constructor
    · intro hz
      rcases List.mem_cons.1 ((h z).1 (.tail _ hz)) with e | e
      · subst e
        have := h1 z hz
        rw [ltS_irr] at this
        cases this
      · exact e
    · intro hz
      rcases List.mem_cons.1 ((h z).2 (.tail _ hz)) with e | e
      · subst e
        have := g1 z hz
        rw [ltS_irr] at this
        cases this
      · exact e

/-- sorted by the order, those that are alike each kept -/
def mrg (l : List Sd) : List Sd := l.mergeSort fun x y => !ltS y x
theorem mrg_mem (l : List Sd) (x : Sd) : x ∈ mrg l ↔ x ∈ l := List.mem_mergeSort
theorem mrg_len (l : List Sd) : (mrg l).length = l.length := List.length_mergeSort l
theorem mrg_up (l : List Sd) : (mrg l).Pairwise fun x y => ltS y x = false := by
  have h := List.pairwise_mergeSort (le := fun x y => !ltS y x) (l := l) ?_ ?_
  · exact h.imp fun {a b} hab => by simpa using hab
  · intro a b c h1 h2
    simp only [Bool.not_eq_true', ltS_no] at *
    omega
  · intro a b
    cases h : ltS b a with
    | false => simp
    | true => simp [ltS_asym h]

/-- of neighbours that are alike one -/
def cpt : List Sd → List Sd
  | [] => []
  | [x] => [x]
  | x :: y :: l => if x = y then cpt (y :: l) else x :: cpt (y :: l)
theorem cpt_mem : ∀ (l : List Sd) (x : Sd), x ∈ cpt l ↔ x ∈ l
  | [], _ => Iff.rfl
  | [_], _ => Iff.rfl
  | y :: z :: l, x => by
    unfold cpt
    split
    · rename_i e
      rw [cpt_mem (z :: l) x]
      subst e
      simp
    · simp only [List.mem_cons, cpt_mem (z :: l) x]
theorem cpt_rise : ∀ l : List Sd, (l.Pairwise fun x y => ltS y x = false) → Rise (cpt l)
  | [], _ => List.Pairwise.nil
  | [x], _ => List.pairwise_singleton _ _
  | x :: y :: l, h => by
    obtain ⟨h1, h2⟩ := List.pairwise_cons.1 h
    unfold cpt
    split
    · exact cpt_rise (y :: l) h2
    · rename_i ne
      refine List.pairwise_cons.2 ⟨fun z hz => ?_, cpt_rise (y :: l) h2⟩
      rw [cpt_mem] at hz
      cases e : ltS x z with
      | true => rfl
      | false =>
        have hzx := h1 z hz
        have := ltS_total x z e hzx
        subst this
        rcases List.mem_cons.1 hz with e' | e'
        · exact absurd e' ne
        · have g1 := (List.pairwise_cons.1 h2).1 x e'
          exact absurd (ltS_total x y g1 (h1 y (.head _))) ne
/-- the sorted list, each once -/
def srt (l : List Sd) : List Sd := cpt (mrg l)
theorem srt_mem (l : List Sd) (x : Sd) : x ∈ srt l ↔ x ∈ l := by rw [srt, cpt_mem, mrg_mem]
theorem srt_rise (l : List Sd) : Rise (srt l) := cpt_rise _ (mrg_up l)
theorem srt_of_rise {l m : List Sd} (h : Rise m) (hm : ∀ x, x ∈ m ↔ x ∈ l) : srt l = m := rise_unique (srt_rise l) h fun x => by rw [srt_mem, hm]
theorem srt_congr {l m : List Sd} (h : ∀ x, x ∈ l ↔ x ∈ m) : srt l = srt m := srt_of_rise (srt_rise m) fun x => by rw [srt_mem, h]
theorem srt_srt (l : List Sd) : srt (srt l) = srt l := srt_of_rise (srt_rise l) fun _ => Iff.rfl
/-- the library's word for it -/
theorem compact_srt (l : List Sd) : Lib.compactUpTo (mrg l).toArray (mrg l).toArray.size = srt l := by
  have hu := List.pairwise_iff_getElem.1 (mrg_up l)
  generalize hd : (mrg l).toArray = d
  have hsz : d.size = (mrg l).length := by rw [← hd]; simp
  have hg : ∀ i j, i < j → j < d.size → ltS d[j]! d[i]! = false := by
    intro i j hij hj
    subst hd
    have := hu i j (by omega) (by omega) hij
    simpa [getElem!_pos, show i < (mrg l).length by omega, show j < (mrg l).length by omega] using this
  have key : ∀ m, m ≤ d.size → Rise (Lib.compactUpTo d m) ∧ ∀ x, x ∈ Lib.compactUpTo d m ↔ ∃ j, j < m ∧ d[j]! = x := by
    intro m
    induction m with
    | zero => intro _; exact ⟨List.Pairwise.nil, fun x => ⟨fun h => by simp [Lib.compactUpTo] at h, fun ⟨j, h, _⟩ => absurd h (Nat.not_lt_zero _)⟩⟩
    | succ m ih =>
      intro hm
      obtain ⟨h1, h2⟩ := ih (by omega)
      rw [Lib.compactUpTo_succ]
      by_cases hk : Lib.keeps d m = true
      · rw [if_pos hk]
        have hk' : m = 0 ∨ d[m]! ≠ d[m - 1]! := by simpa [Lib.keeps] using hk
        refine ⟨List.pairwise_append.2 ⟨h1, List.pairwise_singleton _ _, fun x hx y hy => ?_⟩, fun x => ?_⟩
        · have hy' : y = d[m]! := by simpa using hy
          subst hy'
          obtain ⟨j, hj, rfl⟩ := (h2 x).1 hx
          cases e : ltS d[j]! d[m]! with
          | true => rfl
          | false =>
            have e2 := ltS_total _ _ e (hg j m hj (by omega))
            rcases hk' with h0 | hne
            · omega
            · refine absurd (ltS_total _ _ (hg (m - 1) m (by omega) (by omega)) ?_) hne
              rcases Nat.lt_or_ge j (m - 1) with c | c
              · rw [← e2]; exact hg j (m - 1) c (by omega)
              · have : j = m - 1 := by omega
                rw [← this, e2, ltS_irr]
        · rw [List.mem_append, h2 x]
          constructor
          · rintro (⟨j, hj, e⟩ | hx)
            · exact ⟨j, by omega, e⟩
            · exact ⟨m, by omega, by simpa using Eq.symm (by simpa using hx)⟩
          · rintro ⟨j, hj, e⟩
            by_cases c : j = m
            · subst c; exact .inr (by simp [e])
            · exact .inl ⟨j, by omega, e⟩
      · have hk2 : Lib.keeps d m = false := by simpa using hk
        have hk' : m ≠ 0 ∧ d[m]! = d[m - 1]! := by simpa [Lib.keeps] using hk2
        rw [hk2]
        simp only [Bool.false_eq_true, if_false, List.append_nil]
        refine ⟨h1, fun x => ?_⟩
        rw [h2 x]
        constructor
        · rintro ⟨j, hj, e⟩; exact ⟨j, by omega, e⟩
        · rintro ⟨j, hj, e⟩
          by_cases c : j = m
          · subst c; exact ⟨j - 1, by omega, by rw [← hk'.2, e]⟩
          · exact ⟨j, by omega, e⟩
  obtain ⟨h1, h2⟩ := key d.size (Nat.le_refl _)
  refine (srt_of_rise h1 fun x => ?_).symm
  rw [h2 x, ← mrg_mem l x, List.mem_iff_getElem]
  subst hd
  constructor
  · rintro ⟨j, hj, e⟩
    have hj' : j < (mrg l).length := by simpa using hj
    exact ⟨j, hj', by simpa [getElem!_pos, hj'] using e⟩
  · rintro ⟨j, hj, e⟩
    exact ⟨j, by simpa using hj, by simpa [getElem!_pos, hj] using e⟩
theorem cpt_len : ∀ l : List Sd, (cpt l).length ≤ l.length
  | [] => Nat.le_refl _
  | [_] => Nat.le_refl _
  | x :: y :: l => by
    have := cpt_len (y :: l)
    unfold cpt
    split
    · simp only [List.length_cons] at *; omega
    · simp only [List.length_cons] at *; omega
theorem srt_len (l : List Sd) : (srt l).length ≤ l.length := Nat.le_trans (cpt_len _) (Nat.le_of_eq (mrg_len l))

/-- x laid where it belongs in a list that rises: how many are ahead of it -/
def atS (m : List Sd) (x : Sd) : Nat := (m.takeWhile fun y => ltS y x).length
def insS (m : List Sd) (x : Sd) : List Sd := if x ∈ m then m else m.take (atS m x) ++ x :: m.drop (atS m x)

theorem ins_mem (m : List Sd) (x y : Sd) : y ∈ insS m x ↔ y ∈ m ∨ y = x := by
  unfold insS
  split
  · rename_i h
    constructor
    · exact .inl
    · rintro (h' | rfl)
      · exact h'
      · exact h
  · have e := List.take_append_drop (atS m x) m
    rw [List.mem_append, List.mem_cons]
    have : y ∈ m ↔ y ∈ m.take (atS m x) ∨ y ∈ m.drop (atS m x) := by rw [← List.mem_append, e]
    rw [this]
    constructor
    · rintro (h | h | h)
      · exact .inl (.inl h)
      · exact .inr h
      · exact .inl (.inr h)
    · rintro ((h | h) | h)
      · exact .inl h
      · exact .inr (.inr h)
      · exact .inr (.inl h)
theorem take_atS (m : List Sd) (x : Sd) : m.take (atS m x) = m.takeWhile fun y => ltS y x := by
  unfold atS
  induction m with
  | nil => rfl
  | cons y m ih =>
    rw [List.takeWhile_cons]
    split
    · simp [ih]
    · rfl
theorem drop_atS (m : List Sd) (x : Sd) : m.drop (atS m x) = m.dropWhile fun y => ltS y x := by
  unfold atS
  induction m with
  | nil => rfl
  | cons y m ih =>
    rw [List.takeWhile_cons, List.dropWhile_cons]
    split
    · simp [ih]
    · rfl
theorem ins_rise {m : List Sd} (h : Rise m) (x : Sd) : Rise (insS m x) := by
  unfold insS
  split
  · exact h
  · rename_i nx
    rw [take_atS, drop_atS]
    induction m with
    | nil => exact List.pairwise_singleton _ _
    | cons y m ih =>
      obtain ⟨h1, h2⟩ := List.pairwise_cons.1 h
      rw [List.takeWhile_cons, List.dropWhile_cons]
      have nx' : x ∉ m := fun e => nx (.tail _ e)
      split
      · rename_i hy
        rw [List.cons_append]
        refine List.pairwise_cons.2 ⟨fun z hz => ?_, ih h2 nx'⟩
        rcases List.mem_append.1 hz with hz | hz
        · exact h1 z (List.takeWhile_subset _ hz)
        · rcases List.mem_cons.1 hz with rfl | hz
          · exact hy
          · exact h1 z (List.dropWhile_subset _ hz)
      · rename_i hy
        have hxy : ltS x y = true := by
          cases e : ltS x y with
          | true => rfl
          | false => exact absurd (ltS_total x y e (by simpa using hy)) (fun e => nx (e ▸ .head _))
        refine List.pairwise_cons.2 ⟨fun z hz => ?_, h⟩
        rcases List.mem_cons.1 hz with rfl | hz
        · exact hxy
        · exact ltS_trans hxy (h1 z hz)
/-- the document's way: one laid behind the other -/
def insAll (l : List Sd) : List Sd := l.foldl insS []
theorem insAll_snoc (l : List Sd) (x : Sd) : insAll (l ++ [x]) = insS (insAll l) x := by simp [insAll]
theorem foldl_ins : ∀ (l m : List Sd), Rise m → Rise (l.foldl insS m) ∧ ∀ x, x ∈ l.foldl insS m ↔ x ∈ m ∨ x ∈ l
  | [], m, h => ⟨h, fun x => by simp⟩
  | y :: l, m, h => by
    obtain ⟨h1, h2⟩ := foldl_ins l (insS m y) (ins_rise h y)
    refine ⟨h1, fun x => ?_⟩
    rw [List.foldl_cons, h2 x, ins_mem, List.mem_cons, or_assoc]
theorem insAll_srt (l : List Sd) : insAll l = srt l := ((srt_of_rise (foldl_ins l [] List.Pairwise.nil).1 fun x => by rw [(foldl_ins l [] List.Pairwise.nil).2 x]; simp).symm)
theorem insAll_rise (l : List Sd) : Rise (insAll l) := (foldl_ins l [] List.Pairwise.nil).1
/-- where the search ends, it is there or it is not -/
theorem atS_le (m : List Sd) (x : Sd) : atS m x ≤ m.length := by
  unfold atS
  exact (List.takeWhile_sublist _).length_le
theorem atS_lt {m : List Sd} {x : Sd} {i : Nat} {y : Sd} (h : i < atS m x) (hy : m[i]? = some y) : ltS y x = true := by
  have h1 : (m.takeWhile fun y => ltS y x)[i]? = some y := by rw [← take_atS, List.getElem?_take_of_lt h]; exact hy
  exact List.all_eq_true.1 (List.all_takeWhile (p := fun y => ltS y x) (l := m)) y (List.mem_of_getElem? h1)
theorem atS_stop {m : List Sd} {x : Sd} {y : Sd} (hy : m[atS m x]? = some y) : ltS y x = false := by
  have h1 : (m.dropWhile fun y => ltS y x)[0]? = some y := by rw [← drop_atS, List.getElem?_drop]; simpa using hy
  cases e : (m.dropWhile fun y => ltS y x) with
  | nil => rw [e] at h1; simp at h1
  | cons z l =>
    rw [e] at h1
    simp only [List.getElem?_cons_zero, Option.some.injEq] at h1
    subst h1
    have := List.head?_dropWhile_not (fun y => ltS y x) m
    rw [e] at this
    simpa using this
theorem atS_eq {m : List Sd} {x : Sd} {i : Nat} (h : ∀ j y, j < i → m[j]? = some y → ltS y x = true) (g : ∀ y, m[i]? = some y → ltS y x = false) (hi : i ≤ m.length) : atS m x = i := by
  have h1 := atS_le m x
  rcases Nat.lt_trichotomy (atS m x) i with c | c | c
  · have hl : atS m x < m.length := by omega
    have e : m[atS m x]? = some m[atS m x] := List.getElem?_eq_getElem hl
    have := atS_stop e
    rw [h _ _ c e] at this
    cases this
  · exact c
  · have hl : i < m.length := by omega
    have e : m[i]? = some m[i] := List.getElem?_eq_getElem hl
    have := atS_lt c e
    rw [g _ e] at this
    cases this
theorem ins_there {m : List Sd} {x : Sd} (h : m[atS m x]? = some x) : insS m x = m := by
  unfold insS
  rw [if_pos (List.mem_of_getElem? h)]
theorem ins_not {m : List Sd} (hr : Rise m) {x : Sd} (h : m[atS m x]? ≠ some x) : insS m x = m.take (atS m x) ++ x :: m.drop (atS m x) := by
  unfold insS
  rw [if_neg ?_]
  intro hx
  obtain ⟨j, hj⟩ := List.mem_iff_getElem?.1 hx
  rcases Nat.lt_trichotomy j (atS m x) with c | c | c
  · have := atS_lt c hj
    rw [ltS_irr] at this
    cases this
  · subst c; exact h hj
  · have hl : j < m.length := (List.getElem?_eq_some_iff.1 hj).1
    have hl' : atS m x < m.length := by omega
    have e : m[atS m x]? = some m[atS m x] := List.getElem?_eq_getElem hl'
    have h1 := atS_stop e
    have h2 := (List.pairwise_iff_getElem.1 hr) (atS m x) j hl' hl c
    have e2 : m[j] = x := (List.getElem?_eq_some_iff.1 hj).2
    rw [e2, h1] at h2
    cases h2

/-- the least key by that cell and side, and whether there is one -/
def bstep (c s : Int) (a : Int × Bool) (x : Sd) : Int × Bool := if x.1 = c ∧ x.2.1 = s ∧ (a.2 = false ∨ x.2.2 < a.1) then (x.2.2, true) else a
def bst (inf : Int) (c s : Int) (l : List Sd) : Int × Bool := l.foldl (bstep c s) (inf, false)
theorem bst_snoc (inf c s : Int) (l : List Sd) (x : Sd) : bst inf c s (l ++ [x]) = bstep c s (bst inf c s l) x := by simp [bst]
theorem bst_of (inf c s : Int) : ∀ l : List Sd, ((bst inf c s l).2 = false → (bst inf c s l).1 = inf ∧ ∀ x, x ∈ l → ¬ (x.1 = c ∧ x.2.1 = s)) ∧
    ((bst inf c s l).2 = true → (∃ x, x ∈ l ∧ x.1 = c ∧ x.2.1 = s ∧ x.2.2 = (bst inf c s l).1) ∧ ∀ x, x ∈ l → x.1 = c → x.2.1 = s → (bst inf c s l).1 ≤ x.2.2) := by
  intro l
  induction hl : l.length generalizing l with
  | zero =>
    have : l = [] := List.eq_nil_of_length_eq_zero hl
    subst this
    exact ⟨fun _ => ⟨rfl, fun x hx => by cases hx⟩, fun h => by cases h⟩
  | succ n ih =>
    obtain ⟨m, x, rfl⟩ : ∃ m x, l = m ++ [x] := by
      refine ⟨l.dropLast, l.getLast (by intro e; subst e; cases hl), (List.dropLast_concat_getLast _).symm⟩
    have hm : m.length = n := by simpa using hl
    obtain ⟨i1, i2⟩ := ih m hm
    rw [bst_snoc]
    generalize bst inf c s m = r at i1 i2
    obtain ⟨v, b⟩ := r
    unfold bstep
    simp only at *
    split
    · rename_i h
      refine ⟨(fun e => by cases e), fun _ => ⟨⟨x, by simp, h.1, h.2.1, rfl⟩, fun y hy hc hs => ?_⟩⟩
      rcases List.mem_append.1 hy with hy | hy
      · have hh := h.2.2
        cases b with
        | false => exact absurd ⟨hc, hs⟩ ((i1 rfl).2 y hy)
        | true =>
          have hlt : x.2.2 < v := hh.resolve_left (fun e => by cases e)
          have := (i2 rfl).2 y hy hc hs
          omega
      · have : y = x := by simpa using hy
        subst this
        exact Int.le_refl _
    · rename_i h
      refine ⟨fun e => ⟨(i1 e).1, fun y hy => ?_⟩, fun e => ⟨?_, fun y hy hc hs => ?_⟩⟩
      · rcases List.mem_append.1 hy with hy | hy
        · exact (i1 e).2 y hy
        · have : y = x := by simpa using hy
          subst this
          exact fun k => h ⟨k.1, k.2, .inl e⟩
      · obtain ⟨y, hy, k⟩ := (i2 e).1
        exact ⟨y, List.mem_append.2 (.inl hy), k⟩
      · rcases List.mem_append.1 hy with hy | hy
        · exact (i2 e).2 y hy hc hs
        · have : y = x := by simpa using hy
          subst this
          by_cases k : y.2.2 < v
          · exact absurd ⟨hc, hs, .inr k⟩ h
          · simp only; omega
theorem bst_congr (inf c s : Int) {l m : List Sd} (h : ∀ x, x ∈ l ↔ x ∈ m) : (bst inf c s l).1 = (bst inf c s m).1 := by
  obtain ⟨h1, h2⟩ := bst_of inf c s l
  obtain ⟨g1, g2⟩ := bst_of inf c s m
  cases e1 : (bst inf c s l).2 with
  | false =>
    cases e2 : (bst inf c s m).2 with
    | false => rw [(h1 e1).1, (g1 e2).1]
    | true =>
      obtain ⟨x, hx, k1, k2, _⟩ := (g2 e2).1
      exact absurd ⟨k1, k2⟩ ((h1 e1).2 x ((h x).2 hx))
  | true =>
    obtain ⟨x, hx, k1, k2, k3⟩ := (h2 e1).1
    cases e2 : (bst inf c s m).2 with
    | false => exact absurd ⟨k1, k2⟩ ((g1 e2).2 x ((h x).1 hx))
    | true =>
      obtain ⟨y, hy, j1, j2, j3⟩ := (g2 e2).1
      have a := (h2 e1).2 y ((h y).2 hy) j1 j2
      have b := (g2 e2).2 x ((h x).1 hx) k1 k2
      omega
theorem bst_srt (inf c s : Int) (l : List Sd) : (bst inf c s (srt l)).1 = (bst inf c s l).1 := bst_congr inf c s fun x => srt_mem l x

theorem info_seed : (Tryz.prog.info? 87).map (fun i => (i.zero, i.size, i.bytes)) = some (some (.agg #[.int .i64 0, .int .i64 0, .int .i64 0]), 3, 24) := by kernel_rfl
/-- a seed's cells -/
def encS (x : Sd) : List Value := [.int .i64 x.1, .int .i64 x.2.1, .int .i64 x.2.2]
/-- seeds as cells -/
def flatS (L : List Sd) : List Value := L.flatMap encS
theorem flatS_nil : flatS [] = [] := rfl
theorem flatS_app (L M : List Sd) : flatS (L ++ M) = flatS L ++ flatS M := by simp [flatS]
theorem flatS_cons (e : Sd) (L : List Sd) : flatS (e :: L) = .int .i64 e.1 :: .int .i64 e.2.1 :: .int .i64 e.2.2 :: flatS L := rfl
theorem flatS_len : ∀ L : List Sd, (flatS L).length = L.length * 3
  | [] => rfl
  | e :: L => by rw [flatS_cons, List.length_cons, List.length_cons, List.length_cons, flatS_len L, List.length_cons]; omega
theorem flatS_one (L : List Sd) : ∀ u ∈ flatS L, u.oneCell' = true := by
  intro u hu
  obtain ⟨e, _, h⟩ := List.mem_flatMap.1 hu
  rcases List.mem_cons.1 h with rfl | h
  · rfl
  · rcases List.mem_cons.1 h with rfl | h
    · rfl
    · rcases List.mem_cons.1 h with rfl | h
      · rfl
      · cases h
theorem flatS_get : ∀ (L : List Sd) (i : Nat) (e : Sd), L[i]? = some e → (flatS L)[i * 3]? = some (.int .i64 e.1) ∧ (flatS L)[i * 3 + 1]? = some (.int .i64 e.2.1) ∧ (flatS L)[i * 3 + 2]? = some (.int .i64 e.2.2)
  | [], i, e, h => by simp at h
  | f :: L, 0, e, h => by
    simp only [List.getElem?_cons_zero, Option.some.injEq] at h
    subst h
    exact ⟨rfl, rfl, rfl⟩
  | f :: L, i + 1, e, h => by
    have := flatS_get L i e (by simpa using h)
    rw [flatS_cons, show (i + 1) * 3 = i * 3 + 1 + 1 + 1 by omega]
    exact this
theorem flatS_pre {L M : List Sd} (h : ∃ K, L = M ++ K) {j : Nat} {u : Value} (hj : (flatS M)[j]? = some u) : (flatS L)[j]? = some u := by
  obtain ⟨K, rfl⟩ := h
  rw [flatS_app, List.getElem?_append_left (List.getElem?_eq_some_iff.1 hj).1]
  exact hj
/-- the i-th seed -/
def el (L : List Sd) (i : Nat) : Sd := L.getD i (0, 0, 0)
theorem el_get? {L : List Sd} {i : Nat} (h : i < L.length) : L[i]? = some (el L i) := by simp [el, h]
theorem el_getElem {L : List Sd} {i : Nat} (h : i < L.length) : L[i] = el L i := by simp [el, h]
theorem el_of {L : List Sd} {i : Nat} {x : Sd} (h : L[i]? = some x) : el L i = x := by simp [el, h]
theorem el_mem {L : List Sd} {i : Nat} (h : i < L.length) : el L i ∈ L := List.mem_of_getElem? (el_get? h)
theorem mem_el {L : List Sd} {x : Sd} (h : x ∈ L) : ∃ i, i < L.length ∧ el L i = x := by
  obtain ⟨i, hi⟩ := List.mem_iff_getElem?.1 h
  exact ⟨i, (List.getElem?_eq_some_iff.1 hi).1, el_of hi⟩
theorem take_el {L : List Sd} {i : Nat} (h : i < L.length) : L.take (i + 1) = L.take i ++ [el L i] := by
  rw [List.take_add_one, el_get? h]
  rfl
theorem el_take {L : List Sd} {i n : Nat} (h : i < n) : el (L.take n) i = el L i := by simp [el, List.getD, h]

/-- the slice at a, of n seeds, with room for c, holds L -/
def SlS (w : World) (a : Option Addr) (n c : Nat) (L : List Sd) : Prop :=
  (a = none ∧ n = 0 ∧ c = 0 ∧ L = []) ∨ ∃ x, a = some x ∧ L.length = n ∧ n ≤ c ∧ c ≤ maxLen ∧ (n = 0 ∨ ∃ b o, x = ⟨b, o, none⟩ ∧ b < w.heap.size ∧ ∀ j u, (flatS L)[j]? = some u → w.cell? ⟨b, o + j, none⟩ = some u)
theorem SlS.len {w : World} {a : Option Addr} {n c : Nat} {L : List Sd} (h : SlS w a n c L) : L.length = n ∧ n ≤ c ∧ c ≤ maxLen := by
  rcases h with ⟨_, rfl, rfl, rfl⟩ | ⟨x, _, h1, h2, h3, _⟩
  · exact ⟨rfl, Nat.le_refl _, Nat.zero_le _⟩
  · exact ⟨h1, h2, h3⟩
theorem SlS.gr {w w' : World} {a : Option Addr} {n c : Nat} {L : List Sd} (h : SlS w a n c L) (k : Gr w w') : SlS w' a n c L := by
  rcases h with h | ⟨x, h0, h1, h2, h3, h4⟩
  · exact .inl h
  · refine .inr ⟨x, h0, h1, h2, h3, ?_⟩
    rcases h4 with h4 | ⟨b, o, e, hb, hc⟩
    · exact .inl h4
    · exact .inr ⟨b, o, e, Nat.lt_of_lt_of_le hb k.size, fun j u hu => cell_gr (hc j u hu) k⟩
/-- its seeds' cells -/
theorem SlS.at {w : World} {a : Option Addr} {n c : Nat} {L : List Sd} (h : SlS w a n c L) (hn : 0 < n) : ∃ b o, a = some ⟨b, o, none⟩ ∧ b < w.heap.size ∧
    ∀ i, i < n → w.cell? ⟨b, o + i * 3, none⟩ = some (.int .i64 (el L i).1) ∧ w.cell? ⟨b, o + i * 3 + 1, none⟩ = some (.int .i64 (el L i).2.1) ∧ w.cell? ⟨b, o + i * 3 + 2, none⟩ = some (.int .i64 (el L i).2.2) := by
  have hl := h.len.1
  rcases h with ⟨_, rfl, _, _⟩ | ⟨x, rfl, h1, h2, h3, h4 | ⟨b, o, rfl, hb, hc⟩⟩
  · omega
  · omega
  · refine ⟨b, o, rfl, hb, fun i hi => ?_⟩
    obtain ⟨e1, e2, e3⟩ := flatS_get L i (el L i) (el_get? (by omega))
    have := hc _ _ e1; have g2 := hc _ _ e2; have g3 := hc _ _ e3
    rw [← Nat.add_assoc] at g2 g3
    exact ⟨this, g2, g3⟩
theorem SlS.of_own {w : World} {base : Nat} {v : Value} {n : Nat} {L : List Sd} (h : w.ownsRow base 87 3 v n (flatS L)) (hn : L.length = n) : ∃ a c, v = .slice a n c ∧ SlS w a n c L := by
  rcases h.2 with ⟨rfl, h0⟩ | ⟨g, cap, cur, rfl, hb, hg, h1, h2, h3, h4⟩
  · subst h0
    exact ⟨none, 0, rfl, .inl ⟨rfl, rfl, rfl, List.eq_nil_of_length_eq_zero hn⟩⟩
  · refine ⟨_, cap, rfl, .inr ⟨_, rfl, hn, h1, h2, .inr ⟨g, 0, rfl, (Array.getElem?_eq_some_iff.1 hg).1, fun j u hu => ?_⟩⟩⟩
    rw [Nat.zero_add, cell_of_row w g j cur _ _ hg, ← Array.getElem?_toList]
    rw [← h4, List.getElem?_take] at hu
    by_cases c : j < n * 3
    · rwa [if_pos c] at hu
    · rw [if_neg c] at hu; cases hu
/-- of its first m -/
theorem SlS.take {w : World} {a : Option Addr} {n c m : Nat} {L : List Sd} (h : SlS w a n c L) (hm : m ≤ n) : SlS w a m c (L.take m) := by
  have hl := h.len.1
  rcases h with ⟨h0, rfl, h2, rfl⟩ | ⟨x, h0, h1, h2, h3, h4⟩
  · have : m = 0 := by omega
    subst this
    exact .inl ⟨h0, rfl, h2, rfl⟩
  · refine .inr ⟨x, h0, by rw [List.length_take]; omega, by omega, h3, ?_⟩
    rcases h4 with h4 | ⟨b, o, e, hb, hc⟩
    · exact .inl (by omega)
    · exact .inr ⟨b, o, e, hb, fun j u hu => hc j u (flatS_pre ⟨L.drop m, (List.take_append_drop m L).symm⟩ hu)⟩
/-- from the m-th on -/
theorem flatS_drop (L : List Sd) : ∀ m j, (flatS (L.drop m))[j]? = (flatS L)[m * 3 + j]? := by
  induction L with
  | nil => intro m j; simp [flatS]
  | cons e L ih =>
    intro m j
    cases m with
    | zero => simp
    | succ m =>
      rw [List.drop_succ_cons, ih, flatS_cons, show (m + 1) * 3 + j = m * 3 + j + 1 + 1 + 1 by omega]
      rfl
theorem SlS.drop {w : World} {b o n c m : Nat} {L : List Sd} (h : SlS w (some ⟨b, o, none⟩) n c L) (hm : m ≤ n) : SlS w (some ⟨b, o + m * 3, none⟩) (n - m) (c - m) (L.drop m) := by
  rcases h with ⟨h0, _⟩ | ⟨x, h0, h1, h2, h3, h4⟩
  · cases h0
  · cases h0
    refine .inr ⟨_, rfl, by rw [List.length_drop]; omega, by omega, by omega, ?_⟩
    rcases h4 with h4 | ⟨b', o', e, hb, hc⟩
    · exact .inl (by omega)
    · cases e
      refine .inr ⟨b, _, rfl, hb, fun j u hu => ?_⟩
      rw [flatS_drop] at hu
      rw [Nat.add_assoc]
      exact hc _ _ hu
theorem SlS.addr {w : World} {a : Option Addr} {n c : Nat} {L : List Sd} (h : SlS w a n c L) : (a = none ∧ n = 0 ∧ c = 0 ∧ L = []) ∨ ∃ x, a = some x := by
  rcases h with h | ⟨x, h0, _⟩
  · exact .inl h
  · exact .inr ⟨x, h0⟩
theorem own_gr3 {w w' : World} {base : Nat} {v : Value} {n : Nat} {xs : List Value} (h : w.ownsRow base 87 3 v n xs) (g : Gr w w') : w'.ownsRow base 87 3 v n xs := by
  refine ⟨h.1, ?_⟩
  rcases h.2 with h0 | ⟨b, cap, cur, rfl, hb, hg, r⟩
  · exact .inl h0
  · exact .inr ⟨b, cap, cur, rfl, hb, (Below.block g b (Array.getElem?_eq_some_iff.1 hg).1).trans hg, r⟩
theorem own_base {w : World} {base base' : Nat} {v : Value} {n : Nat} {xs : List Value} (h : w.ownsRow base 87 3 v n xs) (hb : base' ≤ base) : w.ownsRow base' 87 3 v n xs := by
  refine ⟨h.1, ?_⟩
  rcases h.2 with h0 | ⟨b, cap, cur, rfl, h1, r⟩
  · exact .inl h0
  · exact .inr ⟨b, cap, cur, rfl, Nat.le_trans hb h1, r⟩

/-- 'append(s, x...)', s of the call's own -/
theorem wp_seeds {o : Oper} {a : Act} {w : World} {K : Act → World → Prop} {Q : Exit → Act → World → Prop} (s x : Operand) (ho : o.op = Op.call { callee := Callee.builtin Builtin.append, args := #[s, x], argTypes := #[88, 88] })
    (base : Nat) (v : Value) (n : Nat) (xs : List Value) (hs : a.eval s = v) (hown : w.ownsRow base 87 3 v n xs)
    (al : Option Addr) (m c : Nat) (M : List Sd) (hx : a.eval x = .slice al m c) (hit : SlS w al m c M) (hn : n + m ≤ 1000000) {N : Nat} (hN : n + m = N) (hbase : base ≤ w.heap.size)
    (hK : ∀ a' c' w', w'.ownsRow base 87 3 (.slice a' N c') N (xs ++ flatS M) → w.grownBy w' v.ownBlock → K (a.put o.dst (.slice a' N c')) w') :
    Oper.wp Tryz.prog o a w K Q := by
  subst hN
  obtain ⟨i0, hi, hz0, hz1, hz2⟩ := info_parts info_seed
  rcases hit with ⟨rfl, rfl, rfl, rfl⟩ | ⟨y, rfl, hl, _, _, h4⟩
  · have hrun := run_append_owned_none (P := Tryz.prog) (w := w) base 88 o.type 87 i0 3 Tryz.underlying88 hi v n xs hown
    unfold Oper.wp
    simp [execOp, ho, resolve, invoke, builtin, hs, hx, hrun, Result.andThen]
    have hform : ∃ a' c', v = .slice a' n c' := by
      rcases hown.2 with ⟨rfl, rfl⟩ | ⟨g, cap, cur, rfl, _⟩
      · exact ⟨none, 0, rfl⟩
      · exact ⟨_, cap, rfl⟩
    obtain ⟨a', c', rfl⟩ := hform
    exact hK a' c' w (by simpa [flatS] using hown) ⟨rfl, rfl, rfl, Nat.le_refl _, fun _ _ _ => rfl⟩
  · refine wp_append_own w s x 88 ho base 87 i0 (.agg #[.int .i64 0, .int .i64 0, .int .i64 0]) 3 24 Tryz.underlying88 hi hz0 hz1 hz2 rfl (by decide) v n xs hs hown y m c (flatS M) hx (by rw [flatS_len, hl]) ?_ (flatS_one M) (by unfold maxLen; omega) (by omega) hbase ?_
    · intro j u hu
      rcases h4 with h4 | ⟨b, off, rfl, hb, hc⟩
      · have : M = [] := List.eq_nil_of_length_eq_zero (by omega)
        subst this
        cases hu
      · have := hc j u hu
        by_cases hj : j = 0
        · subst hj; simpa [Addr.add] using this
        · simpa [Addr.add, hj] using this
    · intro v' w' h2 h3 _
      have hform : ∃ a' c', v' = .slice a' (n + m) c' := by
        rcases h2.2 with ⟨rfl, e⟩ | ⟨g, cap, cur, rfl, _⟩
        · exact ⟨none, 0, by rw [e]⟩
        · exact ⟨_, cap, rfl⟩
      obtain ⟨a', c', rfl⟩ := hform
      exact hK a' c' w' h2 h3
theorem wpList_seeds {ops : Array Oper} {rest : List Oper} {o : Oper} {a : Act} {w : World} {Q : Exit → Act → World → Prop} (hgd : o.guard = none) (s x : Operand) (ho : o.op = Op.call { callee := Callee.builtin Builtin.append, args := #[s, x], argTypes := #[88, 88] })
    (base : Nat) (v : Value) (n : Nat) (xs : List Value) (hs : a.eval s = v) (hown : w.ownsRow base 87 3 v n xs)
    (al : Option Addr) (m c : Nat) (M : List Sd) (hx : a.eval x = .slice al m c) (hit : SlS w al m c M) (hn : n + m ≤ 1000000) {N : Nat} (hN : n + m = N) (hbase : base ≤ w.heap.size)
    (h : ∀ a' c' w', w'.ownsRow base 87 3 (.slice a' N c') N (xs ++ flatS M) → w.grownBy w' v.ownBlock → wpList Tryz.prog ops Q rest (a.put o.dst (.slice a' N c')) w') :
    wpList Tryz.prog ops Q (o :: rest) a w :=
  wpList_plain hgd fun _ hK => wp_seeds s x ho base v n xs hs hown al m c M hx hit hn hN hbase fun a' c' w' h2 h3 => hK _ _ (h a' c' w' h2 h3)
theorem step_seeds {ops : Array Oper} {o : Oper} {a : Act} {w : World} {K : Act → World → Prop} {Q : Exit → Act → World → Prop} {E : Prop} (hg : o.guard = none) (s x : Operand) (ho : o.op = Op.call { callee := Callee.builtin Builtin.append, args := #[s, x], argTypes := #[88, 88] })
    (base : Nat) (v : Value) (n : Nat) (xs : List Value) (hs : a.eval s = v) (hown : w.ownsRow base 87 3 v n xs)
    (al : Option Addr) (m c : Nat) (M : List Sd) (hx : a.eval x = .slice al m c) (hit : SlS w al m c M) (hn : n + m ≤ 1000000) {N : Nat} (hN : n + m = N) (hbase : base ≤ w.heap.size)
    (hK : ∀ a' c' w', w'.ownsRow base 87 3 (.slice a' N c') N (xs ++ flatS M) → w.grownBy w' v.ownBlock → K (a.put o.dst (.slice a' N c')) w') :
    if Region.wanted o (yielded ops a.tmps) = true then Oper.wp Tryz.prog o a w K Q else E := by
  have hw : Region.wanted o (yielded ops a.tmps) = true := by simp [Region.wanted, hg]
  rw [if_pos hw]
  exact wp_seeds s x ho base v n xs hs hown al m c M hx hit hn hN hbase hK
theorem seeds_empty (w : World) : (w.alloc (.cells #[] 87)).ownsRow w.heap.size 87 3 (.slice (some ⟨w.heap.size, 0, none⟩) 0 0) 0 [] :=
  ⟨rfl, .inr ⟨_, 0, #[], rfl, Nat.le_refl _, Go.Deep.blk_alloc_new _ _, Nat.le_refl _, Nat.zero_le _, rfl, rfl⟩⟩
theorem seeds_one (w : World) (x : Sd) : SlS (w.alloc (.cells #[.int .i64 x.1, .int .i64 x.2.1, .int .i64 x.2.2] 87)) (some ⟨w.heap.size, 0, none⟩) 1 1 [x] := by
  refine .inr ⟨_, rfl, rfl, Nat.le_refl _, by unfold maxLen; omega, .inr ⟨_, 0, rfl, by simp, fun j u hu => ?_⟩⟩
  rw [Nat.zero_add, cell_of_row _ _ j _ _ _ (Go.Deep.blk_alloc_new _ _)]
  have hj : j < 3 := by have := (List.getElem?_eq_some_iff.1 hu).1; simpa [flatS, encS] using this
  rcases (by omega : j = 0 ∨ j = 1 ∨ j = 2) with rfl | rfl | rfl <;> exact hu

set_option maxHeartbeats 400000 in
theorem isNaN_any (x : Int) (w : World) : Calls Tryz.prog 88 #[.int .i64 x] w fun e w' => e = .returned (.bool false) ∧ w' = w := by
  go_enter Tryz.func88, Tryz.ntmps88
  go_wp2
  go_ret
  simp
set_option maxHeartbeats 400000 in
theorem cmp_any (x y : Int) (w : World) : Calls Tryz.prog 122 #[.int .i64 x, .int .i64 y] w fun e w' => e = .returned (.int .i64 (cmpI x y)) ∧ w' = w := by
  by_cases h1 : x < y
  · rw [show cmpI x y = -1 by simp [cmpI, h1]]
    go_enter Tryz.func122, Tryz.ntmps122
    go_wp2_with (go_at_call 88; refine (isNaN_any _ _).mono ?_; rintro e w1 ⟨rfl, rfl⟩)
    go_ret
    exact ⟨rfl, rfl⟩
  · by_cases h2 : y < x
    · rw [show cmpI x y = 1 by simp [cmpI, h1, h2]]
      go_enter Tryz.func122, Tryz.ntmps122
      go_wp2_with (go_at_call 88; refine (isNaN_any _ _).mono ?_; rintro e w1 ⟨rfl, rfl⟩)
      go_ret
      exact ⟨rfl, rfl⟩
    · rw [show cmpI x y = 0 by simp [cmpI, h1, h2]]
      go_enter Tryz.func122, Tryz.ntmps122
      go_wp2_with (go_at_call 88; refine (isNaN_any _ _).mono ?_; rintro e w1 ⟨rfl, rfl⟩)
      go_ret
      exact ⟨rfl, rfl⟩
/-- the first that is not 0 -/
def or3 (x y z : Int) : Int := if x ≠ 0 then x else if y ≠ 0 then y else z
def sel3 (x y z : Int) (i : Nat) : Int := if i = 0 then x else if i = 1 then y else z
theorem or3_at {x y z : Int} {s : Nat} (hs : s < 3) (h0 : ∀ j, j < s → sel3 x y z j = 0) (h : sel3 x y z s ≠ 0) : or3 x y z = sel3 x y z s := by
  rcases (by omega : s = 0 ∨ s = 1 ∨ s = 2) with rfl | rfl | rfl
  · exact if_pos h
  · have a0 : x = 0 := h0 0 (by omega)
    unfold or3
    rw [if_neg (by omega)]
    exact if_pos h
  · have a0 : x = 0 := h0 0 (by omega)
    have a1 : y = 0 := h0 1 (by omega)
    unfold or3
    rw [if_neg (by omega), if_neg (by omega)]
    rfl
theorem or3_none {x y z : Int} (h0 : ∀ j, j < 3 → sel3 x y z j = 0) : or3 x y z = 0 := by
  have a0 : x = 0 := h0 0 (by omega)
  have a1 : y = 0 := h0 1 (by omega)
  have a2 : z = 0 := h0 2 (by omega)
  unfold or3
  rw [if_neg (by omega), if_neg (by omega), a2]
set_option maxHeartbeats 400000 in
theorem or_any (x y z : Int) (B : Nat) (w : World) (hc : ∀ i, i < 3 → w.cell? ⟨B, i, none⟩ = some (.int .i64 (sel3 x y z i))) :
    Calls Tryz.prog 121 #[.slice (some ⟨B, 0, none⟩) 3 3] w fun e w' => e = .returned (.int .i64 (or3 x y z)) ∧ w' = w := by
  have HC := hide hc
  clear hc
  go_enter Tryz.func121, Tryz.ntmps121
  go_wp2_with fail
  go_loopw [8] (fun i u => ∃ (s : Nat), s ≤ 3 ∧ i = .int .i64 s ∧ (∀ j, j < s → sel3 x y z j = 0) ∧ u = w) (fun i _ => 3 - (intOf i).toNat)
  case atStart => exact ⟨0, by omega, rfl, fun j hj => absurd hj (Nat.not_lt_zero _), rfl⟩
  case round =>
    obtain ⟨s, hs, rfl, h0, rfl⟩ := hrel
    have H0 := hide h0
    clear h0
    by_cases hsn : s < 3
    · have hsn2 : (s : Int) < 3 := by omega
      have c := HC.out s hsn
      by_cases hz : sel3 x y z s = 0
      · rw [hz] at c
        have HZ := hide hz
        clear hz
        go_wp2
        go_roundw
        case rel =>
          refine ⟨s + 1, hsn, by go_num, fun j hj => ?_, by trivial⟩
          rcases (by omega : j < s ∨ j = s) with k | rfl
          · exact H0.out j k
          · exact HZ.out
        case measure => simp [intOf]; omega
      · have hz0 : (sel3 x y z s == 0) = false := by simpa using hz
        obtain ⟨V, hV⟩ : ∃ V, V = sel3 x y z s := ⟨_, rfl⟩
        have HE := hide (or3_at hsn H0.out hz)
        rw [← hV] at c hz hz0
        have HV := hide hV
        clear hV
        go_wp2
        go_ret
        rw [HE.out.trans HV.out.symm]
        exact ⟨rfl, rfl⟩
    · have : s = 3 := by omega
      subst this
      go_wp2
      go_ret
      rw [or3_none H0.out]
      exact ⟨rfl, rfl⟩
theorem cmpS_or (x y : Sd) : or3 (cmpI x.2.2 y.2.2) (cmpI x.1 y.1) (cmpI x.2.1 y.2.1) = cmpS x y := rfl

/-- the class of worlds behind draws and new blocks -/
def Gw (w w' : World) : Prop := ∃ q os, w' = Go.Sort.grow (w.drewN q) os
theorem Gw.refl (w : World) : Gw w w := ⟨0, #[], by rw [Go.Sort.grow_empty]; rfl⟩
theorem Gw.drew {w w' : World} (h : Gw w w') : Gw w w'.drew := by
  obtain ⟨q, os, rfl⟩ := h
  exact ⟨q + 1, os, rfl⟩
theorem Gw.alloc {w w' : World} (h : Gw w w') (o : Obj) : Gw w (w'.alloc o) := by
  obtain ⟨q, os, rfl⟩ := h
  exact ⟨q, os.push o, by rw [Go.Sort.alloc_eq_grow, Go.Sort.grow_grow]; rfl⟩
theorem Gw.gr {w w' : World} (h : Gw w w') : Gr w w' := by
  obtain ⟨q, os, rfl⟩ := h
  have h1 : Gr w (w.drewN q) := (Gr.refl w).drewN q
  refine h1.trans ⟨rfl, rfl, rfl, by simp, fun k hk => ?_⟩
  rw [Go.Sort.heap_grow_old _ _ hk]
theorem tri3 (w : World) (x : Sd) (T : TypeId) : (w.alloc (.cells #[.int .i64 x.1, .int .i64 x.2.1, .int .i64 x.2.2] T)).cell? ⟨w.heap.size, 0, none⟩ = some (.int .i64 x.1) ∧ (w.alloc (.cells #[.int .i64 x.1, .int .i64 x.2.1, .int .i64 x.2.2] T)).cell? ⟨w.heap.size, 1, none⟩ = some (.int .i64 x.2.1) ∧ (w.alloc (.cells #[.int .i64 x.1, .int .i64 x.2.1, .int .i64 x.2.2] T)).cell? ⟨w.heap.size, 2, none⟩ = some (.int .i64 x.2.2) := by
  refine ⟨?_, ?_, ?_⟩ <;> (rw [cell_of_row _ _ _ _ _ _ (Go.Deep.blk_alloc_new _ _)]; rfl)
theorem new3 (w : World) (x y z : Int) (T : TypeId) : ∀ i, i < 3 → (w.alloc (.cells #[.int .i64 x, .int .i64 y, .int .i64 z] T)).drew.cell? ⟨w.heap.size, i, none⟩ = some (.int .i64 (sel3 x y z i)) := by
  intro i hi
  rw [cell_of_row (w.alloc (.cells #[.int .i64 x, .int .i64 y, .int .i64 z] T)).drew _ _ _ _ _ (Go.Deep.blk_alloc_new _ _)]
  rcases (by omega : i = 0 ∨ i = 1 ∨ i = 2) with rfl | rfl | rfl <;> rfl
set_option maxHeartbeats 2000000 in
theorem compare_any (x y : Sd) (w : World) : Calls Tryz.prog 110 #[.agg #[.int .i64 x.1, .int .i64 x.2.1, .int .i64 x.2.2], .agg #[.int .i64 y.1, .int .i64 y.2.1, .int .i64 y.2.2]] w fun e w' => e = .returned (.int .i64 (cmpS x y)) ∧ Gw w w' := by
  rw [← cmpS_or]
  have hx := tri3 w x 87
  obtain ⟨w1, hw1⟩ : ∃ w1, w1 = w.alloc (.cells #[.int .i64 x.1, .int .i64 x.2.1, .int .i64 x.2.2] 87) := ⟨_, rfl⟩
  have hy := tri3 w1 y 87
  have g1 : Gw w w1 := hw1 ▸ (Gw.refl w).alloc _
  obtain ⟨w2, hw2⟩ : ∃ w2, w2 = w1.alloc (.cells #[.int .i64 y.1, .int .i64 y.2.1, .int .i64 y.2.2] 87) := ⟨_, rfl⟩
  have g2 : Gw w w2 := hw2 ▸ g1.alloc _
  have k2 : Gr w1 w2 := hw2 ▸ (Gr.refl w1).alloc _
  rw [← hw1] at hx
  rw [← hw2] at hy
  obtain ⟨x1, x2, x3⟩ := hx
  obtain ⟨y1, y2, y3⟩ := hy
  replace x1 := cell_gr x1 k2
  replace x2 := cell_gr x2 k2
  replace x3 := cell_gr x3 k2
  have hs1 : w1.heap.size = w.heap.size + 1 := by rw [hw1]; simp
  rw [hs1] at y1 y2 y3
  obtain ⟨a, b, c⟩ := x
  obtain ⟨d, e, f⟩ := y
  simp only at *
  go_enter Tryz.func110, Tryz.ntmps110
  go_upto_region 1 with fail
  rw [← hw1, ← hw2]
  generalize w.heap.size = B1 at *
  clear hw1 hw2 k2 g1 hs1
  go_region_held3 (fun u => u.cell? ⟨B1, 0, none⟩ = some (.int .i64 a) ∧ u.cell? ⟨B1, 1, none⟩ = some (.int .i64 b) ∧ u.cell? ⟨B1, 2, none⟩ = some (.int .i64 c) ∧ u.cell? ⟨B1 + 1, 0, none⟩ = some (.int .i64 d) ∧ u.cell? ⟨B1 + 1, 1, none⟩ = some (.int .i64 e) ∧ u.cell? ⟨B1 + 1, 2, none⟩ = some (.int .i64 f) ∧ Gw w u) (first | exact ⟨x1, x2, x3, y1, y2, y3, g2.drew⟩ | exact ⟨cell_gr x1 ((Gr.refl w2).alloc _).drew, cell_gr x2 ((Gr.refl w2).alloc _).drew, cell_gr x3 ((Gr.refl w2).alloc _).drew, cell_gr y1 ((Gr.refl w2).alloc _).drew, cell_gr y2 ((Gr.refl w2).alloc _).drew, cell_gr y3 ((Gr.refl w2).alloc _).drew, (g2.alloc _).drew⟩) (first | (go_at_call 122; refine (cmp_any _ _ _).mono ?_; rintro e9 w9 ⟨rfl, rfl⟩) | (go_at_call 121; refine (or_any _ _ _ _ _ (new3 _ _ _ _ _)).mono ?_; rintro e9 w9 ⟨rfl, rfl⟩))
  go_wp2
  go_ret
  exact ⟨rfl, (g2.alloc _).drew⟩
end Go.Proofs.YtgbadbkipaccgaaGreat
