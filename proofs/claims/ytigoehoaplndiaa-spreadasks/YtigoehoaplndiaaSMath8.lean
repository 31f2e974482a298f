/- Seeds as a list: the order, the sorted list of which each stands once, the least key. Numbers alone. No condition. -/
import Derived.Test.YtigoehoaplndiaaProg
import Derived.Lib.SlicesCompact
namespace Go.Proofs.Ytigoehoaplndiaa

/-- a seed: its cell, its side, its key -/
abbrev Sd := Int × Int × Int
/-- which of two numbers is less, as -1, 0, 1 -/
def cmpI (x y : Int) : Int := if x < y then -1 else if y < x then 1 else 0
/-- which of two seeds is ahead -/
def cmpS (x y : Sd) : Int := if cmpI x.2.2 y.2.2 ≠ 0 then cmpI x.2.2 y.2.2 else if cmpI x.1 y.1 ≠ 0 then cmpI x.1 y.1 else cmpI x.2.1 y.2.1
/-- x is ahead of y -/
def ltS (x y : Sd) : Bool := decide (x.2.2 < y.2.2 ∨ x.2.2 = y.2.2 ∧ (x.1 < y.1 ∨ x.1 = y.1 ∧ x.2.1 < y.2.1))
theorem ltS_iff (x y : Sd) : ltS x y = true ↔ x.2.2 < y.2.2 ∨ x.2.2 = y.2.2 ∧ (x.1 < y.1 ∨ x.1 = y.1 ∧ x.2.1 < y.2.1) := by simp [ltS]
theorem ltS_no (x y : Sd) : ltS x y = false ↔ ¬ (x.2.2 < y.2.2 ∨ x.2.2 = y.2.2 ∧ (x.1 < y.1 ∨ x.1 = y.1 ∧ x.2.1 < y.2.1)) := by rw [← ltS_iff]; simp
theorem cmpS_lt (x y : Sd) : (fun x y => decide (cmpS x y < 0)) x y = ltS x y := by
  show decide (cmpS x y < 0) = _
  unfold ltS
  rw [decide_eq_decide]
  unfold cmpS cmpI
  split <;> split <;> (try split) <;> (try split) <;> (try split) <;> (try split) <;> omega
theorem ltS_irr (x : Sd) : ltS x x = false := by rw [ltS_no]; omega
theorem ltS_trans {x y z : Sd} (h : ltS x y = true) (g : ltS y z = true) : ltS x z = true := by
  rw [ltS_iff] at *
  omega
theorem ltS_total (x y : Sd) (h : ltS x y = false) (g : ltS y x = false) : x = y := by
  rw [ltS_no] at *
  obtain ⟨a, b, c⟩ := x
  obtain ⟨d, e, f⟩ := y
  simp only [Prod.mk.injEq] at *
  omega
theorem ltS_asym {x y : Sd} (h : ltS x y = true) : ltS y x = false := by
  rw [ltS_no]; rw [ltS_iff] at h
  omega

/-- each ahead of all behind it -/
def Rise (l : List Sd) : Prop := l.Pairwise fun x y => ltS x y = true
/-- lists that rise and hold the same are one -/
theorem rise_unique : ∀ {l m : List Sd}, Rise l → Rise m → (∀ x, x ∈ l ↔ x ∈ m) → l = m
  | [], [], _, _, _ => rfl
  | [], y :: m, _, _, h => absurd ((h y).2 (.head _)) (by simp)
  | x :: l, [], _, _, h => absurd ((h x).1 (.head _)) (by simp)
  | x :: l, y :: m, hl, hm, h => by
    obtain ⟨h1, h2⟩ := List.pairwise_cons.1 hl
    obtain ⟨g1, g2⟩ := List.pairwise_cons.1 hm
    have e : x = y := by
      rcases List.mem_cons.1 ((h x).1 (.head _)) with e | e
      · exact e
      · rcases List.mem_cons.1 ((h y).2 (.head _)) with e' | e'
        · exact e'.symm
        · have := ltS_asym (g1 x e)
          rw [h1 y e'] at this
          cases this
    subst e
    congr 1
    refine rise_unique h2 g2 fun z => ?_
    constructor
    · intro hz
      rcases List.mem_cons.1 ((h z).1 (.tail _ hz)) with e | e
      · subst e
        have := h1 z hz
        rw [ltS_irr] at this
        cases this
      · exact e
    · intro hz
      rcases List.mem_cons.1 ((h z).2 (.tail _ hz)) with e | e
      · subst e
        have := g1 z hz
        rw [ltS_irr] at this
        cases this
      · exact e

/-- sorted by the order, those that are alike each kept -/
def mrg (l : List Sd) : List Sd := l.mergeSort fun x y => !ltS y x
theorem mrg_mem (l : List Sd) (x : Sd) : x ∈ mrg l ↔ x ∈ l := List.mem_mergeSort
theorem mrg_len (l : List Sd) : (mrg l).length = l.length := List.length_mergeSort l
theorem mrg_up (l : List Sd) : (mrg l).Pairwise fun x y => ltS y x = false := by
  have h := List.pairwise_mergeSort (le := fun x y => !ltS y x) (l := l) ?_ ?_
  · exact h.imp fun {a b} hab => by simpa using hab
  · intro a b c h1 h2
    simp only [Bool.not_eq_true', ltS_no] at *
    omega
  · intro a b
    cases h : ltS b a with
    | false => simp
    | true => simp [ltS_asym h]

/-- of neighbours that are alike one -/
def cpt : List Sd → List Sd
  | [] => []
  | [x] => [x]
  | x :: y :: l => if x = y then cpt (y :: l) else x :: cpt (y :: l)
theorem cpt_mem : ∀ (l : List Sd) (x : Sd), x ∈ cpt l ↔ x ∈ l
  | [], _ => Iff.rfl
  | [_], _ => Iff.rfl
  | y :: z :: l, x => by
    unfold cpt
    split
    · rename_i e
      rw [cpt_mem (z :: l) x]
      subst e
      simp
    · simp only [List.mem_cons, cpt_mem (z :: l) x]
theorem cpt_rise : ∀ l : List Sd, (l.Pairwise fun x y => ltS y x = false) → Rise (cpt l)
  | [], _ => List.Pairwise.nil
  | [x], _ => List.pairwise_singleton _ _
  | x :: y :: l, h => by
    obtain ⟨h1, h2⟩ := List.pairwise_cons.1 h
    unfold cpt
    split
    · exact cpt_rise (y :: l) h2
    · rename_i ne
      refine List.pairwise_cons.2 ⟨fun z hz => ?_, cpt_rise (y :: l) h2⟩
      rw [cpt_mem] at hz
      cases e : ltS x z with
      | true => rfl
      | false =>
        have hzx := h1 z hz
        have := ltS_total x z e hzx
        subst this
        rcases List.mem_cons.1 hz with e' | e'
        · exact absurd e' ne
        · have g1 := (List.pairwise_cons.1 h2).1 x e'
          exact absurd (ltS_total x y g1 (h1 y (.head _))) ne
/-- the sorted list, each once -/
def srt (l : List Sd) : List Sd := cpt (mrg l)
theorem srt_mem (l : List Sd) (x : Sd) : x ∈ srt l ↔ x ∈ l := by rw [srt, cpt_mem, mrg_mem]
theorem srt_rise (l : List Sd) : Rise (srt l) := cpt_rise _ (mrg_up l)
theorem srt_of_rise {l m : List Sd} (h : Rise m) (hm : ∀ x, x ∈ m ↔ x ∈ l) : srt l = m := rise_unique (srt_rise l) h fun x => by rw [srt_mem, hm]
theorem srt_congr {l m : List Sd} (h : ∀ x, x ∈ l ↔ x ∈ m) : srt l = srt m := srt_of_rise (srt_rise m) fun x => by rw [srt_mem, h]
theorem srt_srt (l : List Sd) : srt (srt l) = srt l := srt_of_rise (srt_rise l) fun _ => Iff.rfl
/-- the library's word for it -/
theorem compact_srt (l : List Sd) : Lib.compactUpTo (mrg l).toArray (mrg l).toArray.size = srt l := by
  have hu := List.pairwise_iff_getElem.1 (mrg_up l)
  generalize hd : (mrg l).toArray = d
  have hsz : d.size = (mrg l).length := by rw [← hd]; simp
  have hg : ∀ i j, i < j → j < d.size → ltS d[j]! d[i]! = false := by
    intro i j hij hj
    subst hd
    have := hu i j (by omega) (by omega) hij
    simpa [getElem!_pos, show i < (mrg l).length by omega, show j < (mrg l).length by omega] using this
  have key : ∀ m, m ≤ d.size → Rise (Lib.compactUpTo d m) ∧ ∀ x, x ∈ Lib.compactUpTo d m ↔ ∃ j, j < m ∧ d[j]! = x := by
    intro m
    induction m with
    | zero => intro _; exact ⟨List.Pairwise.nil, fun x => ⟨fun h => by simp [Lib.compactUpTo] at h, fun ⟨j, h, _⟩ => absurd h (Nat.not_lt_zero _)⟩⟩
    | succ m ih =>
      intro hm
      obtain ⟨h1, h2⟩ := ih (by omega)
      rw [Lib.compactUpTo_succ]
      by_cases hk : Lib.keeps d m = true
      · rw [if_pos hk]
        have hk' : m = 0 ∨ d[m]! ≠ d[m - 1]! := by simpa [Lib.keeps] using hk
        refine ⟨List.pairwise_append.2 ⟨h1, List.pairwise_singleton _ _, fun x hx y hy => ?_⟩, fun x => ?_⟩
        · have hy' : y = d[m]! := by simpa using hy
          subst hy'
          obtain ⟨j, hj, rfl⟩ := (h2 x).1 hx
          cases e : ltS d[j]! d[m]! with
          | true => rfl
          | false =>
            have e2 := ltS_total _ _ e (hg j m hj (by omega))
            rcases hk' with h0 | hne
            · omega
            · refine absurd (ltS_total _ _ (hg (m - 1) m (by omega) (by omega)) ?_) hne
              rcases Nat.lt_or_ge j (m - 1) with c | c
              · rw [← e2]; exact hg j (m - 1) c (by omega)
              · have : j = m - 1 := by omega
                rw [← this, e2, ltS_irr]
        · rw [List.mem_append, h2 x]
          constructor
          · rintro (⟨j, hj, e⟩ | hx)
            · exact ⟨j, by omega, e⟩
            · exact ⟨m, by omega, by simpa using Eq.symm (by simpa using hx)⟩
          · rintro ⟨j, hj, e⟩
            by_cases c : j = m
            · subst c; exact .inr (by simp [e])
            · exact .inl ⟨j, by omega, e⟩
      · have hk2 : Lib.keeps d m = false := by simpa using hk
        have hk' : m ≠ 0 ∧ d[m]! = d[m - 1]! := by simpa [Lib.keeps] using hk2
        rw [hk2]
        simp only [Bool.false_eq_true, if_false, List.append_nil]
        refine ⟨h1, fun x => ?_⟩
        rw [h2 x]
        constructor
        · rintro ⟨j, hj, e⟩; exact ⟨j, by omega, e⟩
        · rintro ⟨j, hj, e⟩
          by_cases c : j = m
          · subst c; exact ⟨j - 1, by omega, by rw [← hk'.2, e]⟩
          · exact ⟨j, by omega, e⟩
  obtain ⟨h1, h2⟩ := key d.size (Nat.le_refl _)
  refine (srt_of_rise h1 fun x => ?_).symm
  rw [h2 x, ← mrg_mem l x, List.mem_iff_getElem]
  subst hd
  constructor
  · rintro ⟨j, hj, e⟩
    have hj' : j < (mrg l).length := by simpa using hj
    exact ⟨j, hj', by simpa [getElem!_pos, hj'] using e⟩
  · rintro ⟨j, hj, e⟩
    exact ⟨j, by simpa using hj, by simpa [getElem!_pos, hj] using e⟩
theorem cpt_len : ∀ l : List Sd, (cpt l).length ≤ l.length
  | [] => Nat.le_refl _
  | [_] => Nat.le_refl _
  | x :: y :: l => by
    have := cpt_len (y :: l)
    unfold cpt
    split
    · simp only [List.length_cons] at *; omega
    · simp only [List.length_cons] at *; omega
theorem srt_len (l : List Sd) : (srt l).length ≤ l.length := Nat.le_trans (cpt_len _) (Nat.le_of_eq (mrg_len l))

/-- x laid where it belongs in a list that rises: how many are ahead of it -/
def atS (m : List Sd) (x : Sd) : Nat := (m.takeWhile fun y => ltS y x).length
def insS (m : List Sd) (x : Sd) : List Sd := if x ∈ m then m else m.take (atS m x) ++ x :: m.drop (atS m x)

theorem ins_mem (m : List Sd) (x y : Sd) : y ∈ insS m x ↔ y ∈ m ∨ y = x := by
  unfold insS
  split
  · rename_i h
    constructor
    · exact .inl
    · rintro (h' | rfl)
      · exact h'
      · exact h
  · have e := List.take_append_drop (atS m x) m
    rw [List.mem_append, List.mem_cons]
    have : y ∈ m ↔ y ∈ m.take (atS m x) ∨ y ∈ m.drop (atS m x) := by rw [← List.mem_append, e]
    rw [this]
    constructor
    · rintro (h | h | h)
      · exact .inl (.inl h)
      · exact .inr h
      · exact .inl (.inr h)
    · rintro ((h | h) | h)
      · exact .inl h
      · exact .inr (.inr h)
      · exact .inr (.inl h)
theorem take_atS (m : List Sd) (x : Sd) : m.take (atS m x) = m.takeWhile fun y => ltS y x := by
  unfold atS
  induction m with
  | nil => rfl
  | cons y m ih =>
    rw [List.takeWhile_cons]
    split
    · simp [ih]
    · rfl
theorem drop_atS (m : List Sd) (x : Sd) : m.drop (atS m x) = m.dropWhile fun y => ltS y x := by
  unfold atS
  induction m with
  | nil => rfl
  | cons y m ih =>
    rw [List.takeWhile_cons, List.dropWhile_cons]
    split
    · simp [ih]
    · rfl
theorem ins_rise {m : List Sd} (h : Rise m) (x : Sd) : Rise (insS m x) := by
  unfold insS
  split
  · exact h
  · rename_i nx
    rw [take_atS, drop_atS]
    induction m with
    | nil => exact List.pairwise_singleton _ _
    | cons y m ih =>
      obtain ⟨h1, h2⟩ := List.pairwise_cons.1 h
      rw [List.takeWhile_cons, List.dropWhile_cons]
      have nx' : x ∉ m := fun e => nx (.tail _ e)
      split
      · rename_i hy
        rw [List.cons_append]
        refine List.pairwise_cons.2 ⟨fun z hz => ?_, ih h2 nx'⟩
        rcases List.mem_append.1 hz with hz | hz
        · exact h1 z (List.takeWhile_subset _ hz)
        · rcases List.mem_cons.1 hz with rfl | hz
          · exact hy
          · exact h1 z (List.dropWhile_subset _ hz)
      · rename_i hy
        have hxy : ltS x y = true := by
          cases e : ltS x y with
          | true => rfl
          | false => exact absurd (ltS_total x y e (by simpa using hy)) (fun e => nx (e ▸ .head _))
        refine List.pairwise_cons.2 ⟨fun z hz => ?_, h⟩
        rcases List.mem_cons.1 hz with rfl | hz
        · exact hxy
        · exact ltS_trans hxy (h1 z hz)
/-- the document's way: one laid behind the other -/
def insAll (l : List Sd) : List Sd := l.foldl insS []
theorem insAll_snoc (l : List Sd) (x : Sd) : insAll (l ++ [x]) = insS (insAll l) x := by simp [insAll]
theorem foldl_ins : ∀ (l m : List Sd), Rise m → Rise (l.foldl insS m) ∧ ∀ x, x ∈ l.foldl insS m ↔ x ∈ m ∨ x ∈ l
  | [], m, h => ⟨h, fun x => by simp⟩
  | y :: l, m, h => by
    obtain ⟨h1, h2⟩ := foldl_ins l (insS m y) (ins_rise h y)
    refine ⟨h1, fun x => ?_⟩
    rw [List.foldl_cons, h2 x, ins_mem, List.mem_cons, or_assoc]
theorem insAll_srt (l : List Sd) : insAll l = srt l := ((srt_of_rise (foldl_ins l [] List.Pairwise.nil).1 fun x => by rw [(foldl_ins l [] List.Pairwise.nil).2 x]; simp).symm)
theorem insAll_rise (l : List Sd) : Rise (insAll l) := (foldl_ins l [] List.Pairwise.nil).1
/-- where the search ends, it is there or it is not -/
theorem atS_le (m : List Sd) (x : Sd) : atS m x ≤ m.length := by
  unfold atS
  exact (List.takeWhile_sublist _).length_le
theorem atS_lt {m : List Sd} {x : Sd} {i : Nat} {y : Sd} (h : i < atS m x) (hy : m[i]? = some y) : ltS y x = true := by
  have h1 : (m.takeWhile fun y => ltS y x)[i]? = some y := by rw [← take_atS, List.getElem?_take_of_lt h]; exact hy
  exact List.all_eq_true.1 (List.all_takeWhile (p := fun y => ltS y x) (l := m)) y (List.mem_of_getElem? h1)
theorem atS_stop {m : List Sd} {x : Sd} {y : Sd} (hy : m[atS m x]? = some y) : ltS y x = false := by
  have h1 : (m.dropWhile fun y => ltS y x)[0]? = some y := by rw [← drop_atS, List.getElem?_drop]; simpa using hy
  cases e : (m.dropWhile fun y => ltS y x) with
  | nil => rw [e] at h1; simp at h1
  | cons z l =>
    rw [e] at h1
    simp only [List.getElem?_cons_zero, Option.some.injEq] at h1
    subst h1
    have := List.head?_dropWhile_not (fun y => ltS y x) m
    rw [e] at this
    simpa using this
theorem atS_eq {m : List Sd} {x : Sd} {i : Nat} (h : ∀ j y, j < i → m[j]? = some y → ltS y x = true) (g : ∀ y, m[i]? = some y → ltS y x = false) (hi : i ≤ m.length) : atS m x = i := by
  have h1 := atS_le m x
  rcases Nat.lt_trichotomy (atS m x) i with c | c | c
  · have hl : atS m x < m.length := by omega
    have e : m[atS m x]? = some m[atS m x] := List.getElem?_eq_getElem hl
    have := atS_stop e
    rw [h _ _ c e] at this
    cases this
  · exact c
  · have hl : i < m.length := by omega
    have e : m[i]? = some m[i] := List.getElem?_eq_getElem hl
    have := atS_lt c e
    rw [g _ e] at this
    cases this
theorem ins_there {m : List Sd} {x : Sd} (h : m[atS m x]? = some x) : insS m x = m := by
  unfold insS
  rw [if_pos (List.mem_of_getElem? h)]
theorem ins_not {m : List Sd} (hr : Rise m) {x : Sd} (h : m[atS m x]? ≠ some x) : insS m x = m.take (atS m x) ++ x :: m.drop (atS m x) := by
  unfold insS
  rw [if_neg ?_]
  intro hx
  obtain ⟨j, hj⟩ := List.mem_iff_getElem?.1 hx
  rcases Nat.lt_trichotomy j (atS m x) with c | c | c
  · have := atS_lt c hj
    rw [ltS_irr] at this
    cases this
  · subst c; exact h hj
  · have hl : j < m.length := (List.getElem?_eq_some_iff.1 hj).1
    have hl' : atS m x < m.length := by omega
    have e : m[atS m x]? = some m[atS m x] := List.getElem?_eq_getElem hl'
    have h1 := atS_stop e
    have h2 := (List.pairwise_iff_getElem.1 hr) (atS m x) j hl' hl c
    have e2 : m[j] = x := (List.getElem?_eq_some_iff.1 hj).2
    rw [e2, h1] at h2
    cases h2

/-- the least key by that cell and side, and whether there is one -/
def bstep (c s : Int) (a : Int × Bool) (x : Sd) : Int × Bool := if x.1 = c ∧ x.2.1 = s ∧ (a.2 = false ∨ x.2.2 < a.1) then (x.2.2, true) else a
def bst (inf : Int) (c s : Int) (l : List Sd) : Int × Bool := l.foldl (bstep c s) (inf, false)
theorem bst_snoc (inf c s : Int) (l : List Sd) (x : Sd) : bst inf c s (l ++ [x]) = bstep c s (bst inf c s l) x := by simp [bst]
theorem bst_of (inf c s : Int) : ∀ l : List Sd, ((bst inf c s l).2 = false → (bst inf c s l).1 = inf ∧ ∀ x, x ∈ l → ¬ (x.1 = c ∧ x.2.1 = s)) ∧
    ((bst inf c s l).2 = true → (∃ x, x ∈ l ∧ x.1 = c ∧ x.2.1 = s ∧ x.2.2 = (bst inf c s l).1) ∧ ∀ x, x ∈ l → x.1 = c → x.2.1 = s → (bst inf c s l).1 ≤ x.2.2) := by
  intro l
  induction hl : l.length generalizing l with
  | zero =>
    have : l = [] := List.eq_nil_of_length_eq_zero hl
    subst this
    exact ⟨fun _ => ⟨rfl, fun x hx => by cases hx⟩, fun h => by cases h⟩
  | succ n ih =>
    obtain ⟨m, x, rfl⟩ : ∃ m x, l = m ++ [x] := by
      refine ⟨l.dropLast, l.getLast (by intro e; subst e; cases hl), (List.dropLast_concat_getLast _).symm⟩
    have hm : m.length = n := by simpa using hl
    obtain ⟨i1, i2⟩ := ih m hm
    rw [bst_snoc]
    generalize bst inf c s m = r at i1 i2
    obtain ⟨v, b⟩ := r
    unfold bstep
    simp only at *
    split
    · rename_i h
      refine ⟨(fun e => by cases e), fun _ => ⟨⟨x, by simp, h.1, h.2.1, rfl⟩, fun y hy hc hs => ?_⟩⟩
      rcases List.mem_append.1 hy with hy | hy
      · have hh := h.2.2
        cases b with
        | false => exact absurd ⟨hc, hs⟩ ((i1 rfl).2 y hy)
        | true =>
          have hlt : x.2.2 < v := hh.resolve_left (fun e => by cases e)
          have := (i2 rfl).2 y hy hc hs
          omega
      · have : y = x := by simpa using hy
        subst this
        exact Int.le_refl _
    · rename_i h
      refine ⟨fun e => ⟨(i1 e).1, fun y hy => ?_⟩, fun e => ⟨?_, fun y hy hc hs => ?_⟩⟩
      · rcases List.mem_append.1 hy with hy | hy
        · exact (i1 e).2 y hy
        · have : y = x := by simpa using hy
          subst this
          exact fun k => h ⟨k.1, k.2, .inl e⟩
      · obtain ⟨y, hy, k⟩ := (i2 e).1
        exact ⟨y, List.mem_append.2 (.inl hy), k⟩
      · rcases List.mem_append.1 hy with hy | hy
        · exact (i2 e).2 y hy hc hs
        · have : y = x := by simpa using hy
          subst this
          by_cases k : y.2.2 < v
          · exact absurd ⟨hc, hs, .inr k⟩ h
          · simp only; omega
theorem bst_congr (inf c s : Int) {l m : List Sd} (h : ∀ x, x ∈ l ↔ x ∈ m) : (bst inf c s l).1 = (bst inf c s m).1 := by
  obtain ⟨h1, h2⟩ := bst_of inf c s l
  obtain ⟨g1, g2⟩ := bst_of inf c s m
  cases e1 : (bst inf c s l).2 with
  | false =>
    cases e2 : (bst inf c s m).2 with
    | false => rw [(h1 e1).1, (g1 e2).1]
    | true =>
      obtain ⟨x, hx, k1, k2, _⟩ := (g2 e2).1
      exact absurd ⟨k1, k2⟩ ((h1 e1).2 x ((h x).2 hx))
  | true =>
    obtain ⟨x, hx, k1, k2, k3⟩ := (h2 e1).1
    cases e2 : (bst inf c s m).2 with
    | false => exact absurd ⟨k1, k2⟩ ((g1 e2).2 x ((h x).1 hx))
    | true =>
      obtain ⟨y, hy, j1, j2, j3⟩ := (g2 e2).1
      have a := (h2 e1).2 y ((h y).2 hy) j1 j2
      have b := (g2 e2).2 x ((h x).1 hx) k1 k2
      omega
theorem bst_srt (inf c s : Int) (l : List Sd) : (bst inf c s (srt l)).1 = (bst inf c s l).1 := bst_congr inf c s fun x => srt_mem l x

end Go.Proofs.Ytigoehoaplndiaa
