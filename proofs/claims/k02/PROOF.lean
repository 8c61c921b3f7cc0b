import PyProof.Rows.All
import Wide.All
import OpenK.AllK
import Wide.FinOn
import PyProof.TupleIter
import PyProof.WalksMore
import HandS.ForMost
import HandS.IterNext
import HandS.IterVal
import KE.GoesMore
import PyProof.EnumMake
import HandS.Style
import KE.SortKeyHeap
import KE.KLam
import KE.KDictCopyH
import HandS.SortKw
import HandS.Lambda
import HandS.DictComp
import HandS.Walk
import PySem.Challenge.RW_stillowed_k02_whole_common_rows
import HandS.Rev
import HandS.Evl
import HandS.TupLe
import HandS.Deep
import HandS.TupAny
import HandS.IsInst
import PyProof.P3Eq
import HandS.Codes
import HandS.StrMore
import HandS.ForExc
import PyProof.ListNew
import HandS.RevTup
import HandS.RevRange
import HandS.Conv
import HandS.More
import KE.DataMinKey
import PyProof.SeqI3
import HandS.ExcInit
import HandS.Sort
import KE.KSortTup
import HandS.ExcField
import HandS.ExcIs
import KE.KExcIs
import HandS.TupMul
import KE.SortData
import HandS.EndTab
import KE.KNestM
set_option Elab.async false
set_option linter.all false
set_option maxRecDepth 100000
set_option maxHeartbeats 8000000
/-! Longest rows within both, shortest rows that hold both (own text; no part of the kit). -/
namespace Kc
variable {α : Type} [DecidableEq α]
/-- the length of a longest row within both -/
def lcs : List α → List α → Nat
  | [], _ => 0
  | _ :: _, [] => 0
  | a :: u, b :: v => if a = b then lcs u v + 1 else max (lcs u (b :: v)) (lcs (a :: u) v)
termination_by u v => u.length + v.length
/-- the length of a shortest row that holds both -/
def scs : List α → List α → Nat
  | [], v => v.length
  | a :: u, [] => u.length + 1
  | a :: u, b :: v => if a = b then scs u v + 1 else min (scs u (b :: v)) (scs (a :: u) v) + 1
termination_by u v => u.length + v.length
theorem lcs_nil (v : List α) : lcs [] v = 0 := by rw [lcs]
theorem lcs_nil' (u : List α) : lcs u [] = 0 := by
  cases u with
  | nil => rw [lcs]
  | cons a u => rw [lcs]
theorem lcs_cons (a b : α) (u v : List α) : lcs (a :: u) (b :: v) = if a = b then lcs u v + 1 else max (lcs u (b :: v)) (lcs (a :: u) v) := by rw [lcs]
theorem scs_nil (v : List α) : scs [] v = v.length := by rw [scs]
theorem scs_nil' (u : List α) : scs u [] = u.length := by
  cases u with
  | nil => rw [scs]
  | cons a u =>
    rw [scs]
    rfl
theorem scs_cons (a b : α) (u v : List α) : scs (a :: u) (b :: v) = if a = b then scs u v + 1 else min (scs u (b :: v)) (scs (a :: u) v) + 1 := by rw [scs]
theorem lcs_scs : ∀ u v : List α, lcs u v + scs u v = u.length + v.length
  | [], v => by
    rw [lcs_nil, scs_nil]
    rfl
  | a :: u, [] => by
    rw [lcs_nil', scs_nil', Nat.zero_add]
    rfl
  | a :: u, b :: v => by
    rw [lcs_cons, scs_cons]
    have h1 := lcs_scs u v
    have h2 := lcs_scs u (b :: v)
    have h3 := lcs_scs (a :: u) v
    rw [List.length_cons] at h2 h3
    rw [List.length_cons, List.length_cons]
    by_cases e : a = b
    · rw [if_pos e, if_pos e]
      omega
    · rw [if_neg e, if_neg e]
      omega
termination_by u v => u.length + v.length
theorem cons_cases {x d : α} {a b : List α} (h : (x :: a).Sublist (d :: b)) : (x :: a).Sublist b ∨ x = d ∧ a.Sublist b := by
  cases h with
  | cons _ h => exact .inl h
  | cons_cons _ h => exact .inr ⟨rfl, h⟩
theorem tail_sub {x : α} {a b : List α} (h : (x :: a).Sublist b) : a.Sublist b := (List.sublist_cons_self x a).trans h
/-- no row within both is longer -/
theorem lcs_most : ∀ (u v w : List α), w.Sublist u → w.Sublist v → w.length ≤ lcs u v
  | [], v, w, h, _ => by
    rw [List.sublist_nil.mp h]
    exact Nat.zero_le _
  | a :: u, [], w, _, h => by
    rw [List.sublist_nil.mp h]
    exact Nat.zero_le _
  | a :: u, b :: v, [], _, _ => Nat.zero_le _
  | a :: u, b :: v, x :: w, h1, h2 => by
    rw [lcs_cons, List.length_cons]
    by_cases e : a = b
    · subst e
      rw [if_pos rfl]
      have h3 : w.Sublist u := by
        rcases cons_cases h1 with h | ⟨_, h⟩
        · exact tail_sub h
        · exact h
      have h4 : w.Sublist v := by
        rcases cons_cases h2 with h | ⟨_, h⟩
        · exact tail_sub h
        · exact h
      have := lcs_most u v w h3 h4
      omega
    · rw [if_neg e]
      rcases cons_cases h1 with h | ⟨h, h'⟩
      · have := lcs_most u (b :: v) (x :: w) h h2
        rw [List.length_cons] at this
        omega
      · rcases cons_cases h2 with k | ⟨k, _⟩
        · have := lcs_most (a :: u) v (x :: w) h1 k
          rw [List.length_cons] at this
          omega
        · exact absurd (h.symm.trans k) e
termination_by u v => u.length + v.length
/-- there is one of that length -/
theorem lcs_some : ∀ (u v : List α), ∃ w : List α, w.Sublist u ∧ w.Sublist v ∧ w.length = lcs u v
  | [], v => ⟨[], List.nil_sublist _, List.nil_sublist _, by rw [lcs_nil]; rfl⟩
  | a :: u, [] => ⟨[], List.nil_sublist _, List.nil_sublist _, by rw [lcs_nil']; rfl⟩
  | a :: u, b :: v => by
    rw [lcs_cons]
    by_cases e : a = b
    · subst e
      rw [if_pos rfl]
      obtain ⟨w, h1, h2, h3⟩ := lcs_some u v
      exact ⟨a :: w, List.cons_sublist_cons.mpr h1, List.cons_sublist_cons.mpr h2, by rw [List.length_cons, h3]⟩
    · rw [if_neg e]
      by_cases c : lcs u (b :: v) ≤ lcs (a :: u) v
      · obtain ⟨w, h1, h2, h3⟩ := lcs_some (a :: u) v
        exact ⟨w, h1, List.Sublist.cons _ h2, by rw [h3]; omega⟩
      · obtain ⟨w, h1, h2, h3⟩ := lcs_some u (b :: v)
        exact ⟨w, List.Sublist.cons _ h1, h2, by rw [h3]; omega⟩
termination_by u v => u.length + v.length
theorem lcs_rev_le (u v : List α) : lcs u v ≤ lcs u.reverse v.reverse := by
  obtain ⟨w, h1, h2, h3⟩ := lcs_some u v
  have := lcs_most u.reverse v.reverse w.reverse (List.reverse_sublist.mpr h1) (List.reverse_sublist.mpr h2)
  rw [List.length_reverse] at this
  omega
theorem lcs_rev (u v : List α) : lcs u.reverse v.reverse = lcs u v := by
  have h1 := lcs_rev_le u v
  have h2 := lcs_rev_le u.reverse v.reverse
  rw [List.reverse_reverse, List.reverse_reverse] at h2
  omega
/-- by the last deeds -/
theorem lcs_snoc (u v : List α) (a b : α) : lcs (u ++ [a]) (v ++ [b]) = if a = b then lcs u v + 1 else max (lcs u (v ++ [b])) (lcs (u ++ [a]) v) := by
  rw [← lcs_rev (u ++ [a]), List.reverse_append, List.reverse_append]
  show lcs (a :: u.reverse) (b :: v.reverse) = _
  rw [lcs_cons, lcs_rev]
  have e1 : b :: v.reverse = (v ++ [b]).reverse := by rw [List.reverse_append]; rfl
  have e2 : a :: u.reverse = (u ++ [a]).reverse := by rw [List.reverse_append]; rfl
  rw [e1, e2, lcs_rev, lcs_rev]
/-- what is left of a row when a path has gone by from the left -/
def rest : List α → List α → List α
  | row, [] => row
  | [], _ :: _ => []
  | a :: row, d :: path => if a = d then rest row path else rest (a :: row) path
theorem scs_le_cons (a : α) : ∀ u v : List α, scs u v ≤ scs (a :: u) v := fun u v => by
  have h1 := lcs_scs u v
  have h2 := lcs_scs (a :: u) v
  rw [List.length_cons] at h2
  obtain ⟨w, k1, k2, k3⟩ := lcs_some (a :: u) v
  have h3 : lcs (a :: u) v ≤ lcs u v + 1 := by
    cases w with
    | nil =>
      rw [← k3]
      exact Nat.zero_le _
    | cons x w =>
      have hw : w.Sublist u := by
        rcases cons_cases k1 with h | ⟨_, h⟩
        · exact tail_sub h
        · exact h
      have := lcs_most u v w hw (tail_sub k2)
      rw [← k3, List.length_cons]
      omega
  omega
theorem lcs_comm (u v : List α) : lcs u v = lcs v u := by
  obtain ⟨w, h1, h2, h3⟩ := lcs_some u v
  obtain ⟨w', k1, k2, k3⟩ := lcs_some v u
  have h4 := lcs_most v u w h2 h1
  have h5 := lcs_most u v w' k2 k1
  omega
theorem scs_comm (u v : List α) : scs u v = scs v u := by
  have h1 := lcs_scs u v
  have h2 := lcs_scs v u
  have h3 := lcs_comm u v
  omega
end Kc
/-! The mathematics of fits (own text; no part of the kit). -/
namespace Ka

variable {α : Type} [DecidableEq α]

/-- may the place stand behind the fit so far -/
def okAfter (fit : List Nat) (at_ : Nat) : Bool :=
  match fit.getLast? with
  | none => true
  | some l => decide (l < at_)

/-- the places by which a fit is lengthened -/
def nexts (v : List α) (x : α) (fit : List Nat) : List Nat :=
  (List.range v.length).filter fun i => decide (v[i]? = some x) && okAfter fit i

def growAll (v : List α) (x : α) (found : List (List Nat)) : List (List Nat) :=
  found.flatMap fun fit => (nexts v x fit).map fun i => fit ++ [i]

/-- all fits, as a loop over u finds them -/
def allFrom (v : List α) : List α → List (List Nat) → List (List Nat)
  | [], found => found
  | x :: u, found => allFrom v u (growAll v x found)

def allFits (u v : List α) : List (List Nat) := allFrom v u [[]]

theorem allFrom_append (v : List α) : ∀ (u w : List α) (found : List (List Nat)), allFrom v (u ++ w) found = allFrom v w (allFrom v u found)
  | [], _, _ => rfl
  | x :: u, w, found => allFrom_append v u w (growAll v x found)

theorem allFits_snoc (u : List α) (x : α) (v : List α) : allFits (u ++ [x]) v = growAll v x (allFits u v) := by
  unfold allFits
  rw [allFrom_append]
  rfl

/-! ### what a fit is -/
structure IsFit (u v : List α) (g : List Nat) : Prop where
  len : g.length = u.length
  asc : ∀ i j a b : Nat, i < j → g[i]? = some a → g[j]? = some b → a < b
  hit : ∀ i a : Nat, g[i]? = some a → v[a]? = u[i]?

theorem okAfter_iff (fit : List Nat) (i : Nat) : okAfter fit i = true ↔ ∀ l, fit.getLast? = some l → l < i := by
  unfold okAfter
  cases h : fit.getLast? with
  | none => simp
  | some l => simp

theorem mem_growAll {v : List α} {x : α} {found : List (List Nat)} {g : List Nat} :
    g ∈ growAll v x found ↔ ∃ fit i, fit ∈ found ∧ g = fit ++ [i] ∧ v[i]? = some x ∧ okAfter fit i = true := by
  unfold growAll nexts
  simp only [List.mem_flatMap, List.mem_map, List.mem_filter, List.mem_range, Bool.and_eq_true, decide_eq_true_eq]
  constructor
  · rintro ⟨fit, hf, i, ⟨hi, hx, ho⟩, rfl⟩
    exact ⟨fit, i, hf, rfl, hx, ho⟩
  · rintro ⟨fit, i, hf, rfl, hx, ho⟩
    refine ⟨fit, hf, i, ⟨?_, hx, ho⟩, rfl⟩
    exact (List.getElem?_eq_some_iff.mp hx).1

theorem snoc_get {β : Type} (l : List β) (x : β) (i : Nat) : (l ++ [x])[i]? = if i < l.length then l[i]? else if i = l.length then some x else none := by
  rw [List.getElem?_append]
  split
  · rfl
  · split
    · rename_i h1 h2
      subst h2
      simp
    · rename_i h1 h2
      have : 1 ≤ i - l.length := by omega
      rw [List.getElem?_eq_none]
      simpa using this

theorem isFit_snoc {u v : List α} {x : α} {fit : List Nat} {i : Nat} :
    IsFit (u ++ [x]) v (fit ++ [i]) ↔ IsFit u v fit ∧ v[i]? = some x ∧ okAfter fit i = true := by
  constructor
  · intro h
    have hl : fit.length = u.length := by
      have := h.len
      simp at this
      exact this
    refine ⟨⟨hl, fun a b p q hab hp hq => ?_, fun a p hp => ?_⟩, ?_, ?_⟩
    · have h1 := (List.getElem?_eq_some_iff.mp hp).1
      have h2 := (List.getElem?_eq_some_iff.mp hq).1
      refine h.asc a b p q hab ?_ ?_
      · rw [snoc_get, if_pos h1]; exact hp
      · rw [snoc_get, if_pos h2]; exact hq
    · have h1 := (List.getElem?_eq_some_iff.mp hp).1
      have := h.hit a p (by rw [snoc_get, if_pos h1]; exact hp)
      rw [this, snoc_get, if_pos (by omega)]
    · have := h.hit fit.length i (by rw [snoc_get, if_neg (Nat.lt_irrefl _), if_pos rfl])
      rw [this, snoc_get, if_neg (by omega), if_pos (by omega)]
    · rw [okAfter_iff]
      intro l hl'
      rw [List.getLast?_eq_getElem?] at hl'
      have h1 := (List.getElem?_eq_some_iff.mp hl').1
      exact h.asc (fit.length - 1) fit.length l i (by omega) (by rw [snoc_get, if_pos h1]; exact hl') (by rw [snoc_get, if_neg (Nat.lt_irrefl _), if_pos rfl])
  · rintro ⟨h, hx, ho⟩
    rw [okAfter_iff] at ho
    have hl := h.len
    refine ⟨by simp [hl], fun a b p q hab hp hq => ?_, fun a p hp => ?_⟩
    · rw [snoc_get] at hp hq
      split at hq
      · rename_i hb
        rw [if_pos (by omega)] at hp
        exact h.asc a b p q hab hp hq
      · split at hq
        · rename_i hb hb2
          cases hq
          rw [if_pos (by omega)] at hp
          have hlast : ∃ l, fit.getLast? = some l := by
            cases e : fit.getLast? with
            | none =>
              rw [List.getLast?_eq_none_iff] at e
              subst e
              simp at hb2
              omega
            | some l => exact ⟨l, rfl⟩
          obtain ⟨l, el⟩ := hlast
          have h1 := ho l el
          by_cases e : a = fit.length - 1
          · rw [List.getLast?_eq_getElem?, ← e, hp] at el
            cases el
            exact h1
          · rw [List.getLast?_eq_getElem?] at el
            have h2 : a < fit.length := by omega
            exact Nat.lt_trans (h.asc a (fit.length - 1) p l (by omega) hp el) h1
        · cases hq
    · rw [snoc_get] at hp
      split at hp
      · rename_i h1
        rw [h.hit a p hp, snoc_get, if_pos (by omega)]
      · split at hp
        · rename_i h1 h2
          cases hp
          rw [hx, snoc_get, if_neg (by omega), if_pos (by omega)]
        · cases hp

theorem isFit_nil {v : List α} {g : List Nat} : IsFit ([] : List α) v g ↔ g = [] := by
  constructor
  · intro h
    have := h.len
    simpa using this
  · rintro rfl
    exact ⟨rfl, fun i j a b _ h => by simp at h, fun i a h => by simp at h⟩

theorem snoc_ind {β : Type} {P : List β → Prop} (h0 : P []) (h1 : ∀ l x, P l → P (l ++ [x])) : ∀ l, P l := by
  intro l
  have : ∀ r : List β, P r.reverse := by
    intro r
    induction r with
    | nil => exact h0
    | cons x r ih => rw [List.reverse_cons]; exact h1 _ _ ih
  simpa using this l.reverse

theorem mem_allFits (v : List α) : ∀ (u : List α) (g : List Nat), g ∈ allFits u v ↔ IsFit u v g := by
  refine snoc_ind (fun g => ?_) fun u x ih g => ?_
  · rw [isFit_nil]
    simp [allFits, allFrom]
  · rw [allFits_snoc, mem_growAll]
    constructor
    · rintro ⟨fit, i, hf, rfl, hx, ho⟩
      exact isFit_snoc.mpr ⟨(ih fit).mp hf, hx, ho⟩
    · intro h
      have hl := h.len
      obtain ⟨fit, i, rfl⟩ : ∃ fit i, g = fit ++ [i] := by
        rcases List.eq_nil_or_concat g with e | ⟨fit, i, e⟩
        · subst e
          simp at hl
        · exact ⟨fit, i, by rw [e]; simp⟩
      obtain ⟨h1, h2, h3⟩ := isFit_snoc.mp h
      exact ⟨fit, i, (ih fit).mpr h1, rfl, h2, h3⟩

/-! ### how many fits there are -/
def cnt (u v : List α) : Nat := (allFits u v).length

theorem cnt_nil (v : List α) : cnt ([] : List α) v = 1 := rfl

theorem growAll_nil (x : α) (found : List (List Nat)) : growAll ([] : List α) x found = [] := by
  unfold growAll nexts
  simp

theorem cnt_snoc_nil (u : List α) (x : α) : cnt (u ++ [x]) ([] : List α) = 0 := by
  unfold cnt
  rw [allFits_snoc, growAll_nil]
  rfl

def low (n : Nat) (g : List Nat) : Bool := g.all fun i => decide (i < n)

theorem filter_map_comm {β γ : Type} (f : β → γ) (p : γ → Bool) (l : List β) : (l.map f).filter p = (l.filter (p ∘ f)).map f := List.filter_map

theorem nexts_snoc (v : List α) (d x : α) (fit : List Nat) :
    nexts (v ++ [d]) x fit = nexts v x fit ++ (if d = x ∧ okAfter fit v.length = true then [v.length] else []) := by
  unfold nexts
  rw [List.length_append, List.length_singleton, List.range_succ, List.filter_append]
  congr 1
  · apply List.filter_congr
    intro i hi
    have hi' : i < v.length := List.mem_range.mp hi
    rw [snoc_get, if_pos hi']
  · rw [List.filter_cons, List.filter_nil]
    rw [snoc_get, if_neg (Nat.lt_irrefl _), if_pos rfl]
    by_cases e : d = x
    · subst e
      simp
    · simp [e]

theorem nexts_lt {v : List α} {x : α} {fit : List Nat} {i : Nat} (h : i ∈ nexts v x fit) : i < v.length := by
  unfold nexts at h
  exact List.mem_range.mp (List.mem_filter.mp h).1

theorem low_snoc (n : Nat) (fit : List Nat) (i : Nat) : low n (fit ++ [i]) = (low n fit && decide (i < n)) := by
  unfold low
  simp

theorem last_high {v : List α} {fit : List Nat} {g : List Nat} {x : α} (h : fit.getLast? = some g.length) : True := trivial

/-- the fits in v ++ [d] that lie in v are those in v, in the same order -/
theorem filter_low (v : List α) (d : α) : ∀ u : List α, (∀ g ∈ allFits u (v ++ [d]), low v.length g = true ∨ g.getLast? = some v.length) ∧ (allFits u (v ++ [d])).filter (low v.length) = allFits u v := by
  refine snoc_ind ⟨fun g hg => ?_, ?_⟩ fun u x ih => ?_
  · have : g = [] := by simpa [allFits, allFrom] using hg
    subst this
    exact .inl rfl
  · rfl
  · obtain ⟨ih1, ih2⟩ := ih
    refine ⟨fun g hg => ?_, ?_⟩
    · rw [allFits_snoc, mem_growAll] at hg
      obtain ⟨fit, i, hf, rfl, hx, ho⟩ := hg
      have hi : i < (v ++ [d]).length := (List.getElem?_eq_some_iff.mp hx).1
      simp at hi
      rcases ih1 fit hf with h | h
      · by_cases e : i < v.length
        · left
          rw [low_snoc, h, decide_eq_true e]
          rfl
        · right
          have : i = v.length := by omega
          simp [this]
      · rw [okAfter_iff] at ho
        have := ho _ h
        omega
    · rw [allFits_snoc, allFits_snoc, ← ih2]
      unfold growAll
      generalize allFits u (v ++ [d]) = L at ih1
      clear ih2
      induction L with
      | nil => rfl
      | cons fit L ihL =>
        have ih1' : ∀ g ∈ L, low v.length g = true ∨ g.getLast? = some v.length := fun g hg => ih1 g (List.mem_cons_of_mem _ hg)
        rw [List.flatMap_cons, List.filter_append, ihL ih1', List.filter_cons]
        have hsplit : ((nexts (v ++ [d]) x fit).map fun i => fit ++ [i]).filter (low v.length) = if low v.length fit = true then (nexts v x fit).map fun i => fit ++ [i] else [] := by
          rw [List.filter_map, nexts_snoc, List.filter_append]
          have h2 : ((if d = x ∧ okAfter fit v.length = true then [v.length] else []).filter (low v.length ∘ fun i => fit ++ [i])) = [] := by
            split
            · simp [low_snoc]
            · rfl
          rw [h2, List.append_nil]
          by_cases hl : low v.length fit = true
          · rw [if_pos hl]
            congr 1
            rw [List.filter_eq_self]
            intro i hi
            have := nexts_lt hi
            simp [low_snoc, hl, this]
          · rw [if_neg hl]
            have : (nexts v x fit).filter (low v.length ∘ fun i => fit ++ [i]) = [] := by
              rw [List.filter_eq_nil_iff]
              intro i hi
              simp [low_snoc, hl]
            rw [this]
            rfl
        rw [hsplit]
        by_cases hl : low v.length fit = true
        · rw [if_pos hl, if_pos hl, List.flatMap_cons]
        · rw [if_neg hl, if_neg hl, List.nil_append]

theorem sum_nexts (v : List α) (x : α) (found : List (List Nat)) : (growAll v x found).length = (found.map fun fit => (nexts v x fit).length).sum := by
  unfold growAll
  rw [List.length_flatMap]
  congr 1
  apply List.map_congr_left
  intro fit _
  rw [List.length_map]

/-- the one recurrence -/
theorem cnt_snoc_snoc (u : List α) (x : α) (v : List α) (d : α) : cnt (u ++ [x]) (v ++ [d]) = cnt (u ++ [x]) v + (if d = x then cnt u v else 0) := by
  unfold cnt
  rw [allFits_snoc, allFits_snoc, sum_nexts, sum_nexts]
  obtain ⟨h1, h2⟩ := filter_low v d u
  rw [← h2]
  generalize allFits u (v ++ [d]) = L at h1
  clear h2
  induction L with
  | nil => simp
  | cons fit L ih =>
    have h1' : ∀ g ∈ L, low v.length g = true ∨ g.getLast? = some v.length := fun g hg => h1 g (List.mem_cons_of_mem _ hg)
    rw [List.map_cons, List.sum_cons, ih h1', List.filter_cons, nexts_snoc, List.length_append]
    rcases h1 fit (List.mem_cons_self) with h | h
    · rw [if_pos h, List.map_cons, List.sum_cons, List.length_cons]
      have ho : okAfter fit v.length = true := by
        rw [okAfter_iff]
        intro l hl
        have hm : l ∈ fit := List.mem_of_getLast? hl
        unfold low at h
        have := (List.all_eq_true.mp h) l hm
        simpa using this
      by_cases e : d = x
      · simp [e, ho]
        omega
      · simp [e]
        try omega
    · have hn : ¬ low v.length fit = true := by
        intro hl
        have hm : v.length ∈ fit := List.mem_of_getLast? h
        unfold low at hl
        have := (List.all_eq_true.mp hl) _ hm
        simp at this
      have ho : okAfter fit v.length = false := by
        unfold okAfter
        rw [h]
        simp
      have h0 : nexts v x fit = [] := by
        unfold nexts
        rw [List.filter_eq_nil_iff]
        intro i hi
        have hi' := List.mem_range.mp hi
        have : okAfter fit i = false := by
          unfold okAfter
          rw [h]
          simp
          omega
        simp [this]
      rw [if_neg hn, h0, ho]
      simp

end Ka
/-! iter(t) of a tuple of texts, and x in it. -/
namespace Ka
open PySem PySem.Spec PyProof.Rows L2

theorem entry_ci : entryFor table "proto.contains_iter" = some Builtin.«proto.contains_iter» := entryFor_of_fast (by kernel_rfl)
theorem tu_nocontains : typeLookup (.type "tuple_iterator") "__contains__" = pure none := by rw [typeLookup_type, builtinLookup_eq_fast]; kernel_rfl

section
variable {prog : Program} {w : World} {A : Around} {E : Value → Shared → Prop} {s : Shared}

/-- what has become of the iterator: the text was found at j, or it is used up -/
def Went (it t : Addr) (zs : List Str) (z : Str) (i : Nat) (h h' : Heap) (b : Bool) : Prop :=
  (b = true ∧ ∃ j, i ≤ j ∧ zs[j]? = some z ∧ (∀ k, i ≤ k → k < j → zs[k]? ≠ some z) ∧ h'.IsTupleIter it t (j + 1) ∧ Heap.ExtBut it h h') ∨
  (b = false ∧ (∀ k, i ≤ k → zs[k]? ≠ some z) ∧ Heap.ExtBut it h h')

theorem ci_loop {it t : Addr} {items : Array Value} {zs : List Str} {z : Str} {tk : Tok} {R : Result → Shared → Prop} (hne : t ≠ it) (hh : A.handled = none)
    (hs : Vals (zs.map V.str) items.toList) : ∀ (n i : Nat) (s : Shared), zs.length - i = n → s.heap.IsTupleIter it t i → s.heap.IsTuple t items →
      (∀ h' b, Went it t zs z i s.heap h' b → R (.ok (.ret (.bool b))) { s with heap := h' }) → codeAny (model prog w) A (.builtin "proto.contains_iter" ⟨[.ref it, .str z tk], []⟩) R s := by
  intro n
  induction n with
  | zero =>
    intro i s hn hit ht q
    have hx : items[i]? = none := by
      have hl := hs.length
      simp only [List.length_map, Array.length_toList] at hl
      rw [Array.getElem?_eq_none_iff]
      omega
    refine codeAny_builtin entry_ci ?_
    show wpAny _ _ (pyNext (.ref it) >>= _) _ _ s
    refine wpAny_bind (wpAny_pyNext_tuple_end hh hit ht hx fun h' e => ?_)
    refine wpAny_bind (wpAny_rule (wpAny_pure ?_))
    exact q h' false (.inr ⟨rfl, fun k hk hz => by
      have := (List.getElem?_eq_some_iff.mp hz).1
      omega, e⟩)
  | succ n ih =>
    intro i s hn hit ht q
    have hi : i < zs.length := by omega
    have hz : (zs.map V.str)[i]? = some (.str zs[i]) := by
      rw [List.getElem?_map, List.getElem?_eq_getElem hi]
      rfl
    obtain ⟨u, hu, ru⟩ := hs.get hz
    obtain ⟨t1, rfl⟩ := ru
    have hx : items[i]? = some (.str zs[i] t1) := by rw [← Array.getElem?_toList]; exact hu
    refine codeAny_builtin entry_ci ?_
    show wpAny _ _ (pyNext (.ref it) >>= _) _ _ s
    refine wpAny_bind (wpAny_pyNext_tuple_item hit ht hx fun h' hit' sb => ?_)
    show wpAny _ _ (eqBool (.str zs[i] t1) (.str z tk) >>= _) _ _ _
    refine wpAny_bind (wpAny_eqBool_str ?_)
    by_cases e : zs[i] = z
    · rw [decide_eq_true e]
      refine wpAny_bind (wpAny_rule (wpAny_pure ?_))
      exact q h' true (.inl ⟨rfl, i, Nat.le_refl _, by rw [List.getElem?_eq_getElem hi, e], fun k h1 h2 => by omega, hit', sb.extBut⟩)
    · rw [decide_eq_false e]
      refine wpAny_pure ⟨Code.quiet_builtin _ (by decide +kernel), ?_⟩
      refine ih (i + 1) { s with heap := h' } (by omega) hit' (by
        obtain ⟨o, ho, r⟩ := ht
        exact ⟨o, (sb.2 t hne).trans ho, r⟩) fun h2 b g => ?_
      refine q h2 b ?_
      have lift : ∀ k, i ≤ k → k ≠ i → i + 1 ≤ k := fun k h1 h2 => by omega
      have hzi : zs[i]? ≠ some z := by
        rw [List.getElem?_eq_getElem hi]
        exact fun w => e (Option.some.inj w)
      rcases g with ⟨rfl, j, h1, h3, h4, h5, h6⟩ | ⟨rfl, h1, h3⟩
      · refine .inl ⟨rfl, j, by omega, h3, fun k a c => ?_, h5, sb.extBut.trans h6⟩
        by_cases ek : k = i
        · rw [ek]; exact hzi
        · exact h4 k (lift k a ek) c
      · refine .inr ⟨rfl, fun k a => ?_, sb.extBut.trans h3⟩
        by_cases ek : k = i
        · rw [ek]; exact hzi
        · exact h1 k (lift k a ek)

theorem contains_ti {it t : Addr} {items : Array Value} {zs : List Str} {z : Str} {tk : Tok} {i : Nat} {Q : Bool → Shared → Prop} (hne : t ≠ it) (hh : A.handled = none)
    (hs : Vals (zs.map V.str) items.toList) (hit : s.heap.IsTupleIter it t i) (ht : s.heap.IsTuple t items)
    (q : ∀ h' b, Went it t zs z i s.heap h' b → Q b { s with heap := h' }) : wpAny (model prog w) A (contains (.ref it) (.str z tk)) Q E s := by
  unfold contains
  refine wpAny_holding ?_
  show wpAny _ _ (specialOf (.ref it) "__contains__" >>= _) _ _ s
  refine wpAny_bind (wpAny_specialOf hit.typeIs tu_nocontains ?_)
  refine wpAny_ite_split (fun hab => absurd hab (by decide)) (fun _ => ?_)
  refine wpAny_bind (wpAny_callSpecialUnlessNone?_none hit.typeIs tu_nocontains ?_)
  refine wpAny_bind (wpAny_rule ?_)
  refine wpAny_bind (wpAny_tryCatch (wpAny_mono (wpAny_pyIter_tupleiter (E := fun _ _ => False) hit (Q := fun v s' => v = .ref it ∧ s' = s) ⟨rfl, rfl⟩) (fun v s' hv => ?_) fun _ _ x => x.elim))
  obtain ⟨rfl, rfl⟩ := hv
  refine wpAny_bind (wpAny_runValue (ci_loop hne hh hs _ i _ rfl hit ht fun h' b g => ?_))
  exact wpAny_pure (q h' b g)

theorem call_iter_tuple {t : Addr} {items : Array Value} {Q : Value → Shared → Prop} (ht : s.heap.IsTuple t items)
    (h : Q (.ref s.heap.objs.size) { s with heap := s.heap.push { cls := .type "tuple_iterator", data := .fields #[.ref t, .int 0 0] } }) : wpAny (model prog w) A (call (.builtin "iter") [.ref t]) Q E s := by
  refine Calls.call_function_entry (by decide +kernel) (by decide +kernel) PySem.W.kdk_entry_iter (PySem.W.kdk_args_iter _) ?_
  unfold Builtin.«iter»
  refine wpAny_bind (m := someArgs "iter" 1 2 _) (wpAny_of_eq (a := [Value.ref t]) (by first | rfl | kernel_rfl!) ?_)
  show wpAny _ _ (pyIter (.ref t) >>= _) _ _ _
  refine wpAny_bind (wpAny_pyIter_tuple ht ?_)
  exact wpAny_pure ⟨_, rfl, h⟩
end

/-- at it an iterator over the tuple at t, the next place is i -/
def TupI (t it : Addr) (i : Nat) : HO := .ext fun h => h.IsTupleIter it t i
section
variable {X : Cx}
theorem ti_ok {P : Program} {w : World} {H : Hp} {h : Heap} {t it : Addr} {i : Nat} (e : h.IsTupleIter it t i) : ObjOk P w H h it (TupI t it i) :=
  ⟨e, let ⟨o, ho, _⟩ := e; ⟨o, ho⟩, fun h1 h2 q k => let ⟨o, ho, r⟩ := q; ⟨o, k _ ho, r⟩⟩

def rIterT (K : PySem.W.Frag) (n : Nat) : List V → Hp → VK → Prop := fun xs H Q => ∃ (t : Addr) (zs : List V), xs = [.ref t] ∧ SqT K H t zs ∧ ∀ it, H it = none → n ≤ it → Q (.ref it) (upd H it (TupI t it 0))
theorem call_iterT : CallR X (.builtin "iter") (rIterT X.K X.s_0.heap.objs.size) := by
  intro pins s σ H xs us Q I r h
  obtain ⟨l, zs, rfl, hq, q⟩ := h
  obtain rfl := Vals.ref1 r
  obtain ⟨its, rv, pl, hz⟩ := I.tuple hq
  refine call_iter_tuple pl ?_
  exact ⟨.ref s.heap.objs.size, _, I.laid (t' := s.toks) (fun b u e => Heap.get?_push_of_some _ e) (Nat.le_refl _) (ti_ok ⟨_, Heap.get?_push_size _ rfl, rfl, rfl⟩), rfl, q _ (I.hok.fresh (Nat.le_refl _)) I.sz⟩

/-- x in it; where it is used up, it is forgotten -/
def rInTI (K : PySem.W.Frag) (n : Nat) : R2 := fun x y H Q => ∃ (z : Str) (it t : Addr) (zs : List Str) (i : Nat), x = .str z ∧ y = .ref it ∧ n ≤ it ∧ H it = some (TupI t it i) ∧ SqT K H t (zs.map V.str) ∧
  ((∃ j, i ≤ j ∧ zs[j]? = some z ∧ (∀ k, i ≤ k → k < j → zs[k]? ≠ some z) ∧ Q (.bl true) (upd H it (TupI t it (j + 1)))) ∨ ((∀ k, i ≤ k → zs[k]? ≠ some z) ∧ Q (.bl false) (ItX.dropH H it)))
theorem op_inTI (hc : X.calm = true) : OpR X (compareOp .In) (rInTI X.K X.s_0.heap.objs.size) := by
  intro pins s σ H x y v u Q I rx ry h
  obtain ⟨z, it, t, zs, i, rfl, rfl, hn, hit, hq, q⟩ := h
  obtain ⟨tk, rfl⟩ := rx
  cases ry
  obtain ⟨its, rv, pl, hz⟩ := I.tuple hq
  have hI : s.heap.IsTupleIter it t i := (I.hok it _ hit).1
  have hne : t ≠ it := by
    intro e
    subst e
    obtain ⟨o, ho, hc, _⟩ := hI
    obtain ⟨o', ho', hc', _⟩ := pl
    rw [ho] at ho'
    cases ho'
    rw [hc] at hc'
    revert hc'
    simp
  have mu : Mut (H it) := by rw [hit]; exact True.intro
  show wpAny _ _ (contains (.ref it) (.str z tk) >>= fun b => pure (Value.bool b)) _ _ s
  refine wpAny_bind (contains_ti hne (I.ok.hd hc) (by simpa using rv) hI pl fun h' b g => wpAny_pure ?_)
  rcases g with ⟨rfl, j, h1, h3, h4, h5, h6⟩ | ⟨rfl, h1, h3⟩
  · rcases q with ⟨j', a1, a3, a4, q⟩ | ⟨a1, _⟩
    · have e : j' = j := by
        rcases Nat.lt_trichotomy j j' with l | l | l
        · exact absurd h3 (a4 j h1 l)
        · exact l.symm
        · exact absurd a3 (h4 j' a1 l)
      subst e
      exact ⟨.bl true, _, I.write (x := it) (e := it) (t' := s.toks) mu (.inl rfl) (fun b o nb e => h6 b o nb e) (let ⟨o, ho, _⟩ := h5; ⟨o, ho⟩) (ti_ok h5), rfl, q⟩
    · exact absurd h3 (a1 j h1)
  · rcases q with ⟨j', a1, a3, a4, q⟩ | ⟨a1, q⟩
    · exact absurd a3 (h1 j' a1)
    · have I2 := ItX.inv_drop I hit
      obtain ⟨f0, f1, f2, f3, f4, f5⟩ := ItX.inv_fp I hit hn
      exact ⟨.bl false, _, I2.turned (t' := s.toks) (fun b o nb e => h3 b o nb e) f0 f1 f3 f4 f5, rfl, q⟩
end
end Ka
/-! enumerate(t) of a tuple; xs[i] op= e of a list. -/
namespace Ka
open PySem PySem.Spec PyProof.Rows L2
open AutoSeq1 (wpAny_loadPart')

theorem meets_enumerate_newT (l : Addr) (items : Array Value) (o : Obj) (ho : o.cls = .type "tuple") (hd : ∃ n, o.data = .seq items n) :
    Meets (Builtin.«enumerate.__new__» ⟨[.type "enumerate", .ref l], []⟩) (fun _ R s => s.heap.get? l = some o ∧
      R (.ok (.ret (.ref (s.heap.push { cls := .type "tuple_iterator", data := .fields #[.ref l, .int 0 0] }).objs.size)))
        { s with heap := (s.heap.push { cls := .type "tuple_iterator", data := .fields #[.ref l, .int 0 0] }).push { cls := .type "enumerate", data := .fields #[.none, .bool false, .ref s.heap.objs.size, rawInt 0, .none, .none] } }) :=
  .of_wp fun prog w A R s h => by
    obtain ⟨hp, g, d, tk, os⟩ := s; obtain ⟨hl, h⟩ := h
    obtain ⟨c, dct, dt, sl⟩ := o
    obtain ⟨n, hd⟩ := hd
    replace ho : c = .type "tuple" := ho
    replace hd : dt = .seq items n := hd
    subst ho hd
    have hsub := sub_enumerate
    have hL : Heap.IsTuple (Shared.heap ⟨hp, g, d, tk, os⟩) l items := ⟨_, hl, rfl, n, rfl⟩
    wp_walk using wpAny_loadPart' hl
    refine wpAny_stack_any fun st => wpAny_pure ?_
    split
    · rename_i c _ _ _ _ _
      cases (c == Value.type "enumerate")
      · wp_walk using wpAny_loadPart' hl, wpAny_pyIter_tuple hL
        exact ⟨_, rfl, h⟩
      · wp_walk using wpAny_loadPart' hl, wpAny_pyIter_tuple hL
        exact ⟨_, rfl, h⟩
    · wp_walk using wpAny_loadPart' hl, wpAny_pyIter_tuple hL
      exact ⟨_, rfl, h⟩

section
variable {prog : Program} {w : World} {A : Around} {E : Value → Shared → Prop} {s : Shared}
theorem call_enumerate_tuple {l : Addr} {items : Array Value} {Q : Value → Shared → Prop} (hL : s.heap.IsTuple l items)
    (h : ∀ h', IsEnum h' (s.heap.objs.size + 1) s.heap.objs.size 0 .none → h'.IsTupleIter s.heap.objs.size l 0 → h'.objs.size = s.heap.objs.size + 2 →
      (∀ b o, s.heap.get? b = some o → h'.get? b = some o) → Q (.ref (s.heap.objs.size + 1)) { s with heap := h' }) :
    wpAny (model prog w) A (call (.type "enumerate") [.ref l]) Q E s := by
  obtain ⟨o, hl, hc, hd⟩ := hL
  refine callType_new F.called_enumerate (by decide) (F.typeCall_enumerate_1 _) (F.newCall_enumerate_1 _) (fun obj => F.args_object_init_2 obj _) F.entry_enumerate_new
    (meets_enumerate_newT l items o hc hd) ⟨hl, ?_⟩
  have hz : (s.heap.push { cls := .type "tuple_iterator", data := .fields #[.ref l, .int 0 0] }).objs.size = s.heap.objs.size + 1 := Heap.size_push ..
  show _ ∧ _
  rw [hz]
  have he : IsEnum ((s.heap.push { cls := .type "tuple_iterator", data := .fields #[.ref l, .int 0 0] }).push
      { cls := .type "enumerate", data := .fields #[.none, .bool false, .ref s.heap.objs.size, rawInt 0, .none, .none] }) (s.heap.objs.size + 1) s.heap.objs.size 0 .none := by
    have := Heap.get?_push_size (s.heap.push { cls := .type "tuple_iterator", data := .fields #[.ref l, .int 0 0] })
      (o := { cls := .type "enumerate", data := .fields #[.none, .bool false, .ref s.heap.objs.size, rawInt 0, .none, .none] }) rfl
    rw [hz] at this; exact this
  refine ⟨⟨_, he, rfl⟩, h _ he ⟨_, Heap.get?_push_of_some _ (Heap.get?_push_size _ rfl), rfl, rfl⟩ (by rw [Heap.size_push, hz]) fun b o x => Heap.get?_push_of_some _ (Heap.get?_push_of_some _ x)⟩
end

/-- the tuple at a, each item in a new pair -/
def Iet (K : PySem.W.Frag) (a : Addr) : It :=
  ⟨fun i H => ∃ (xs : List V) (x : V), SqT K H a xs ∧ xs[i]? = some x, fun i H v H' => ∃ T x, v = .ref T ∧ H T = none ∧ H' = upd H T (.tup [.int (i : Nat), x]) ∧ ∀ xs, SqT K H a xs → xs[i]? = some x, fun i H => ∃ xs : List V, SqT K H a xs ∧ xs.length ≤ i⟩
theorem turn_enumT {P : Program} {w : World} {K : PySem.W.Frag} {elts : List Expr} {kk : Nat} {tpos : Pos} (a e it : Addr) (hae : a ≠ e) (hai : a ≠ it) (len : Nat) :
    Turn P w K (.Tuple elts kk tpos) (Iet K a) [e, it] e (fun i h => (∃ old, IsEnum h e it ((i : Nat) : Int) old) ∧ h.IsTupleIter it a i ∧ e ≠ it) where
  mem := by simp
  obj := fun i h st b hb => by
    obtain ⟨⟨old, he⟩, ⟨o, ho, hc, hd⟩, _⟩ := st
    have e' : b = e ∨ b = it := by simpa using hb
    rcases e' with z | z
    · rw [z]; exact ⟨_, he, fun v q => nomatch q⟩
    · rw [z]; exact ⟨o, ho, fun v q => by rw [hd] at q; cases q⟩
  keep := fun i h h' st k => let ⟨⟨old, he⟩, hi, hne⟩ := st; ⟨⟨old, k e (by simp) _ he⟩, hi.at fun o q => k it (by simp) o q, hne⟩
  item := by
    intro X hP hw hK hc i pins s σ H E I hf st hg
    subst hP hw hK
    obtain ⟨⟨old, he⟩, hit, hne⟩ := st
    obtain ⟨xs, x, hq, hx⟩ := hg
    obtain ⟨its, rv, p, hz⟩ := I.tuple hq
    obtain ⟨u, hu, ru⟩ := rv.get hx
    have hel : e < s.heap.objs.size := Heap.lt_size he
    have hil : it < s.heap.objs.size := by obtain ⟨_, q, _⟩ := hit; exact Heap.lt_size q
    have hit0 : i < its.toArray.size := by
      have := (List.getElem?_eq_some_iff.mp hu).1
      simpa using this
    refine wpAny_pyNext_enum_itemD (Draws.tuple (A := X.A.in1) (by first | exact I.ok.hd hc | (show X.A.handled = none; exact I.ok.hd hc)) it a hai its.toArray) he ⟨hit, p⟩ hit0 hne (by simp [hne, Ne.symm hae]) fun x' h' tk hx' ho hst hT hsz hk => ?_
    have ex : x' = u := by
      have h2 : its.toArray[i]? = some u := by simpa using hu
      rw [h2] at hx'
      exact (Option.some.inj hx').symm
    subst ex
    refine ⟨_, rfl, wpAny_letOwnedTupleGo_enum (s := { s with heap := h', toks := tk + 1 }) ho fun h'' he' sb => ?_⟩
    have hT2 : h''.get? s.heap.objs.size = some { cls := .type "tuple", data := .seq #[.int i tk, x'] } := (sb.2 _ (Nat.ne_of_gt hel)).trans hT
    have new : ObjOk X.prog X.w (upd H s.heap.objs.size (.tup [.int (i : Nat), x])) h'' s.heap.objs.size (.tup [.int (i : Nat), x]) :=
      ⟨by show 2 ≤ sizeLine; decide, [.int i tk, x'], .cons ⟨_, rfl⟩ (.cons ru .nil), ⟨_, hT2, rfl, _, rfl⟩⟩
    have I1 : Inv X pins σ (upd H s.heap.objs.size (.tup [.int (i : Nat), x])) { s with heap := h'', toks := tk + 1 } :=
      I.turnedNew (ch := [e, it]) (fun b ob hb q => (sb.2 b (fun z => hb (by simp [z]))).trans (hk b ob (fun z => hb (by simp [z])) (fun z => hb (by simp [z])) q)) hf (Nat.le_refl _) new
    refine ⟨.ref s.heap.objs.size, _, I1, rfl, ⟨_, x, rfl, I.hok.fresh (Nat.le_refl _), rfl, fun ys hy => by rw [I.tuple_inj hy hq]; exact hx⟩, ⟨⟨x', ?_⟩, hst.1.at fun o q => (sb.2 it (Ne.symm hne)).trans q, hne⟩, fun b hb => ?_⟩
    · have e1 : ((i + 1 : Nat) : Int) = (i : Int) + 1 := by omega
      rw [e1]; exact he'
    · have hb' : b < s.heap.objs.size := by
        have e' : b = e ∨ b = it := by simpa using hb
        rcases e' with z | z
        · rw [z]; exact hel
        · rw [z]; exact hil
      rw [upd_ne (Nat.ne_of_lt hb')]
      exact (hf b hb).1
  done := by
    intro X hP hw hK hc i pins s σ H E I hf st hg
    subst hP hw hK
    obtain ⟨⟨old, he⟩, hit, hne⟩ := st
    obtain ⟨xs, hq, hx⟩ := hg
    obtain ⟨its, rv, p, hz⟩ := I.tuple hq
    obtain ⟨f0, f1, f2, f3, f4, f5⟩ := hf it (by simp)
    have hl := rv.length
    have hT : s.TypeIs (.ref e) "enumerate" := ⟨_, he, rfl⟩
    unfold pyNext
    refine wpAny_bind (wpAny_attempt (wpAny_callSpecial?_slot (name := Str.ofString "__next__") hT F.slot_enumerate_next
      (wpAny_call_entry F.slot_enumerate_next hT F.entry_enumerate_next ?_ (F.args_enumerate_next_1 _))))
    show wpAny _ _ (field (.ref e) 2 >>= _) _ _ _
    refine wpAny_bind (wpAny_field he rfl (x := .ref it) rfl ?_)
    refine wpAny_bind (wpAny_nextOf_tuple_end (by first | exact I.ok.hd hc | (show X.A.handled = none; exact I.ok.hd hc)) hit p (by rw [Array.getElem?_eq_none_iff]; simp; omega) fun h' x he' hx' => ?_)
    obtain ⟨o, ho, hc'⟩ := hx'
    refine wpAny_bind (wpAny_isInstance (T := "StopIteration") (b := true) ⟨o, ho, hc'⟩ isSubtype_stop ?_)
    exact wpAny_pure ⟨rfl, I.turned (t' := s.toks) (fun b o hb q => he' b o hb q) f0 f1 f3 f4 f5⟩
  self := fun A i s Q E st h => let ⟨⟨_, he⟩, _⟩ := st; wpAny_pyIter_enum he h
def iEnumT (K : PySem.W.Frag) (ta : TA) : TI := fun σ H R => ta σ H fun vs H1 => ∃ a xs, vs = [.ref a] ∧ SqT K H1 a xs ∧ R (Iet K a) H1
theorem pi_enumT {X : Cx} {e : Expr} {ta : TA} {p pos tpos : Pos} {elts : List Expr} {kk : Nat} (hg : Gl X "enumerate") (hm : X.mg "enumerate" = none) (ha : PA X [e] ta) (hs : starEach [e] X.env = [(false, eval e X.env)] := by rfl) :
    PI X (.Tuple elts kk tpos) (.Call (.Name "enumerate" p) [e] [] pos) (iEnumT X.K ta) := by
  refine ⟨fun pins s σ H R I h => ?_⟩
  refine Call_ (ld_blt I hg hm boot_enumerate (PyProof.Rows.callWith_type1 (thn (ha.run pos pins s σ H _ I h) fun us s1 ⟨vs, H1, I1, r1, q1⟩ => ?_) hs rfl))
  obtain ⟨a, xs, ex, hq, q⟩ := q1
  subst ex
  cases r1 with
  | cons r rr =>
    cases rr
    cases r
    obtain ⟨its, rv, p', hz⟩ := I1.tuple hq
    have hal : a < s1.heap.objs.size := by obtain ⟨_, z, _⟩ := p'; exact Heap.lt_size z
    refine call_enumerate_tuple p' fun h' he hit hsz hk => wpAny_pyIter_enum he ?_
    have I2 : Inv X pins σ H1 { s1 with heap := h' } := I1.kept (t' := s1.toks) hk
    refine ⟨s1.heap.objs.size + 1, [s1.heap.objs.size + 1, s1.heap.objs.size], _, _, H1, rfl, I2, turn_enumT a (s1.heap.objs.size + 1) s1.heap.objs.size (Nat.ne_of_lt (Nat.lt_succ_of_lt hal)) (Nat.ne_of_lt hal) 0, ⟨⟨.none, he⟩, hit, Nat.succ_ne_self _⟩, fun b hb => ?_, q⟩
    have e' : b = s1.heap.objs.size + 1 ∨ b = s1.heap.objs.size := by simpa using hb
    have hle : s1.heap.objs.size ≤ b := by
      rcases e' with z | z
      · rw [z]; exact Nat.le_add_right _ _
      · rw [z]; exact Nat.le_refl _
    exact I1.fpOk hle (I1.hok.fresh hle)

/-- a loop over enumerate(t), by one word a turn -/
theorem for_enumT {K : PySem.W.Frag} {a : Addr} {xs : List V} {g : TG} {tb : TS} {D : Ends} {σ : L2.St} {H : Hp} (Pv : Nat → L2.St → Hp → Prop) (h0 : Pv 0 σ H) (hl : ∀ i σ H, Pv i σ H → SqT K H a xs)
    (hs : ∀ i x T σ H, xs[i]? = some x → Pv i σ H → H T = none → g (.ref T) σ (upd H T (.tup [.int (i : Nat), x])) fun σ2 H2 => tb { D with nx := Pv (i + 1), ct := Pv (i + 1), bk := D.nx } σ2 H2)
    (hd : ∀ σ H, Pv xs.length σ H → D.nx σ H) :
    ∃ W : Nat → Nat → L2.St → Hp → Prop, (∃ m, W 0 m σ H) ∧ ∀ i m σ H, W i m σ H →
      ((Iet K a).stop i H ∧ D.nx σ H) ∨ ((Iet K a).go i H ∧ ∃ N : L2.St → Hp → Prop, (∀ σ' H', N σ' H' → ∃ m', m' < m ∧ W (i + 1) m' σ' H') ∧ ∀ x H', (Iet K a).yld i H x H' → g x σ H' fun σ2 H2 => tb { D with nx := N, ct := N, bk := D.nx } σ2 H2) := by
  refine ⟨fun i m σ H => m = xs.length - i ∧ i ≤ xs.length ∧ Pv i σ H, ⟨_, rfl, Nat.zero_le _, h0⟩, ?_⟩
  rintro i m σ H ⟨rfl, hi, p⟩
  have q := hl i σ H p
  by_cases hlt : i < xs.length
  · refine .inr ⟨⟨xs, xs[i], q, List.getElem?_eq_getElem hlt⟩, Pv (i + 1), fun σ' H' p' => ⟨xs.length - (i + 1), by omega, rfl, hlt, p'⟩, fun x H' y => ?_⟩
    obtain ⟨T, z, rfl, nT, rfl, hz⟩ := y
    exact hs i z T σ H (hz xs q) p nT
  · have e : i = xs.length := by omega
    refine .inl ⟨⟨xs, q, Nat.le_of_eq e.symm⟩, hd σ H ?_⟩
    rw [← e]
    exact p

/-! ### xs[i] op= e -/
def gtL (K : PySem.W.Frag) : V → V → Hp → VK → Prop := fun x y H Q => ∃ p xs j v, x = .ref p ∧ y = .int ((j : Nat) : Int) ∧ SqL K H p xs ∧ j < 2 ^ 62 ∧ xs[j]? = some v ∧ Q v H
theorem get_list {X : Cx} : PGet X (gtL X.K) := by
  intro pins s σ H o i ov iv Q I ro ri h
  obtain ⟨p, xs, j, v, rfl, rfl, hq, hj, hv, q⟩ := h
  cases ro
  obtain ⟨t, rfl⟩ := ri
  obtain ⟨its, r, pl, hz⟩ := I.list hq
  obtain ⟨u, hu, ru⟩ := r.get hv
  exact wpAny_getItem_list pl.isList (by omega) (by omega) (by simpa using hu) ⟨v, H, I, ru, q⟩
end Ka
/-! t[::-1] of a tuple. -/
namespace Ka
open PySem PySem.Spec PyProof.Rows L2 HT

theorem back_places (n : Nat) : Builtin.Slice.slicePlaces ((n : Int) - 1) (-1) (-1) = n := by
  unfold Builtin.Slice.slicePlaces
  rw [if_neg (by decide)]
  by_cases h : n = 0
  · subst h
    rfl
  · rw [if_pos (by omega)]
    have e : ((n : Int) - 1 - -1 - 1) / (- -1) + 1 = n := by
      rw [show (-(-1 : Int)) = 1 by decide, Int.ediv_one]
      omega
    rw [e]
    exact Int.toNat_natCast n

theorem back_some (xs : Array Value) (f : Nat → Option Value) (hf : ∀ k, k < xs.size → f k = xs.toList.reverse[k]?) : ∀ l : List Nat, (∀ k ∈ l, k < xs.size) → l.filterMap f = l.map fun k => xs.toList.reverse[k]?.getD .none
  | [], _ => rfl
  | k :: l, h => by
    have hk : k < xs.size := h k List.mem_cons_self
    have h2 : k < xs.toList.reverse.length := by simpa using hk
    rw [List.filterMap_cons, hf k hk, List.map_cons, back_some xs f hf l fun j hj => h j (List.mem_cons_of_mem _ hj), List.getElem?_eq_getElem h2]
    rfl
theorem back_items (xs : Array Value) : ((List.range xs.size).filterMap fun (k : Nat) => xs[((xs.size : Int) - 1 + (k : Int) * -1).toNat]?) = xs.toList.reverse := by
  rw [back_some xs _ (fun k hk => ?_) _ fun k hk => List.mem_range.mp hk]
  · apply List.ext_getElem?
    intro i
    rw [List.getElem?_map]
    by_cases hi : i < xs.size
    · have h2 : i < xs.toList.reverse.length := by simpa using hi
      rw [List.getElem?_range hi, Option.map_some, List.getElem?_eq_getElem h2]
      rfl
    · rw [List.getElem?_eq_none (by simpa using hi), List.getElem?_eq_none (by simpa using hi)]
      rfl
  · have e : ((xs.size : Int) - 1 + (k : Int) * -1).toNat = xs.size - 1 - k := by omega
    rw [e, List.getElem?_reverse (by simpa using hk), Array.length_toList, Array.getElem?_toList]

section
variable {prog : Program} {w : World} {A : Around} {E : Value → Shared → Prop} {s : Shared}
theorem applied_back {sl : Addr} {vl vu vs : Value} {n : Nat} {Q : Int × Int × Nat → Shared → Prop} (hs : s.heap.IsSliceOf sl vl vu vs) (pl : IsPart vl none) (pu : IsPart vu none) (ps : IsPart vs (some (-1)))
    (h : Q ((n : Int) - 1, -1, n) s) : wpAny (model prog w) A (Builtin.Slice.sliceApplied (.ref sl) (pure (n : Int))) Q E s := by
  obtain ⟨o, ho, _, hd⟩ := hs
  unfold Builtin.Slice.sliceApplied Builtin.Slice.sliceFields
  refine wpAny_bind (wpAny_bind (wpAny_field ho hd (x := vl) rfl (wpAny_bind (wpAny_field ho hd (x := vu) rfl (wpAny_bind (wpAny_field ho hd (x := vs) rfl (wpAny_pure ?_)))))))
  refine wpAny_bind (slicePart_ ps ?_)
  refine wpAny_ite_split (fun z => absurd z (by decide)) fun _ => ?_
  refine wpAny_bind (slicePart_ pl (wpAny_bind (slicePart_ pu (wpAny_bind (wpAny_pure (wpAny_pure ?_))))))
  have e : Builtin.Slice.slicePlaces ((n : Int) - 1) (-1) (-1) = n := back_places n
  show Q ((n : Int) - 1, -1, Builtin.Slice.slicePlaces ((n : Int) - 1) (-1) (-1)) s
  rw [e]
  exact h

theorem getItem_back {t sl : Addr} {items : Array Value} {vl vu vs : Value} {Q : Value → Shared → Prop} (ht : IsTup s.heap t items) (hs : s.heap.IsSliceOf sl vl vu vs) (pl : IsPart vl none) (pu : IsPart vu none) (ps : IsPart vs (some (-1)))
    (hz : items.size ≤ sizeLine) (h : Q (.ref s.heap.objs.size) { s with heap := s.heap.push { cls := .type "tuple", data := .seq items.toList.reverse.toArray } }) : wpAny (model prog w) A (getItem (.ref t) (.ref sl)) Q E s := by
  have hT : s.TypeIs (.ref sl) "slice" := let ⟨o, ho, hc, _⟩ := hs; ⟨o, ho, hc⟩
  have hok : sizeOk (.seq items.toList.reverse.toArray) := by
    show items.toList.reverse.toArray.size ≤ sizeLine
    simpa using hz
  unfold getItem
  try with_reducible refine wpAny_holding ?_
  first | refine wpAny_bind (wpAny_pure ?_) | skip
  refine wpAny_bind (wpAny_sequenceKey ht.typeIs (by decide) ?_)
  refine wpAny_bind (wpAny_callSpecial?_slot (name := Str.ofString "__getitem__") ht.typeIs PyProof.Rows.slot_tuple_getitem
    (wpAny_call_entry PyProof.Rows.slot_tuple_getitem ht.typeIs entry_tuple_getitem ?_ (args_tuple_getitem _ _)))
  show wpAny _ _ (Builtin.Tuple.tupleItemsOf (.ref t) >>= _) _ _ s
  refine wpAny_bind (tupleItemsOf_ ht (wpAny_bind (wpAny_typeOf hT ?_)))
  rw [if_pos (by decide)]
  refine wpAny_bind (applied_back hs pl pu ps ?_)
  refine wpAny_ite_split (fun z => ?_) fun _ => ?_
  · exfalso
    simp at z
  · rw [back_items]
    first
      | exact wpAny_bind (m := Builtin.Tuple.tupleExact _) (wpAny_newObj_type (wpAny_pure ⟨_, rfl, wpAny_pure h⟩) hok)
      | exact wpAny_bind (m := Builtin.Tuple.tupleExact _) (wpAny_newObj_type (wpAny_bind (wpAny_pure (wpAny_pure ⟨_, rfl, wpAny_pure h⟩))) hok)
      | exact wpAny_bind (wpAny_bind (m := Builtin.Tuple.tupleExact _) (wpAny_newObj_type (wpAny_pure (wpAny_pure ⟨_, rfl, wpAny_pure h⟩)) hok))
      | exact wpAny_bind (wpAny_bind (m := Builtin.Tuple.tupleExact _) (wpAny_newObj_type (wpAny_pure ⟨_, rfl, wpAny_pure h⟩) hok))
end

def tRevT (K : PySem.W.Frag) (te : TE) : TE := fun σ H Q => te σ H fun x H1 => ∃ a xs, x = .ref a ∧ SqT K H1 a xs ∧ ∀ p, H1 p = none → Q (.ref p) (upd H1 p (.tup xs.reverse))
theorem pe_revT {X : Cx} {e : Expr} {te : TE} {k : Nat} {p1 p2 p3 pos : Pos} (he : PE X e te) : PE X (.Subscript e (.Slice none none (some (.UnaryOp .USub (.Constant (.int 1) k p1) p2)) p3) pos) (tRevT X.K te) := by
  refine ⟨fun pins s σ H Q I h => Subscript_ (thn (he.run pins s σ H _ I h) fun v s1 ⟨x, H1, I1, r1, a, xs, ex, hx, q⟩ => ?_)⟩
  subst ex
  cases r1
  have hm : PO X (some (.UnaryOp .USub (.Constant (.int 1) k p1) p2)) (tPart (tUn (rU fun i => .int (-i)) (tC (.int 1)))) := po_some (pe_un un_neg pe_int)
  refine wpAny_Slice (thn (po_none.run pins s1 σ H1 (fun o H2 => o = none ∧ H2 = H1) I1 ⟨rfl, rfl⟩) fun vl s2 ⟨l, H2, I2, pl, el, e2⟩ => ?_)
  subst el e2
  refine thn (po_none.run pins s2 σ H2 (fun o H3 => o = none ∧ H3 = H2) I2 ⟨rfl, rfl⟩) fun vu s3 ⟨u, H3, I3, pu, eu, e3⟩ => ?_
  subst eu e3
  refine thn (hm.run pins s3 σ H3 (fun o H4 => o = some (-1) ∧ H4 = H3) I3 ⟨1, rfl, -1, rfl, rfl, rfl⟩) fun vs s4 ⟨o, H4, I4, ps, eo, e4⟩ => ?_
  subst eo e4
  have I5 : Inv X pins σ H4 { s4 with heap := s4.heap.push { cls := .type "slice", data := .fields #[vl, vu, vs] } } := I4.kept (t' := s4.toks) fun b ob z => Heap.get?_push_of_some _ z
  obtain ⟨its, r, ht, hz⟩ := I5.tuple hx
  have hl := r.length
  show wpAny (model X.prog X.w) X.A (subscriptTail e (.Slice none none (some (.UnaryOp .USub (.Constant (.int 1) k p1) p2)) p3) (.ref a) (.ref s4.heap.objs.size)) (EP X pins σ Q) X.xe { s4 with heap := s4.heap.push { cls := .type "slice", data := .fields #[vl, vu, vs] } }
  refine tail_any (ops := [.ref a, .ref s4.heap.objs.size]) ht.typeIs PyProof.Rows.slot_tuple_getitem.lookup ?_ (by with_unfolding_all rfl)
  refine getItem_back ht (Heap.IsSliceOf.new _ vl vu vs) pl pu ps (by rw [List.size_toArray]; omega) ?_
  refine ⟨.ref _, _, I5.laid (t' := s4.toks) (o := .tup xs.reverse) (fun b ob z => Heap.get?_push_of_some _ z) (Nat.le_refl _) ?_, rfl, q _ (I5.hok.fresh (Nat.le_refl _))⟩
  exact ⟨by rw [List.length_reverse]; exact hz, _, r.reverse, IsTup.new _ _⟩
end Ka
/-! sorted(rows, key=f), f(row) = (len(row), row), rows of texts. -/
namespace Ka
open PySem PySem.Spec PyProof.Rows L2 PySem.W

/-- a row of texts as data, and its key -/
def rowD (r : List Str) : PyData := .tuple (r.map .str)
def keyOf (r : List Str) : PyData := .tuple [.int r.length, rowD r]
/-- the order of rows -/
def rowLe : List Str → List Str → Bool := dataLe false keyOf

theorem reads_strs {h : Heap} : ∀ {zs : List Str} {us : List Value}, Vals (zs.map V.str) us → ReadsAll h us (zs.map .str) []
  | [], [], _ => .nil
  | z :: zs, u :: us, r => by
    cases r with
    | cons a b =>
      obtain ⟨t, rfl⟩ := a
      exact ReadsAll.cons (as := []) (bs := []) (.str z t) (reads_strs b)
  | [], _ :: _, r => nomatch r
  | _ :: _, [], r => nomatch r

theorem alike_strs : ∀ (a b : List Str), alikeAll (a.map PyData.str) (b.map PyData.str) = true
  | [], _ => by simp [alikeAll]
  | _ :: _, [] => by simp [alikeAll]
  | x :: a, y :: b => by
    rw [List.map_cons, List.map_cons, alikeAll, alike_strs a b]
    simp [alike]
theorem alike_keys (a b : List Str) : alike (keyOf a) (keyOf b) = true := by
  unfold keyOf rowD
  simp [alike, alikeAll, alike_strs]
theorem depth_strs : ∀ a : List Str, PyData.depthAll (a.map PyData.str) ≤ 1
  | [] => by simp [PyData.depthAll]
  | x :: a => by
    have := depth_strs a
    rw [List.map_cons]
    simp only [PyData.depthAll, PyData.depth]
    omega
theorem depth_key (a : List Str) : (keyOf a).depth ≤ 3 := by
  have := depth_strs a
  unfold keyOf rowD
  simp only [PyData.depth, PyData.depthAll]
  omega

section
variable {prog : Program} {w : World} {A : Around} {E : Value → Shared → Prop} {s : Shared}
/-- what the tuple (len(x), x) is worth, where x holds a row -/
theorem key_expr {env : Env} {a : Addr} {zs : List Str} {its : List Value} {x : Str} {p1 p2 p3 p4 p5 : Pos} {k : Nat} (hsx : starEach [.Name x p2] env = [(false, eval (.Name x p2) env)])
    (hst : starEach [.Call (.Name "len" p1) [.Name x p2] [] p3, .Name x p4] env = [(false, eval (.Call (.Name "len" p1) [.Name x p2] [] p3) env), (false, eval (.Name x p4) env)])
    (hrow : ∀ (p : Pos) (Q : Value → Shared → Prop) (tk : Nat), Q (.ref a) { s with toks := tk } → wpAny (model prog w) A (eval (.Name x p) env) Q E { s with toks := tk })
    (hlen : ∀ (Q : Value → Shared → Prop), Q (.builtin "len") s → wpAny (model prog w) A (eval (.Name "len" p1) env) Q E s)
    (rv : Vals (zs.map V.str) its) (ht : IsTup s.heap a its.toArray) (hz : zs.length ≤ sizeLine) : wpAny (model prog w) A (eval (.Tuple [.Call (.Name "len" p1) [.Name x p2] [] p3, .Name x p4] k p5) env) (KeyPure (keyOf zs) s) E s := by
  have hl := rv.length
  have hs : sizeLine = 16777216 := sizeLine_eq
  rw [List.length_map] at hl
  refine wpAny_Tuple_spliced ?_
  rw [hst]
  refine Calls.spliced_cons (wpAny_Call_Name_kw (hlen _ (PyProof.Rows.callWith_builtin1 ?_ (by rw [hsx]; rfl) rfl)))
  rw [hsx]
  refine Calls.spliced_cons (hrow p2 _ s.toks (Calls.spliced_nil ?_))
  refine len_tuple ht (by rw [List.size_toArray]; omega) ?_
  refine Calls.spliced_cons (hrow p4 _ _ (Calls.spliced_nil ⟨by show 2 ≤ sizeLine; rw [hs]; decide, ?_⟩))
  refine ⟨_, _, rfl, fun b o e => Heap.get?_push_of_some _ e, ?_⟩
  refine Reads.tuple (Heap.get?_push_size _ rfl) rfl rfl (ReadsAll.cons (as := []) (bs := []) ?_ (ReadsAll.cons (as := []) (bs := []) ?_ .nil))
  · have e : ((its.toArray.size : Nat) : Int) = zs.length := by rw [List.size_toArray, hl]
    rw [e]
    exact .int _ _
  · obtain ⟨o, ho, hc, n, hd⟩ := ht
    exact Reads.keeps (fun b o e => Heap.get?_push_of_some _ e) (Reads.tuple ho hc hd (reads_strs rv))

/-- the frame of such a def: where its names are found -/
theorem key_frame {scope : Scope} {qual x : Str} {f a : Addr} {cd : Value} {clos : List (Str × Addr)} {mg mb : Str → Option Value} {zs : List Str} {its : List Value} {p1 p2 p3 p4 p5 : Pos} {k : Nat} {h₁ : Heap} {tk : Nat}
    (hk : scope.kind = .function) (hx : scope.names.lookup x = some .local) (hl : scope.names.lookup ("len" : Str) = some .globalImplicit) (hdx : (x == ("__debug__" : Str)) = false)
    (hg : s.heap.Ns mainGlobals mg) (hm : mg ("len" : Str) = none) (hb : s.heap.Ns builtinsNs mb) (hv : mb ("len" : Str) = some (.builtin "len"))
    (hns : h₁.Ns s.heap.objs.size fun y => [(x, Value.ref a)].reverse.lookup y) (kp : ∀ b o, s.heap.get? b = some o → h₁.get? b = some o) (rv : Vals (zs.map V.str) its) (ht : IsTup s.heap a its.toArray) (hz : zs.length ≤ sizeLine) :
    wpAny (model prog w) A (eval (.Tuple [.Call (.Name "len" p1) [.Name x p2] [] p3, .Name x p4] k p5) (newEnv scope s.heap.objs.size mainGlobals clos qual (some f) cd none builtinsNs)) (KeyPure (keyOf zs) s) E { s with heap := h₁, toks := tk } := by
  have nsk : ∀ {b : Addr} {m : Str → Option Value}, s.heap.Ns b m → h₁.Ns b m := fun ⟨o, es, ep, e, r⟩ => ⟨o, es, ep, kp _ _ e, r⟩
  have hrow : ∀ (p : Pos) (Q : Value → Shared → Prop) (tk' : Nat), Q (.ref a) { s with heap := h₁, toks := tk' } → wpAny (model prog w) A (eval (.Name x p) (newEnv scope s.heap.objs.size mainGlobals clos qual (some f) cd none builtinsNs)) Q E { s with heap := h₁, toks := tk' } :=
    fun p Q tk' q => wpAny_Name (wpAny_loadName_local (m := fun y => [(x, Value.ref a)].reverse.lookup y) hk hx hns (by simp) q) hdx
  have hlen : ∀ (Q : Value → Shared → Prop), Q (.builtin "len") { s with heap := h₁, toks := tk } → wpAny (model prog w) A (eval (.Name "len" p1) (newEnv scope s.heap.objs.size mainGlobals clos qual (some f) cd none builtinsNs)) Q E { s with heap := h₁, toks := tk } :=
    fun Q q => Calls.Name_function_global hk hl (Calls.loadGlobal_builtin (nsk hg) hm (nsk hb) hv q) (by decide)
  have ht' : IsTup h₁ a its.toArray := let ⟨o, ho, r⟩ := ht; ⟨o, kp _ _ ho, r⟩
  refine wpAny_mono (key_expr (s := { s with heap := h₁, toks := tk }) (by rfl) (by rfl) hrow hlen rv ht' hz) (fun v s' q => ?_) fun _ _ e => e
  obtain ⟨h', tk', rfl, k', r⟩ := q
  exact ⟨h', tk', rfl, fun b o e => k' b o (kp b o e), r⟩

/-- def f(x): return (len(x), x) -/
theorem call_keyDef {name qual : Str} {params : Arguments} {scope : Scope} {dV kV doc pm cdv ct : Value} {an : Option Addr} {x : Str} {f a : Addr} {o : Obj} {mg mb : Str → Option Value} {zs : List Str} {its : List Value} {p1 p2 p3 p4 p5 p6 : Pos} {k : Nat}
    (ho : s.heap.get? f = some o) (hd : o.data = .func (fnOf name qual params [.Return (some (.Tuple [.Call (.Name "len" p1) [.Name x p2] [] p3, .Name x p4] k p5)) p6] scope dV kV doc pm an cdv ct))
    (hroom : A.depth < recursionLimit) (hlim : s.heap.NoLimit) (hcd : s.heap.CodeRec cdv qual) (hbind : bindArgs (fnOf name qual params [.Return (some (.Tuple [.Call (.Name "len" p1) [.Name x p2] [] p3, .Name x p4] k p5)) p6] scope dV kV doc pm an cdv ct) ⟨[.ref a], []⟩ = pure [(x, .ref a)])
    (hk : scope.kind = .function) (hco : scope.isCoroutine = false) (hge : scope.isGenerator = false) (hc : ∀ y ∈ scope.names, y.2 ≠ .cell) (hx : scope.names.lookup x = some .local) (hl : scope.names.lookup ("len" : Str) = some .globalImplicit) (hdx : (x == ("__debug__" : Str)) = false)
    (hg : s.heap.Ns mainGlobals mg) (hm : mg ("len" : Str) = none) (hb : s.heap.Ns builtinsNs mb) (hv : mb ("len" : Str) = some (.builtin "len")) (rv : Vals (zs.map V.str) its) (ht : IsTup s.heap a its.toArray) (hz : zs.length ≤ sizeLine) :
    wpAny (model prog w) A (call (.ref f) [.ref a]) (KeyPure (keyOf zs) s) E s := by
  refine wpAny_call (codeAny_mono (R := fun r s' => ∃ v, r = .ok (.ret v) ∧ KeyPure (keyOf zs) s v s') ?_ fun r s' ⟨v, e, q⟩ => by subst e; exact q)
  refine codeAny_call_function hroom ho hd hco hge rfl hcd ?_
  rw [hbind]
  refine wpAny_pure (wpAny_newFunctionEnv hc (fun y hy => by
    have e : y = (x, Value.ref a) := by simpa using hy
    rw [e]
    exact hx) (fun h₁ hns hsb => ⟨hlim.fresh _ hsb, ?_⟩) hk)
  refine codeAny_func (wpAny_execs_cons (wpAny_Return_some ?_))
  refine wpAny_mono (key_frame (E := fun _ _ => False) hk hx hl hdx hg hm hb hv hns (fun b o' e => hsb.extBut b o' (Nat.ne_of_lt (Heap.lt_size e)) (Heap.get?_push_of_some _ e)) rv ht hz) (fun v s' q => ⟨v, rfl, q⟩) fun _ _ z => z.elim

/-- lambda x: (len(x), x) -/
theorem call_keyLam {name qual : Str} {params : Arguments} {scope : Scope} {pm ct : Value} {c' : Addr} {x : Str} {f a : Addr} {clos : List (Str × Addr)} {mg mb : Str → Option Value} {zs : List Str} {its : List Value} {p1 p2 p3 p4 p5 : Pos} {k : Nat}
    (ho : s.heap.get? f = some (kla_obj name qual params (.Tuple [.Call (.Name "len" p1) [.Name x p2] [] p3, .Name x p4] k p5) scope clos pm c' ct))
    (hroom : A.depth < recursionLimit) (hlim : s.heap.NoLimit) (hcd : s.heap.CodeRec (.ref c') qual) (hbind : bindArgs (kla_fn name qual params (.Tuple [.Call (.Name "len" p1) [.Name x p2] [] p3, .Name x p4] k p5) scope clos pm (.ref c') ct) ⟨[.ref a], []⟩ = pure [(x, .ref a)])
    (hk : scope.kind = .function) (hco : scope.isCoroutine = false) (hge : scope.isGenerator = false) (hc : ∀ y ∈ scope.names, y.2 ≠ .cell) (hx : scope.names.lookup x = some .local) (hl : scope.names.lookup ("len" : Str) = some .globalImplicit) (hdx : (x == ("__debug__" : Str)) = false)
    (hg : s.heap.Ns mainGlobals mg) (hm : mg ("len" : Str) = none) (hb : s.heap.Ns builtinsNs mb) (hv : mb ("len" : Str) = some (.builtin "len")) (rv : Vals (zs.map V.str) its) (ht : IsTup s.heap a its.toArray) (hz : zs.length ≤ sizeLine) :
    wpAny (model prog w) A (call (.ref f) [.ref a]) (KeyPure (keyOf zs) s) E s := by
  refine wpAny_call (codeAny_mono (R := fun r s' => ∃ v, r = .ok (.ret v) ∧ KeyPure (keyOf zs) s v s') ?_ fun r s' ⟨v, e, q⟩ => by subst e; exact q)
  refine kla_callFunE hroom ho rfl hco hge rfl hcd ?_
  rw [hbind]
  refine wpAny_pure (wpAny_newFunctionEnv hc (fun y hy => by
    have e : y = (x, Value.ref a) := by simpa using hy
    rw [e]
    exact hx) (fun h₁ hns hsb => ⟨hlim.fresh _ hsb, ?_⟩) hk)
  refine kla_codeExpr ?_
  refine wpAny_mono (key_frame (E := fun _ _ => False) hk hx hl hdx hg hm hb hv hns (fun b o' e => hsb.extBut b o' (Nat.ne_of_lt (Heap.lt_size e)) (Heap.get?_push_of_some _ e)) rv ht hz) (fun v s' q => ⟨v, rfl, q⟩) fun _ _ z => z.elim
end

/-! ### over the layer -/
/-- a row of texts at an address -/
abbrev Row := Addr × List Str
def leRow (r q : Row) : Bool := rowLe r.2 q.2
/-- a call of the key: it keeps the heap, and gives the row's key -/
def KeyAt (X : Cx) (s : Shared) (f : Addr) : Prop := ∀ (h : Heap) (tk : Nat), (∀ b o, s.heap.get? b = some o → h.get? b = some o) → ∀ (a : Addr) (zs : List Str) (its : List Value), Vals (zs.map V.str) its → IsTup h a its.toArray → zs.length ≤ sizeLine →
  wpAny (model X.prog X.w) X.A.in1.in1 (call (.ref f) [.ref a]) (KeyPure (keyOf zs) { s with heap := h, toks := tk }) (fun _ _ => False) { s with heap := h, toks := tk }

theorem rows_each {rs : List Row} {us : List Value} (r : Vals (rs.map fun r => V.ref r.1) us) : EachIs (fun v (b : Row) => v = Value.ref b.1) us rs := by
  induction rs generalizing us with
  | nil =>
    cases r
    exact .nil
  | cons x rs ih =>
    cases r with
    | cons a b =>
      cases a
      exact .cons rfl (ih b)
theorem each_rows {rs : List Row} {us : List Value} (e : EachIs (fun v (b : Row) => v = Value.ref b.1) us rs) : Vals (rs.map fun r => V.ref r.1) us := by
  induction e with
  | nil => exact .nil
  | cons h t ih =>
    subst h
    exact .cons rfl ih
theorem all_alike (rs : List Row) : AllAlike (rs.map fun r => keyOf r.2) := by
  intro d hd d' hd'
  obtain ⟨r, _, rfl⟩ := List.mem_map.mp hd
  obtain ⟨q, _, rfl⟩ := List.mem_map.mp hd'
  exact alike_keys _ _
theorem all_sortable (rs : List Row) : Sortable (rs.map fun r => keyOf r.2) := Sortable.tuples fun r => ⟨_, _, rfl⟩

section
variable {X : Cx} {pins : List (Addr × Obj)} {σ : L2.St} {H : Hp} {s : Shared}
theorem sorted_list {a f : Addr} {rs : List Row} {Q : VK} (I : Inv X pins σ H s) (hu : X.A.units + 64 < cLine) (hs : SqL X.K H a (rs.map fun r => V.ref r.1)) (hr : ∀ r ∈ rs, SqT X.K H r.1 (r.2.map V.str)) (hf : KeyAt X s f)
    (q : ∀ p, H p = none → Q (.ref p) (upd H p (.lst ((rs.mergeSort leRow).map fun r => V.ref r.1)))) : wpAny (model X.prog X.w) X.A (call (.builtin "sorted") [.ref a] [(Str.ofString "key", .ref f)]) (EP X pins σ Q) X.xe s := by
  obtain ⟨its, rv, hl, hz⟩ := I.list hs
  rw [List.length_map] at hz
  have e := rows_each rv
  refine sorted_key_data (b := false) (fun r : Row => keyOf r.2) hl.isList e (all_alike rs) (all_sortable rs) hz (fun r _ => ?_) (ksk_s1 _ _) (fun _ => ksk_l1 _ _) (fun _ => ksk_t1 _ _) (fun v r ev hm h tk kp => ?_) fun out c h' tk kp hn hD hlen eo => ?_
  · have := depth_key r.2
    omega
  · subst ev
    obtain ⟨its', rv', ht, hz'⟩ := I.tuple (hr r hm)
    rw [List.length_map] at hz'
    obtain ⟨o, ho, hr'⟩ := ht
    exact hf h tk kp r.1 r.2 its' rv' ⟨o, kp _ _ ho, hr'⟩ hz'
  · have hle : ((rs.mergeSort leRow).map fun r => V.ref r.1).length ≤ sizeLine := by
      rw [List.length_map, List.length_mergeSort]
      exact hz
    refine ⟨.ref _, _, I.laid (t' := tk) (o := .lst ((rs.mergeSort leRow).map fun r => V.ref r.1)) kp (Nat.le_succ _) ⟨hle, out, c, each_rows eo, hD⟩, rfl, q _ (I.hok.fresh (Nat.le_succ _))⟩

/-- the keys of a dict of rows -/
theorem dict_rows {kvs : List (List Key × V)} {xs : List (List Key × Addr × Value)} (r : KT H kvs xs) {rows : List (List Str)} (hk : kvs.map (·.1) = rows.map fun r => r.map Sum.inr) :
    ∃ rs : List Row, rs.map (·.2) = rows ∧ rs.map (·.1) = xs.map (fun x => x.2.1) ∧ ∀ r ∈ rs, H r.1 = some (.tup (r.2.map V.str)) := by
  induction r generalizing rows with
  | nil =>
    cases rows with
    | nil => exact ⟨[], rfl, rfl, fun r h => by cases h⟩
    | cons x y => simp at hk
  | @cons p q ps qs hq t ih =>
    cases rows with
    | nil => simp at hk
    | cons x rows =>
      rw [List.map_cons, List.map_cons, List.cons.injEq] at hk
      obtain ⟨rs, h1, h2, h3⟩ := ih hk.2
      refine ⟨(q.2.1, x) :: rs, by rw [List.map_cons, h1], by rw [List.map_cons, List.map_cons, h2], fun r hr => ?_⟩
      rcases List.mem_cons.mp hr with e | hr
      · subst e
        have e2 := hq.2.1
        rw [hk.1, List.map_map] at e2
        exact e2
      · exact h3 r hr

theorem sorted_dict {a f : Addr} {kvs : List (List Key × V)} {rows : List (List Str)} {Q : VK} (I : Inv X pins σ H s) (hc : X.calm = true) (hu : X.A.units + 64 < cLine) (hd : H a = some (.dT kvs)) (hk : kvs.map (·.1) = rows.map fun r => r.map Sum.inr) (hf : KeyAt X s f)
    (q : ∀ (rs : List Row) (p : Addr), rs.map (·.2) = rows.mergeSort rowLe → (∀ r ∈ rs, H r.1 = some (.tup (r.2.map V.str))) → H p = none → Q (.ref p) (upd H p (.lst (rs.map fun r => V.ref r.1)))) :
    wpAny (model X.prog X.w) X.A (call (.builtin "sorted") [.ref a] [(Str.ofString "key", .ref f)]) (EP X pins σ Q) X.xe s := by
  obtain ⟨z, lo, xs, rel, o, es, ep, ho, hx, hdat, hes, hno⟩ := I.hok a _ hd
  obtain ⟨rs, h1, h2, h3⟩ := dict_rows rel hk
  have hlen : rs.length = es.size := by
    have e1 := congrArg List.length h2
    have e2 := congrArg List.length hes
    rw [List.length_map, List.length_map] at e1
    rw [Array.length_toList, List.length_map] at e2
    omega
  have hz : rs.length ≤ sizeLine := by
    have e1 := congrArg List.length h2
    have e2 := Paired.length rel
    rw [List.length_map, List.length_map] at e1
    omega
  have raw : s.heap.DictRaw a es ep := ⟨o, ho, hx, hdat⟩
  refine call_function_entry_kw PyProof.Rows.kind_sorted PyProof.Rows.plain_sorted PyProof.Rows.entry_sorted (ksk_s1 _ _) ?_
  unfold Builtin.«sorted»
  refine wpAny_bind (m := checkCount "sorted" 1 1 _) (wpAny_pure ?_)
  refine wpAny_bind (kdu_collect (A := X.A.in1) (KdlSrc.rawDict (es := es) (ep := ep) lo) (I.ok.hd hc) raw (by omega) fun h' tk acc hkp hacc => ?_)
  have hal : acc.toList.length = rs.length := by rw [Array.length_toList, hacc.1, hlen]
  have each : EachIs (fun v (b : Row) => v = Value.ref b.1) acc.toList rs := by
    refine EachIs.of_zip hal fun p hp => ?_
    obtain ⟨i, hi⟩ := List.getElem?_of_mem hp
    rw [List.getElem?_zip_eq_some] at hi
    obtain ⟨hia, hib⟩ := hi
    obtain ⟨hsz, ev⟩ := hacc.2 i p.1 (by rw [← Array.getElem?_toList]; exact hia)
    have e1 : (rs.map (·.1))[i]? = some p.2.1 := by rw [List.getElem?_map, hib]; rfl
    have e2 : es.toList[i]? = some es[i] := by rw [Array.getElem?_toList, Array.getElem?_eq_getElem hsz]
    rw [h2, List.getElem?_map] at e1
    rw [hes, List.getElem?_map] at e2
    cases ex : xs[i]? with
    | none =>
      rw [ex] at e1
      cases e1
    | some x =>
      rw [ex] at e1 e2
      have e1' : x.2.1 = p.2.1 := Option.some.inj e1
      have e2' := Option.some.inj e2
      rw [ev, ← e2', ← e1']
      rfl
  have I1 : Inv X pins σ H { s with heap := h', toks := tk } := I.kept hkp
  refine wpAny_bind (wpAny_newList ?_ (by omega))
  have hoL : (h'.push (seqObj "list" acc.toList.toArray 0)).get? h'.objs.size = some (seqObj "list" acc.toList.toArray 0) := Heap.get?_push_size _ rfl
  have ne : ∀ {b : Addr} {o : Obj}, s.heap.get? b = some o → b ≠ h'.objs.size := fun e => Nat.ne_of_lt (Heap.lt_size (hkp _ _ e))
  refine wpAny_bind (wpAny_holding ?_)
  show wpAny (model X.prog X.w) X.A.in1 (call (.builtin "list.sort") [.ref h'.objs.size] [(Str.ofString "key", .ref f)]) _ _ { s with heap := h'.push (seqObj "list" acc.toList.toArray 0), toks := tk }
  refine list_sort_key_data (b := false) (s := { s with heap := h'.push (seqObj "list" acc.toList.toArray 0), toks := tk }) (fun r : Row => keyOf r.2) hoL each (all_alike rs) (all_sortable rs) hz (fun r _ => ?_) (ksk_l1 _ _) (ksk_t1 _ _) (fun v r ev hm h tk kp => ?_) fun out c h'' tk' kp hD hle eo => ?_
  · have hdep := depth_key r.2
    show X.A.units + 1 + 1 + (keyOf r.2).depth < cLine
    omega
  · subst ev
    obtain ⟨its', rv', ht, hz'⟩ := I.tuple (.inl (.inl (h3 r hm)))
    rw [List.length_map] at hz'
    obtain ⟨o, ho, hr'⟩ := ht
    have up : ∀ b o, s.heap.get? b = some o → h.get? b = some o := fun b o e => kp b o (ne e) (Heap.get?_push_of_some _ (hkp _ _ e))
    exact hf h tk up r.1 r.2 its' rv' ⟨o, up _ _ ho, hr'⟩ hz'
  · have hle2 : ((rs.mergeSort leRow).map fun r => V.ref r.1).length ≤ sizeLine := by
      rw [List.length_map, List.length_mergeSort]
      exact hz
    have up : ∀ b o, h'.get? b = some o → h''.get? b = some o := fun b o e => kp b o (Nat.ne_of_lt (Heap.lt_size e)) (Heap.get?_push_of_some _ e)
    refine wpAny_pure ⟨_, rfl, .ref h'.objs.size, _, I1.laid (t' := tk') (o := .lst ((rs.mergeSort leRow).map fun r => V.ref r.1)) up (Nat.le_refl _) ⟨hle2, out, c, each_rows eo, hD⟩, rfl, q _ _ ?_ (fun r hr => h3 r (List.mem_mergeSort.mp hr)) (I1.hok.fresh (Nat.le_refl _))⟩
    rw [← h1]
    exact sort_maps (fun r : Row => r.2) fun _ _ _ _ => rfl
end
end Ka
/-! sorted(e, key=f) of rows: f a def of the text, or a lambda. -/
namespace Ka
open PySem PySem.Spec PyProof.Rows L2 PySem.W

section
variable {X : Cx} {pins : List (Addr × Obj)} {σ : L2.St} {H : Hp} {s : Shared}
theorem deep2 {k : Nat} (hr : Room k X.A) : X.A.in1.in1.depth < recursionLimit := hr.depth
theorem ns_up {h h' : Heap} (kp : ∀ b o, h.get? b = some o → h'.get? b = some o) {b : Addr} {m : Str → Option Value} (n : h.Ns b m) : h'.Ns b m :=
  let ⟨o, es, ep, e, r⟩ := n; ⟨o, es, ep, kp _ _ e, r⟩
theorem code_up {h h' : Heap} (kp : ∀ b o, h.get? b = some o → h'.get? b = some o) {c : Value} {q : Str} (n : h.CodeRec c q) : h'.CodeRec c q :=
  let ⟨c, oc, vs, t, e1, e2, r⟩ := n; ⟨c, oc, vs, t, e1, kp _ _ e2, r⟩

/-- a def of the text that gives the key -/
theorem keyAt_def {name qual : Str} {params : Arguments} {scope : Scope} {dV kV doc pm cdv ct oc : Value} {an od : Option Addr} {osl : Array (Option Value)} {x : Str} {f : Addr} {p1 p2 p3 p4 p5 p6 : Pos} {k j : Nat} (I : Inv X pins σ H s) (hr : Room j X.A)
    (lk : X.K.lookup f = some ⟨oc, od, .func (fnOf name qual params [.Return (some (.Tuple [.Call (.Name "len" p1) [.Name x p2] [] p3, .Name x p4] k p5)) p6] scope dV kV doc pm an cdv ct), osl⟩) (hcd : codeIn X.K cdv qual = true) (hm : X.mg "len" = none)
    (hbind : ∀ v : Value, bindArgs (fnOf name qual params [.Return (some (.Tuple [.Call (.Name "len" p1) [.Name x p2] [] p3, .Name x p4] k p5)) p6] scope dV kV doc pm an cdv ct) ⟨[v], []⟩ = pure [(x, v)])
    (hk : scope.kind = .function) (hco : scope.isCoroutine = false) (hge : scope.isGenerator = false) (hc : ∀ y ∈ scope.names, y.2 ≠ .cell) (hx : scope.names.lookup x = some .local) (hl : scope.names.lookup ("len" : Str) = some .globalImplicit) (hdx : (x == ("__debug__" : Str)) = false) : KeyAt X s f := by
  intro h tk kp a zs its rv ht hz
  obtain ⟨mb, b1, b2⟩ := I.mod.blt
  exact call_keyDef (s := { s with heap := h, toks := tk }) (kp _ _ (I.kIn _ _ lk)) rfl (deep2 hr) (I.nolimit.keeps kp) (code_up kp (codeRec_of I.kIn hcd)) (hbind _) hk hco hge hc hx hl hdx (ns_up kp (I.mod.glob.keeps I.bk)) hm (ns_up kp (b1.keeps I.bk)) ((b2 "len" (by decide)).trans PySem.boot_len) rv ht hz

/-- a lambda that gives the key -/
theorem keyAt_lam {params : Arguments} {scope : Scope} {pm ct : Value} {c' : Addr} {q : Str} {x : Str} {f : Addr} {clos : List (Str × Addr)} {p1 p2 p3 p4 p5 : Pos} {k j : Nat} (I : Inv X pins σ H s) (hr : Room j X.A)
    (hf : s.heap.get? f = some (kla_obj "<lambda>" q params (.Tuple [.Call (.Name "len" p1) [.Name x p2] [] p3, .Name x p4] k p5) scope clos pm c' ct)) (hcd : H c' = some (LamX.CodeO c' q)) (hm : X.mg "len" = none)
    (hbind : ∀ v : Value, bindArgs (kla_fn "<lambda>" q params (.Tuple [.Call (.Name "len" p1) [.Name x p2] [] p3, .Name x p4] k p5) scope clos pm (.ref c') ct) ⟨[v], []⟩ = pure [(x, v)])
    (hk : scope.kind = .function) (hco : scope.isCoroutine = false) (hge : scope.isGenerator = false) (hc : ∀ y ∈ scope.names, y.2 ≠ .cell) (hx : scope.names.lookup x = some .local) (hl : scope.names.lookup ("len" : Str) = some .globalImplicit) (hdx : (x == ("__debug__" : Str)) = false) : KeyAt X s f := by
  intro h tk kp a zs its rv ht hz
  obtain ⟨mb, b1, b2⟩ := I.mod.blt
  obtain ⟨⟨oc, vs, t, hoc, hdc, hvc⟩, _, _⟩ := I.hok c' _ hcd
  exact call_keyLam (s := { s with heap := h, toks := tk }) (kp _ _ hf) (deep2 hr) (I.nolimit.keeps kp) ⟨c', oc, vs, t, rfl, kp _ _ hoc, hdc, hvc⟩ (hbind _) hk hco hge hc hx hl hdx (ns_up kp (I.mod.glob.keeps I.bk)) hm (ns_up kp (b1.keeps I.bk)) ((b2 "len" (by decide)).trans PySem.boot_len) rv ht hz
end

section
variable {X : Cx}
/-- sorted(e, key=f), e a list of rows or a dict of rows -/
def rSortK (K : PySem.W.Frag) (f : Addr) : List V → List V → Hp → VK → Prop := fun vs zs H Q => zs = [.ref f] ∧
  ((∃ (a : Addr) (rs : List Row), vs = [.ref a] ∧ SqL K H a (rs.map fun r => V.ref r.1) ∧ (∀ r ∈ rs, SqT K H r.1 (r.2.map V.str)) ∧ ∀ p, H p = none → Q (.ref p) (upd H p (.lst ((rs.mergeSort leRow).map fun r => V.ref r.1)))) ∨
   (∃ (a : Addr) (kvs : List (List L2.Key × V)) (rows : List (List Str)), vs = [.ref a] ∧ H a = some (.dT kvs) ∧ kvs.map (·.1) = rows.map (fun r => r.map Sum.inr) ∧
     ∀ (rs : List Row) (p : Addr), rs.map (·.2) = rows.mergeSort rowLe → (∀ r ∈ rs, H r.1 = some (.tup (r.2.map V.str))) → H p = none → Q (.ref p) (upd H p (.lst (rs.map fun r => V.ref r.1)))))
theorem cr_sortRows {f : Addr} (hc : X.calm = true) (hu : X.A.units + 64 < cLine) (hf : ∀ (pins : List (Addr × Obj)) (s : Shared) (σ : L2.St) (H : Hp), Inv X pins σ H s → KeyAt X s f) : CallRK X (.builtin "sorted") [Str.ofString "key"] (rSortK X.K f) := by
  intro pins s σ H vs zs us ws Q I r rz h
  obtain ⟨rfl, h⟩ := h
  obtain ⟨w1, rfl, e1⟩ := vals1 rz
  obtain rfl : w1 = Value.ref f := e1
  rcases h with ⟨a, rs, rfl, hs, hr, q⟩ | ⟨a, kvs, rows, rfl, hd, hk, q⟩
  · obtain rfl := Vals.ref1 r
    exact sorted_list I hu hs hr (hf _ _ _ _ I) q
  · obtain rfl := Vals.ref1 r
    exact sorted_dict I hc hu hd hk (hf _ _ _ _ I) q

/-- sorted(e, key=lambda x: (len(x), x)) -/
def tSortLam (K : PySem.W.Frag) (T : List (Addr × Str)) (te : TE) : TE := fun σ H Q => te σ H fun v H1 => ∃ (a : Addr) (rs : List Row), v = .ref a ∧ SqL K H1 a (rs.map fun r => V.ref r.1) ∧ (∀ r ∈ rs, SqT K H1 r.1 (r.2.map V.str)) ∧ LamX.Tabs T H1 ∧
  ∀ H2 p, LamX.ExtN H1 H2 → LamX.Tabs T H2 → H2 p = none → Q (.ref p) (upd H2 p (.lst ((rs.mergeSort leRow).map fun r => V.ref r.1)))
theorem rd_ext {H H' : Hp} {a : Addr} {u : HO} (h : Rd H a u) (e : LamX.ExtN H H') (hn : ∀ ps, u ≠ .tbl ps) : Rd H' a u := by
  rcases h with h | ⟨o, h⟩
  · exact .inl (e _ _ h hn)
  · exact .inr ⟨o, e _ _ h fun ps z => by cases z⟩
theorem sqL_ext {K : PySem.W.Frag} {H H' : Hp} {a : Addr} {xs : List V} (h : SqL K H a xs) (e : LamX.ExtN H H') : SqL K H' a xs := by
  rcases h with h | h
  · exact .inl (rd_ext h e fun ps z => by cases z)
  · exact .inr h
theorem sqT_ext {K : PySem.W.Frag} {H H' : Hp} {a : Addr} {xs : List V} (h : SqT K H a xs) (e : LamX.ExtN H H') : SqT K H' a xs := by
  rcases h with h | h
  · exact .inl (rd_ext h e fun ps z => by cases z)
  · exact .inr h
theorem pe_sortedLam {T : List (Addr × Str)} {c P : Addr} {params : Arguments} {scope : Scope} {x : Str} {e : Expr} {te : TE} {p lpos kpos pos p1 p2 p3 p4 p5 : Pos} {k j : Nat} (hr : Room j X.A) (hu : X.A.units + 64 < cLine) (hg : Gl X "sorted") (hm : X.mg "sorted" = none) (hml : X.mg "len" = none) (he : PE X e te)
    (TB : LamX.TabB X.base X.mg c P) (hcode : X.env.code = .ref c) (hmT : (P, X.env.qual ++ "<lambda>") ∈ T) (hu2 : ∀ p ∈ T, p.1 = P → p.2 = X.env.qual ++ "<lambda>") (hdef : defaultsOf params X.env = ([], [])) (hfree : ∀ y ∈ scope.names, y.2 ≠ .free)
    (hbind : ∀ (q : Str) (clos : List (Str × Addr)) (pm cd ct v : Value), bindArgs (kla_fn "<lambda>" q params (.Tuple [.Call (.Name "len" p1) [.Name x p2] [] p3, .Name x p4] k p5) scope clos pm cd ct) ⟨[v], []⟩ = pure [(x, v)])
    (hk : scope.kind = .function) (hco : scope.isCoroutine = false) (hge : scope.isGenerator = false) (hc : ∀ y ∈ scope.names, y.2 ≠ .cell) (hx : scope.names.lookup x = some .local) (hl : scope.names.lookup ("len" : Str) = some .globalImplicit) (hdx : (x == ("__debug__" : Str)) = false)
    (h1 : backTo pos (starEach [e] X.env) = (false, eval e X.env) :: backTo pos (starEach [] X.env) := by rfl) :
    PE X (.Call (.Name "sorted" p) [e] [⟨some "key", .Lambda params (.Tuple [.Call (.Name "len" p1) [.Name x p2] [] p3, .Name x p4] k p5) scope lpos, kpos⟩] pos) (tSortLam X.K T te) := by
  refine ⟨fun pins s σ H Q I h => ?_⟩
  refine wpAny_Call_Name_kw (ld_blt (u := .builtin "sorted") I hg hm (by decide +kernel) ?_ (by decide) (by decide))
  refine PyProof.Rows.callWith_kw ?_ h1 (by rw [h1]; rfl) (by rfl) (by rfl)
  rw [h1]
  refine Calls.spliced_cons (thn (he.run pins s σ H _ I h) fun u s1 ⟨v, H1, I1, r1, a, rs, ev, hs, hr', hT, q⟩ => Calls.spliced_nil ?_)
  subst ev
  obtain rfl : u = Value.ref a := r1
  show wpAny _ _ (evalAll [do let v ← eval (.Lambda params (.Tuple [.Call (.Name "len" p1) [.Name x p2] [] p3, .Name x p4] k p5) scope lpos) X.env; standAt pos; pure v]) _ _ s1
  refine wpAny_evalAll_cons (wpAny_bind (LamX.lam_make2 I1 TB hcode hmT hu2 hT hdef (fun y hy e => absurd e (hfree y hy)) fun f c' pm' ctv H2 s2 I2 eN T2 hf hfn hfr hco' => wpAny_bind (wpAny_standAt (wpAny_pure (wpAny_evalAll_nil ?_)))))
  refine sorted_list I2 hu (sqL_ext hs eN) (fun r hr0 => sqT_ext (hr' r hr0) eN) (keyAt_lam I2 hr hf hco' hml (fun v => hbind _ _ _ _ _ v) hk hco hge hc hx hl hdx) fun p' np => q H2 p' eN T2 np
end
end Ka
/-! {k: v for target in iter if ..} whose keys are tuples of texts and ints. -/
namespace Ka
open PySem PySem.Spec PyProof.Rows L2

theorem dT_set {X : Cx} {pins : List (Addr × Obj)} {σ : L2.St} {H : Hp} {s : Shared} {E : Value → Shared → Prop} {D b : Addr} {kvs : List (List L2.Key × V)} {k : List L2.Key} {v : V} {u r : Value} {Q : Unit → Shared → Prop} (hu : X.A.units + 1 < cLine) (I : Inv X pins σ H s) (hD : H D = some (.dT kvs)) (hz : kvs.length < sizeLine)
    (hb : H b = some (.tup (k.map kV))) (ry : RelV (.ref b) u) (rv : RelV v r) (h : ∀ s', Inv X pins σ (upd H D (.dT (putK kvs k v))) s' → Q () s') : wpAny (model X.prog X.w) X.A (dictSet D u r) Q E s := by
  cases (show u = Value.ref b from ry)
  obtain ⟨z, hd, xs, rel, dd⟩ := dt_of I.hok hD
  have hzx : xs.length ≤ sizeLine := by rw [← Paired.length rel]; exact z
  have hl : (putK kvs k v).length ≤ sizeLine := by have := length_putK kvs k v; omega
  refine wpAny_dictSet_heap (hsz := hzx) (knd := tupleKind (mixKind X.prog X.w)) ?_ (key_of I.hok hb) dd fun h' dd' hs => h _ ?_
  · show X.A.units < cLine
    omega
  · obtain ⟨q, es, ep, hq, h2, h3, h4, _, h5⟩ := dd'
    refine d_write I (by rw [hD]; exact True.intro) hs ⟨q, hq⟩ ⟨hl, hd, _, (rel.put k hb rv).keeps fun c ys ec => ?_, q, es, ep, hq, h2, h3, h4, h5⟩
    rw [upd_ne (ne_of ec hD fun z => nomatch z)]
    exact ec

section
variable {X : Cx}
/-- {k: v for target in iter}, keys tuples: D the new dict -/
def tDcT (wi : TI) (g : TG) (tk tv : TE) (vs : List Nat) : TE := fun σ H Q => wi σ H fun J H1 => ∀ D, H1 D = none → ∃ W : Nat → Nat → Hp → Prop, (∃ m, W 0 m (upd H1 D (.dT []))) ∧ ∀ i m H, W i m H →
  (J.stop i H ∧ Q (.ref D) H) ∨ (J.go i H ∧ ∃ Nx : Hp → Prop, (∀ H', Nx H' → ∃ m', m' < m ∧ W (i + 1) m' H') ∧ ∀ x H', J.yld i H x H' → g x (wipe σ vs) H' fun σ2 H2 => wipe σ2 vs = wipe σ vs ∧
    tk σ2 H2 fun y H4 => tv σ2 H4 fun z H5 => ∃ kvs k b, y = .ref b ∧ H5 b = some (.tup (k.map kV)) ∧ H5 D = some (.dT kvs) ∧ kvs.length < sizeLine ∧ Nx (upd H5 D (.dT (putK kvs k z))))

/-- one turn of the block, from the item drawn on -/
theorem dct_turn {Z : Cx} {kx vx tg : Expr} {g : TG} {tk tv : TE} {D : Addr} {τ : L2.St} {vs : List Nat} {H : Hp} {s : Shared} {x : V} {u : Value} {Nx : Hp → Prop} {R : Shared → Prop} {pins : List (Addr × Obj)} {E' : Value → Shared → Prop} (hE : Z.xe = fun _ _ => False) (hu : Z.A.units + 1 < cLine)
    (pg : PG Z tg g) (pk : PE Z kx tk) (pe : PE Z vx tv) (I : Inv Z pins τ H s) (rx : RelV x u)
    (h : g x τ H fun σ2 H2 => wipe σ2 vs = τ ∧ tk σ2 H2 fun y H4 => tv σ2 H4 fun z H5 => ∃ kvs k b, y = .ref b ∧ H5 b = some (.tup (k.map kV)) ∧ H5 D = some (.dT kvs) ∧ kvs.length < sizeLine ∧ Nx (upd H5 D (.dT (putK kvs k z))))
    (fin : ∀ σ2 H' s', wipe σ2 vs = τ → Inv Z pins σ2 H' s' → Nx H' → R s') :
    wpAny (model Z.prog Z.w) Z.A (assign tg Z.env u) (fun _ s₂ => wpAny (model Z.prog Z.w) Z.A (forIn ([] : List Expr) true fun c r => if r = true then do let ok ← isTrue c Z.env (eval c Z.env); pure (ForInStep.yield ok) else pure (ForInStep.yield r)) (fun ok s₃ =>
      if ok = true then wpAny (model Z.prog Z.w) Z.A (eval kx Z.env) (fun kv s₄ => wpAny (model Z.prog Z.w) Z.A (eval vx Z.env) (fun vv s₅ => wpAny (model Z.prog Z.w) Z.A (dictSet D kv vv) (fun _ s₆ => R s₆) E' s₅) E' s₄) E' s₃ else R s₃) E' s₂) E' s := by
  have a1 := pg.run pins s τ H x u _ I rx h
  rw [hE] at a1
  refine thnF a1 fun _ s8 ⟨σ8, H8, I8, hw, q8⟩ => wpAny_tests_nil ?_
  rw [if_pos rfl]
  have a2 := pk.run pins s8 σ8 H8 _ I8 q8
  rw [hE] at a2
  refine thnF a2 fun kv s10 ⟨y, H10, I10, r10, q10⟩ => ?_
  have a3 := pe.run pins s10 σ8 H10 _ I10 q10
  rw [hE] at a3
  refine thnF a3 fun vv s11 ⟨z, H11, I11, r11, kvs, k, b, ey, hb, hD, hz, nx⟩ => ?_
  subst ey
  exact dT_set hu I11 hD hz hb r10 r11 fun s12 I12 => fin σ8 _ s12 hw I12 nx

/-- what stands between two turns of the block -/
def BetweenT (Z : Cx) (fp : List Addr) (tn : Nat → Heap → Prop) (τ : L2.St) (W : Nat → Nat → Hp → Prop) (n : Nat) (s : Shared) : Prop := ∃ i H, Inv Z [] τ H s ∧ tn i s.heap ∧ (∀ b ∈ fp, H b = none) ∧ W i n H

theorem pe_dcT {kx vx tg iter : Expr} {scope : Scope} {own : List (Str × Nat)} {pos : Pos} {wi : TI} {g : TG} {tk tv : TE} (hc : X.calm = true) (hu : X.A.units + 1 < cLine) (hN : X.N.Nodup) (hi : PI X tg iter wi) (ok : BlkOk X.N X.env.scope scope own)
    (hg : ∀ (s : Shared) (H : Hp) (C : Addr) (cl : List (Str × Addr)) (fp : List Addr), PG (X.blk s H scope (compEnvC scope cl C X.env) fp) tg g)
    (hk : ∀ (s : Shared) (H : Hp) (C : Addr) (cl : List (Str × Addr)) (fp : List Addr), PE (X.blk s H scope (compEnvC scope cl C X.env) fp) kx tk)
    (hv : ∀ (s : Shared) (H : Hp) (C : Addr) (cl : List (Str × Addr)) (fp : List Addr), PE (X.blk s H scope (compEnvC scope cl C X.env) fp) vx tv) (hs : ∀ x, foldedSetIterable iter X.env x = pure x := by intro _; rfl) :
    PE X (.DictComp kx vx [⟨tg, iter, [], 0⟩] scope pos) (tDcT wi g tk tv (own.map (·.2))) := by
  refine ⟨fun pins s σ H Q I h => ?_⟩
  rw [arm_eval_DictComp]
  have free : ∀ y ∈ scope.names, y.2 = .free → ∃ c, X.env.cells.lookup y.1 = some c := fun y hy e => (ok.free y hy e).elim (fun k => I.ok.has _ (.inl k)) (fun k => I.ok.has _ (.inr k))
  refine wpAny_comprehension_free rfl hs (closure_ok free) ok.kind (fun y hy e => by rw [ok.uniq y hy, e]) (thn (hi.run pins s σ H _ I h) fun _ s1 hx => thn hx fun _ s2 ⟨it, fp, tn, J, H2, e, I2, T, st2, f2, q⟩ => ?_)
  subst e
  refine wpAny_newObj_type (newEnv_comp ?_)
  generalize hD : s2.heap.objs.size = D
  have nD : H2 D = none := I2.hok.fresh (Nat.le_of_eq hD)
  obtain ⟨W, ⟨m0, w0⟩, turn⟩ := q D nD
  generalize hs3 : ({ s2 with heap := s2.heap.push { cls := .type "dict", data := .dict #[] } } : Shared) = s3
  have h3 : s3.heap = s2.heap.push { cls := .type "dict", data := .dict #[] } := by rw [← hs3]
  have I3 : Inv X pins σ (upd H2 D (.dT [])) s3 := by
    subst hs3 hD
    exact I2.laid (t' := s2.toks) (fun b o z => Heap.get?_push_of_some _ z) (Nat.le_refl _) (dt_empty s2.heap I2.big)
  have f3 : ∀ b ∈ fp, FpOk X pins (upd H2 D (.dT [])) b ∧ b < s3.heap.objs.size := fun b hb => by
    obtain ⟨o, e, _⟩ := T.obj _ _ st2 b hb
    have lt : b < s2.heap.objs.size := Heap.lt_size e
    refine ⟨⟨?_, (f2 b hb).2⟩, by rw [h3, Heap.size_push]; exact Nat.lt_succ_of_lt lt⟩
    rw [upd_ne (by rw [← hD]; exact Nat.ne_of_lt lt)]
    exact (f2 b hb).1
  have I4 := block_start I3 ok hN f3
  have pg := hg s3 (upd H2 D (.dT [])) s3.heap.objs.size (cellsFrom (s3.heap.objs.size + 1) scope.names (cloFrom X.env.cells scope.names [])) fp
  have pk := hk s3 (upd H2 D (.dT [])) s3.heap.objs.size (cellsFrom (s3.heap.objs.size + 1) scope.names (cloFrom X.env.cells scope.names [])) fp
  have pv := hv s3 (upd H2 D (.dT [])) s3.heap.objs.size (cellsFrom (s3.heap.objs.size + 1) scope.names (cloFrom X.env.cells scope.names [])) fp
  show codeAny _ _ (.compStart (.DictComp kx vx [⟨tg, iter, [], 0⟩] scope pos) 0 (.ref it) (.ref D) (compEnvC scope (cellsFrom (s3.heap.objs.size + 1) scope.names (cloFrom X.env.cells scope.names [])) s3.heap.objs.size X.env)) (compPost (model X.prog X.w) X.A X.xe none (EP X pins σ Q) (.ref D) s3.heap.objs.size) { s3 with heap := pushCells (s3.heap.push { cls := .type "dict", data := .dict #[] }) scope.names }
  generalize hce : compEnvC scope (cellsFrom (s3.heap.objs.size + 1) scope.names (cloFrom X.env.cells scope.names [])) s3.heap.objs.size X.env = ce at I4 pg pk pv ⊢
  have cL : ce.locals = s3.heap.objs.size := by subst hce; rfl
  generalize hH3 : upd H2 D (.dT []) = H3 at I3 I4 pg pk pv w0 f3
  generalize hs4 : ({ s3 with heap := pushCells (s3.heap.push { cls := .type "dict", data := .dict #[] }) scope.names } : Shared) = s4 at I4 ⊢
  have st4 : tn 0 s4.heap := T.keep _ _ _ st2 fun b _ o z => by
    rw [← hs4]
    exact pushCells_keeps _ _ _ _ (Heap.get?_push_of_some _ (by rw [h3]; exact Heap.get?_push_of_some _ z))
  have blk : ∀ {σ' : L2.St} {H' : Hp} {s' : Shared}, Inv (X.blk s3 H3 scope ce fp) [] σ' H' s' → (∀ b ∈ fp, H' b = none) → ∀ b ∈ fp, FpOk (X.blk s3 H3 scope ce fp) [] H' b := fun J' hn b hb =>
    ⟨hn b hb, (J'.ok.exf b hb).1, J'.ok.exfs b hb, .inl hb, fun x c z => (J'.ok.exf b hb).2 x c z, fun p hp => absurd (show p ∈ ([] : List (Addr × Obj)) ++ [] from hp) (by simp)⟩
  have loop : codeAny (model X.prog X.w) X.A (.compLoop (.DictComp kx vx [⟨tg, iter, [], 0⟩] scope pos) 0 (.ref it) (.ref D) ce) (compPost (model X.prog X.w) X.A X.xe none (EP X pins σ Q) (.ref D) s3.heap.objs.size) s4 := by
    refine compLoop_anyD (BetweenT (X.blk s3 H3 scope ce fp) fp tn (wipe σ (own.map (·.2))) W) ?_ m0 ⟨0, H3, I4, st4, fun b hb => (f3 b hb).1.1, w0⟩
    rintro n s5 ⟨i, H5, I5, st5, n5, w5⟩
    rcases turn i n H5 w5 with ⟨stop, qq⟩ | ⟨go, Nx, hNx, step⟩
    · refine thnF (T.done (X.blk s3 H3 scope ce fp) rfl rfl rfl hc i [] s5 _ H5 (fun _ _ => False) I5 (blk I5 n5) st5 stop) fun r s6 ⟨hr, I6⟩ => ?_
      subst hr
      have I7 : Inv X pins σ H5 s6 := I3.call' (ch := fp) I6.os I6.base I6.hok I6.bare fun b hb => ⟨(f3 b hb).1.2.2.2.1, (f3 b hb).1.2.1, (f3 b hb).1.2.2.2.2.1, (f3 b hb).1.2.2.2.2.2⟩
      have nC : H5 s3.heap.objs.size = none := by
        have z : H5 ce.locals = none := I6.free
        rwa [cL] at z
      obtain ⟨m, hn, _⟩ := I6.loc
      have hn : s6.heap.Ns ce.locals m := hn
      rw [cL] at hn
      obtain ⟨f0, f1, f2, f4, f5, f6⟩ := I3.fpOk (Nat.le_refl _) nC
      exact ⟨m, hn, fun h'' sb => ⟨.ref D, H5, I7.turned (t' := s6.toks) (fun b o hb z => (sb.2 b hb).trans z) f0 f1 f4 f5 f6, rfl, qq⟩⟩
    · refine thnF (T.item (X.blk s3 H3 scope ce fp) rfl rfl rfl hc i [] s5 _ H5 (fun _ _ => False) I5 (blk I5 n5) st5 go) fun r s6 ⟨u, hr, h6⟩ => ?_
      subst hr
      refine thnF h6 fun _ s7 ⟨x, H7, I7, r7, y7, st7, n7⟩ => ?_
      have I7' := I7.pinned (blk I7 n7) (T.obj _ _ st7)
      have main := dct_turn (s := s7) (Z := X.blk s3 H3 scope ce fp) (vs := own.map (·.2)) (D := D) (Nx := Nx) (E' := notedBy (model X.prog X.w) X.A ce fun e s' => compPost (model X.prog X.w) X.A X.xe none (EP X pins σ Q) (.ref D) s3.heap.objs.size (.error e) s') (R := fun s' => ∃ m, m < n ∧ BetweenT (X.blk s3 H3 scope ce fp) fp tn (wipe σ (own.map (·.2))) W m s') rfl hu pg pk pv I7' r7 (step x H7 y7) fun σ8 H' s' hw I' nx => by
        obtain ⟨m', hm, w'⟩ := hNx H' nx
        have keep : ∀ b ∈ fp, ∀ o, s7.heap.get? b = some o → s'.heap.get? b = some o ∧ H' b = none := fun b hb o z =>
          let y := I'.pin (b, o) (List.mem_append_right _ (List.mem_append_right _ (mem_pinsAt hb z)))
          ⟨y.1, y.2.1⟩
        refine ⟨m', hm, i + 1, H', (I'.unpinned (pins := [])).weak (by rw [← hw, wipe_length]) (fun j v z => ?_), T.keep _ _ _ st7 fun b hb o z => (keep b hb o z).1, fun b hb => ?_, w'⟩
        · rw [← hw] at z
          exact (wipe_some z).1
        · obtain ⟨o, z, _⟩ := T.obj _ _ st7 b hb
          exact (keep b hb o z).2
      exact main
  exact codeAny_compStart_dict loop (T.self X.A 0 _ _ _ st4 loop)
end
end Ka
namespace Kb
open PySem PySem.Spec PyProof.Rows L2
/-! ### the text, def by def -/
def topS (i : Nat) : Stmt := PySem.Challenge.pw_stillowed_k02_whole_common_rows.main.body.getD i (.Pass ⟨0, 0, 0, 0⟩)
abbrev sRefInit : Stmt := inClass (topS 2) 0
abbrev sOrder : Stmt := topS 4
abbrev sInOrder : Stmt := topS 7
abbrev sCommon : Stmt := topS 8
abbrev sCommonAll : Stmt := topS 9
abbrev sRowsWithin : Stmt := topS 10
abbrev sThose : Stmt := topS 11
abbrev sPlaces : Stmt := topS 12
abbrev sGreatAll : Stmt := topS 13
abbrev sBox : Stmt := topS 15
abbrev sTake : Stmt := topS 16
abbrev sPick : Stmt := topS 17
abbrev sLet : Stmt := topS 18
abbrev sNames : Stmt := topS 19
abbrev sRow : Stmt := topS 20
abbrev sChanged : Stmt := topS 21
abbrev sLiesIn : Stmt := topS 22
abbrev sInAll : Stmt := topS 23
abbrev sStruckAll : Stmt := topS 24
abbrev sRight : Stmt := topS 25
abbrev sSaid : Stmt := topS 26
abbrev sBound : Stmt := topS 27
abbrev sExch : Stmt := topS 28
abbrev sLaw : Stmt := topS 29
/-! ### heaps -/
theorem same_new {H : Hp} {p : Addr} {o : HO} (h : H p = none) : Same H (upd H p o) := fun b x e => by
  rw [upd_ne (ne_of_none e h)]
  exact e
theorem Same.sqT {K : PySem.W.Frag} {H H' : Hp} {a : Addr} {xs : List V} (e : Same H H') (h : SqT K H a xs) : SqT K H' a xs := by
  rcases h with (h | ⟨o, h⟩) | h
  · exact .inl (.inl (e _ _ h))
  · exact .inl (.inr ⟨o, e _ _ h⟩)
  · exact .inr h
theorem sqT_new {K : PySem.W.Frag} {H : Hp} {p : Addr} {xs : List V} (h : H p = some (.tup xs)) : SqT K H p xs := .inl (.inl h)
theorem sqL_new {K : PySem.W.Frag} {H : Hp} {p : Addr} {xs : List V} (h : H p = some (.lst xs)) : SqL K H p xs := .inl (.inl h)
theorem get_map {α β : Type} {f : α → β} {l : List α} {i : Nat} {y : β} (h : (l.map f)[i]? = some y) : ∃ x, l[i]? = some x ∧ y = f x := by
  rw [List.getElem?_map] at h
  cases e : l[i]? with
  | none =>
    rw [e] at h
    cases h
  | some x =>
    rw [e] at h
    exact ⟨x, rfl, (Option.some.inj h).symm⟩
theorem lt_of_get {α : Type} {l : List α} {i : Nat} {x : α} (h : l[i]? = some x) : i < l.length := (List.getElem?_eq_some_iff.mp h).1
theorem drop_of_get {α : Type} {l : List α} {i : Nat} {x : α} (h : l[i]? = some x) : l.drop i = x :: l.drop (i + 1) := by
  obtain ⟨h1, h2⟩ := List.getElem?_eq_some_iff.mp h
  rw [List.drop_eq_getElem_cons h1, h2]
theorem take_of_get {α : Type} {l : List α} {i : Nat} {x : α} (h : l[i]? = some x) : l.take (i + 1) = l.take i ++ [x] := by
  rw [List.take_add_one, h]
  rfl
/-! ### rules told by K, for a comprehension's block -/
def rLen (K : PySem.W.Frag) : List V → Hp → VK → Prop := fun xs H Q => ∃ p ys, xs = [V.ref p] ∧ (SqL K H p ys ∨ SqT K H p ys) ∧ Q (.int (ys.length : Nat)) H
theorem len_at {X : Cx} {K : PySem.W.Frag} (h : X.K = K) : CallR X (.builtin "len") (rLen K) := by
  subst h
  exact call_len_seq
theorem ixT_at {X : Cx} {K : PySem.W.Frag} (h : X.K = K) : IxR X (rIxT K) := by
  subst h
  exact ix_tup
theorem ixL_at {X : Cx} {K : PySem.W.Frag} (h : X.K = K) : IxR X (rIxL K) := by
  subst h
  exact ix_list
/-- places as values -/
def natV (l : List Nat) : List V := l.map fun (i : Nat) => V.int (i : Int)
theorem natV_len (l : List Nat) : (natV l).length = l.length := List.length_map _
theorem small {n : Nat} (h : n ≤ 1000000) : n < sizeLine := Nat.lt_of_le_of_lt h (by rw [sizeLine_eq]; decide)
theorem smallE {n : Nat} (h : n ≤ 1000000) : n ≤ sizeLine := Nat.le_of_lt (small h)
theorem walk_revT {K : PySem.W.Frag} {a : Addr} {xs : List V} : Walk (RT.ItvT K a xs.length) xs.length (fun H => SqT K H a xs) (fun i H x H' => H' = H ∧ xs[xs.length - 1 - i]? = some x) := by
  refine ⟨fun i H hi q => ?_, fun H q => ?_, fun i H x H' hi q y => ?_⟩
  · exact ⟨hi, xs, xs[xs.length - 1 - i], q, by simp⟩
  · exact Nat.le_refl _
  · exact ⟨y.1, y.2 xs q⟩
/-- counts as values -/
def intV (l : List Int) : List V := l.map V.int
theorem intV_len (l : List Int) : (intV l).length = l.length := List.length_map _
theorem intV_get {l : List Int} {i : Nat} {x : Int} (h : l[i]? = some x) : (intV l)[i]? = some (.int x) := by
  unfold intV
  rw [List.getElem?_map, h]
  rfl
theorem natV_get {l : List Nat} {i x : Nat} (h : l[i]? = some x) : (natV l)[i]? = some (.int (x : Nat)) := by
  unfold natV
  rw [List.getElem?_map, h]
  rfl
end Kb
namespace Kb
open PySem PySem.Spec PyProof.Rows L2
/-! ### the source of draws -/
/-- three whole numbers -/
def Box (H : Hp) (x : Addr) : Prop := ∃ b0 b1 b2 : Int, H x = some (.lst [.int b0, .int b1, .int b2])
/-- all but x stands -/
def But (x : Addr) (H H' : Hp) : Prop := ∀ c u, c ≠ x → H c = some u → H' c = some u
theorem But.refl {x : Addr} {H : Hp} : But x H H := fun _ _ _ e => e
theorem But.trans {x : Addr} {H H' H'' : Hp} (a : But x H H') (b : But x H' H'') : But x H H'' := fun c u h e => b c u h (a c u h e)
theorem But.of {x : Addr} {H H' : Hp} (s : Same H H') : But x H H' := fun c u _ e => s c u e
theorem But.upd {x : Addr} {H : Hp} {o : HO} : But x H (upd H x o) := fun c u h e => by
  rw [upd_ne h]
  exact e
theorem Box.mono {x : Addr} {H H' : Hp} (b : Box H x) (s : Same H H') : Box H' x := let ⟨b0, b1, b2, e⟩ := b; ⟨b0, b1, b2, s _ _ e⟩
theorem mod_nat (i : Int) {n : Nat} (h : 0 < n) : ∃ r : Nat, r < n ∧ i % (n : Int) = (r : Int) := by
  have h1 := Int.emod_nonneg i (show (n : Int) ≠ 0 by omega)
  have h2 := Int.emod_lt_of_pos i (show 0 < (n : Int) by omega)
  exact ⟨(i % (n : Int)).toNat, by omega, by omega⟩
theorem small_mul {k : Int} (h1 : -1000000000000 < k) (h2 : k < 1000000000000) : -(2 ^ 64) < k ∧ k < 2 ^ 64 := by omega
section
variable {P : Program} {w : World} {K : PySem.W.Frag} {mg : Str → Option Value} {base : Heap}
theorem scTake : FnScope ["box", "many", "digit", "raw"] ["box", "many"] (defScope sTake) := ⟨rfl, rfl, rfl, by decide +kernel, rfl, by decide +kernel, by decide +kernel⟩
def spTake : Sp := fun vs H Q _ => ∃ (x : Addr) (n : Nat), vs = [.ref x, .int (n : Nat)] ∧ Box H x ∧ 0 < n ∧ n < 1000000 ∧ ∀ (r : Nat) H', r < n → But x H H' → Box H' x → Q (.int (r : Nat)) H'
theorem ok_take {f : Addr} {fd : FuncData} (F : Fun K "_law_take" "_law_take" sTake f fd) (mi : mg "int" = none) : FnOk P w K mg base CX0 1 f fd ["box", "many"] spTake := by
  refine F.ok scTake (fun vs H Q E h => ?_) (fun cdv A outer s H vs Q E hr h => ?_)
  · obtain ⟨x, n, rfl, _⟩ := h
    rfl
  · obtain ⟨x, n, rfl, ⟨b0, b1, b2, hx⟩, hn, hn2, q⟩ := h
    refine ⟨_, pss_cons (ps_if (pt_cmpR op_gt (pe_ix ix_list (pv 0) pe_int (fun _ _ => rfl)) pe_int (nomark _))
        (pss_cons (ps_set (i := 2) scTake.nd rfl (.inl rfl) (pe_op op_mod (pe_callTy call_int1 (by rfl) mi (by decide +kernel) (pa_cons (pe_ix ix_list (pv 0) pe_int (fun _ _ => rfl)) pa_nil)) (pv 1)))
          (pss_cons (ps_asg (pe_op op_fdivN (pe_ix ix_list (pv 0) pe_int (fun _ _ => rfl)) (pv 1)) (pg_sub (pv 0) pe_int set_list)) (pss_one (ps_ret (pv 2))))) pss_nil)
      (pss_cons (ps_asg (pe_op op_add (pe_ix ix_list (pv 0) pe_int (fun _ _ => rfl)) pe_int) (pg_sub (pv 0) pe_int set_list))
      (pss_cons (ps_set (i := 3) scTake.nd rfl (.inl rfl) (pe_op op_mod (pe_callTy call_int1 (by rfl) mi (by decide +kernel) (pa_cons (pe_op op_add (pe_op op_mul (pe_op op_add (pe_ix ix_list (pv 0) pe_int (fun _ _ => rfl)) (pe_op op_mul pe_int (pe_ix ix_list (pv 0) pe_int (fun _ _ => rfl)))) pe_int) pe_int) pa_nil)) pe_int))
      (pss_cons (ps_asg (pe_op op_add (pe_op op_mod (pe_callTy call_int1 (by rfl) mi (by decide +kernel) (pa_cons (pe_op op_add (pe_op op_mul (pv 3) pe_int) pe_int) pa_nil)) pe_int) pe_int) (pg_sub (pv 0) pe_int set_list))
      (pss_one (ps_ret (pe_op op_mod (pe_callTy call_int1 (by rfl) mi (by decide +kernel) (pa_cons (pe_op op_fdivN (pe_op op_add (pe_op op_mul (pv 3) pe_int) (pe_ix ix_list (pv 0) pe_int (fun _ _ => rfl))) pe_int) pa_nil)) (pv 1))))))), ?_⟩
    refine ⟨.ref x, rfl, x, _, 0, .int b0, rfl, rfl, sqL_new hx, rfl, b0, 0, rfl, rfl, _, rfl, ite2 (fun c => ?_) (fun c => ?_)⟩
    · obtain ⟨r, hr1, hr2⟩ := mod_nat b0 hn
      refine ⟨.ref x, rfl, x, _, 0, .int b0, rfl, rfl, sqL_new hx, rfl, .inl ⟨b0, rfl, .int (n : Nat), rfl, b0, (n : Nat), rfl, rfl, (by omega), ?_⟩⟩
      refine ⟨.ref x, rfl, x, _, 0, .int b0, rfl, rfl, sqL_new hx, rfl, .int (n : Nat), rfl, b0, (n : Nat), rfl, rfl, ⟨by omega, by omega⟩, .ref x, rfl, x, _, 0, 0, rfl, rfl, hx, rfl, ?_⟩
      refine ⟨_, rfl, ?_⟩
      show Q (.int (b0 % (n : Int))) _
      rw [hr2]
      exact q r _ hr1 But.upd ⟨_, _, _, upd_same⟩
    · refine ⟨.ref x, rfl, x, _, 2, .int b2, rfl, rfl, sqL_new hx, rfl, _, _, rfl, rfl, .ref x, rfl, x, _, 2, 2, rfl, rfl, hx, rfl, ?_⟩
      generalize hH1 : upd H x _ = H1
      have hx1 : H1 x = some (.lst [.int b0, .int b1, .int (b2 + 1)]) := by rw [← hH1, upd_same]; rfl
      have k1 : But x H H1 := by rw [← hH1]; exact But.upd
      refine ⟨.ref x, rfl, x, _, 1, .int b1, rfl, rfl, sqL_new hx1, rfl, .ref x, rfl, x, _, 2, .int (b2 + 1), rfl, rfl, sqL_new hx1, rfl, 99991, b2 + 1, rfl, rfl, .inl (by decide), b1, _, rfl, rfl, _, 69621, rfl, rfl, .inr (by decide), _, 53, rfl, rfl, .inl ⟨_, rfl, _, 2147483563, rfl, rfl, (by show (0 : Int) < 2147483563; decide), ?_⟩⟩
      refine ⟨_, rfl, _, 40692, rfl, rfl, .inr (by decide), _, 27011, rfl, rfl, .inl ⟨_, rfl, _, 2147483629, rfl, rfl, (by show (0 : Int) < 2147483629; decide), _, 1, rfl, rfl, .ref x, rfl, x, _, 1, 1, rfl, rfl, hx1, rfl, ?_⟩⟩
      generalize hH2 : upd H1 x _ = H2
      obtain ⟨c1, hx2⟩ : ∃ c1 : Int, H2 x = some (.lst [.int b0, .int c1, .int (b2 + 1)]) := ⟨_, by rw [← hH2, upd_same]; rfl⟩
      have k2 : But x H1 H2 := by rw [← hH2]; exact But.upd
      refine ⟨_, rfl, _, 2147483647, rfl, rfl, .inr (by decide), .ref x, rfl, x, _, 1, .int c1, rfl, rfl, sqL_new hx2, rfl, _, c1, rfl, rfl, _, 8191, rfl, rfl, ⟨by decide, by decide⟩, .inl ⟨_, rfl, .int (n : Nat), rfl, _, (n : Nat), rfl, rfl, (by omega), ?_⟩⟩
      obtain ⟨r, hr1, hr2⟩ := mod_nat _ hn
      refine (congrArg (fun z => Q (V.int z) H2) hr2).mpr ?_
      exact q r _ hr1 (k1.trans k2) ⟨_, _, _, hx2⟩
end
end Kb
namespace Kb
open PySem PySem.Spec PyProof.Rows L2
/-! ### within -/
section
variable {α : Type} [DecidableEq α]
def sub : List α → List α → Bool
  | [], _ => true
  | _ :: _, [] => false
  | d :: u, e :: z => if d = e then sub u z else sub (d :: u) z
theorem sub_none {d : α} {u : List α} : ∀ {z : List α}, (∀ k : Nat, z[k]? ≠ some d) → sub (d :: u) z = false
  | [], _ => rfl
  | e :: z, h => by
    have h0 : e ≠ d := fun x => h 0 (by rw [x]; rfl)
    rw [sub, if_neg (fun x => h0 x.symm)]
    exact sub_none fun k => by
      have := h (k + 1)
      simpa using this
theorem sub_hit {d : α} {u : List α} : ∀ {z : List α} {j : Nat}, z[j]? = some d → (∀ k : Nat, k < j → z[k]? ≠ some d) → sub (d :: u) z = sub u (z.drop (j + 1))
  | [], j, h, _ => by simp at h
  | e :: z, 0, h, _ => by
    have e1 : e = d := by simpa using h
    rw [sub, if_pos e1.symm]
    rfl
  | e :: z, j + 1, h, h2 => by
    have h0 : e ≠ d := fun x => h2 0 (Nat.succ_pos _) (by rw [x]; rfl)
    rw [sub, if_neg (fun x => h0 x.symm), List.drop_succ_cons]
    exact sub_hit (by simpa using h) fun k hk => by
      have := h2 (k + 1) (Nat.succ_lt_succ hk)
      simpa using this
theorem first_at (x : α) : ∀ l : List α, (∀ k : Nat, l[k]? ≠ some x) ∨ ∃ m : Nat, l[m]? = some x ∧ ∀ k : Nat, k < m → l[k]? ≠ some x
  | [] => .inl fun k h => by simp at h
  | e :: l => by
    by_cases h : e = x
    · exact .inr ⟨0, by rw [h]; rfl, fun k hk => absurd hk (Nat.not_lt_zero k)⟩
    · have h0 : (e :: l)[0]? ≠ some x := fun z => h (Option.some.inj z)
      rcases first_at x l with hn | ⟨m, h1, h2⟩
      · refine .inl fun k => ?_
        cases k with
        | zero => exact h0
        | succ k => simpa using hn k
      · refine .inr ⟨m + 1, by simpa using h1, fun k hk => ?_⟩
        cases k with
        | zero => exact h0
        | succ k => simpa using h2 k (Nat.lt_of_succ_lt_succ hk)
end
end Kb
namespace Kb
open PySem PySem.Spec PyProof.Rows L2
/-- a sign from a to z -/
def lowC (c : Nat) : Bool := decide (97 ≤ c) && decide (c ≤ 122)
/-- a name -/
def isName (s : Str) : Bool := decide (1 ≤ s.cps.size) && decide (s.cps.size ≤ 5) && s.cps.toList.all lowC
/-- the names of the language that no text hides -/
structure Nones (mg : Str → Option Value) : Prop where
  len : mg "len" = none
  range : mg "range" = none
  iter : mg "iter" = none
  enumerate : mg "enumerate" = none
  reversed : mg "reversed" = none
  tuple : mg "tuple" = none
  list : mg "list" = none
  sorted : mg "sorted" = none
  any : mg "any" = none
  all : mg "all" = none
  int : mg "int" = none
  str : mg "str" = none
  bool : mg "bool" = none
  abs : mg "abs" = none
  min : mg "min" = none
  max : mg "max" = none
  sum : mg "sum" = none
  isinstance : mg "isinstance" = none
  valueError : mg "ValueError" = none
/-- range(n), its turns told -/
theorem walk_r0 {n : Nat} : Walk (Itr 0 n) n (fun _ => True) (fun i H x H' => H' = H ∧ x = .int (i : Nat)) := walk_range.mono (fun _ h => h) fun i H x H' _ _ y => ⟨y.1, by
  rw [y.2]
  show V.int (0 + (i : Int)) = _
  rw [Int.zero_add]⟩
section
variable {K : PySem.W.Frag}
theorem slA_at {X : Cx} {K : PySem.W.Frag} (h : X.K = K) : SlR X (rSlA K) := by
  subst h
  exact sl_tupA
theorem slA_take {H : Hp} {a : Addr} {xs : List V} {j : Nat} {Q : VK} (hA : SqT K H a xs) (q0 : xs.take j = xs → Q (.ref a) H) (q1 : ∀ p, H p = none → Q (.ref p) (upd H p (.tup (xs.take j)))) : rSlA K (.ref a) none (some (j : Int)) H Q := by
  refine ⟨a, xs, rfl, hA, fun hw => ?_, fun _ p np => ?_⟩
  · have h2 := hw.2
    rw [HT.sIx_nat] at h2
    exact q0 (List.take_of_length_le (by omega))
  · have e : cutV xs none (some (j : Int)) = xs.take j := by
      unfold cutV
      rw [HT.sIx_nat, HT.sIx_none, List.drop_zero, Nat.sub_zero]
      by_cases h : j ≤ xs.length
      · rw [Nat.min_eq_left h]
      · rw [Nat.min_eq_right (by omega), List.take_length, List.take_of_length_le (by omega)]
    rw [e]
    exact q1 p np
theorem slA_drop {H : Hp} {a : Addr} {xs : List V} {j : Nat} {Q : VK} (hA : SqT K H a xs) (q0 : xs.drop j = xs → Q (.ref a) H) (q1 : ∀ p, H p = none → Q (.ref p) (upd H p (.tup (xs.drop j)))) : rSlA K (.ref a) (some (j : Int)) none H Q := by
  refine ⟨a, xs, rfl, hA, fun hw => ?_, fun _ p np => ?_⟩
  · have h2 := hw.1
    rw [HT.sIx_nat] at h2
    refine q0 ?_
    by_cases h : j = 0
    · rw [h]
      rfl
    · have h0 : xs.length = 0 := by omega
      rw [List.eq_nil_of_length_eq_zero h0, List.drop_nil]
  · have e : cutV xs (some (j : Int)) none = xs.drop j := by
      unfold cutV
      rw [HT.sIx_nat, HT.sIx_none]
      by_cases h : j ≤ xs.length
      · rw [Nat.min_eq_left h, List.take_of_length_le (by rw [List.length_drop]; exact Nat.le_refl _)]
      · rw [Nat.min_eq_right (by omega), List.drop_length, List.drop_eq_nil_of_le (by omega), List.take_nil]
    rw [e]
    exact q1 p np
/-- a slice of a row -/
theorem slA_takeR {H : Hp} {a : Addr} {us : List Str} {j : Nat} {Q : VK} (hA : SqT K H a (us.map V.str)) (q : ∀ H' p, Same H H' → SqT K H' p ((us.take j).map V.str) → Q (.ref p) H') : rSlA K (.ref a) none (some (j : Int)) H Q :=
  slA_take hA (fun e => q H a (fun _ _ h => h) (by rw [List.map_take, e]; exact hA)) fun p np => q _ p (same_new np) (by rw [List.map_take]; exact sqT_new upd_same)
theorem slA_dropR {H : Hp} {a : Addr} {us : List Str} {j : Nat} {Q : VK} (hA : SqT K H a (us.map V.str)) (q : ∀ H' p, Same H H' → SqT K H' p ((us.drop j).map V.str) → Q (.ref p) H') : rSlA K (.ref a) (some (j : Int)) none H Q :=
  slA_drop hA (fun e => q H a (fun _ _ h => h) (by rw [List.map_drop, e]; exact hA)) fun p np => q _ p (same_new np) (by rw [List.map_drop]; exact sqT_new upd_same)
theorem tyT {H : Hp} {p : Addr} {xs : List V} (h : SqT K H p xs) : TyX K H (.ref p) (.type "tuple") := by
  rcases h with (h | ⟨o, h⟩) | h
  · exact .base (.tup h)
  · exact .fTuple h
  · obtain ⟨o, its, n, h1, h2, h3⟩ := h
    exact .kTuple h1 h2
theorem catR {H : Hp} {a b : Addr} {xs ys : List V} {Q : VK} (hx : SqT K H a xs) (hy : SqT K H b ys) (hl : xs.length + ys.length ≤ 100000) (q : ∀ H' p, Same H H' → SqT K H' p (xs ++ ys) → Q (.ref p) H') : rCatA K (.ref a) (.ref b) H Q := by
  refine ⟨a, b, xs, ys, rfl, rfl, hx, hy, smallE (by omega), fun e => ?_, fun _ e => ?_, fun _ _ p np => ?_⟩
  · exact q H b (fun _ _ h => h) (by rw [e]; exact hy)
  · exact q H a (fun _ _ h => h) (by rw [e, List.append_nil]; exact hx)
  · exact q _ p (same_new np) (sqT_new upd_same)
theorem slR_take {H : Hp} {a : Addr} {xs : List V} {j : Nat} {Q : VK} (hA : SqT K H a xs) (q : ∀ H' p, Same H H' → SqT K H' p (xs.take j) → Q (.ref p) H') : rSlA K (.ref a) none (some (j : Int)) H Q :=
  slA_take hA (fun e => q H a (fun _ _ h => h) (by rw [e]; exact hA)) fun p np => q _ p (same_new np) (sqT_new upd_same)
theorem slR_drop {H : Hp} {a : Addr} {xs : List V} {j : Nat} {Q : VK} (hA : SqT K H a xs) (q : ∀ H' p, Same H H' → SqT K H' p (xs.drop j) → Q (.ref p) H') : rSlA K (.ref a) (some (j : Int)) none H Q :=
  slA_drop hA (fun e => q H a (fun _ _ h => h) (by rw [e]; exact hA)) fun p np => q _ p (same_new np) (sqT_new upd_same)
end
end Kb
namespace Kb
open PySem PySem.Spec PyProof.Rows L2
theorem But.free {x p : Addr} {H H1 : Hp} (k : But x H H1) (b : Box H1 x) (h : H1 p = none) : H p = none := by
  cases e : H p with
  | none => rfl
  | some u =>
    by_cases w : p = x
    · obtain ⟨b0, b1, b2, hb⟩ := b
      rw [← w, h] at hb
      cases hb
    · rw [k p u w e] at h
      cases h
theorem Box.ne {x p : Addr} {H : Hp} (b : Box H x) (h : H p = none) : p ≠ x := fun w => by
  obtain ⟨b0, b1, b2, hb⟩ := b
  rw [← w, h] at hb
  cases hb
theorem Box.upd {x p : Addr} {H : Hp} {o : HO} (b : Box H x) (h : p ≠ x) : Box (upd H p o) x := by
  obtain ⟨b0, b1, b2, hb⟩ := b
  exact ⟨b0, b1, b2, by rw [upd_ne (Ne.symm h)]; exact hb⟩
section
variable {P : Program} {w : World} {K : PySem.W.Frag} {mg : Str → Option Value} {base : Heap}
theorem scPick : FnScope ["box", "some"] ["box", "some"] (defScope sPick) := ⟨rfl, rfl, rfl, by decide +kernel, rfl, by decide +kernel, by decide +kernel⟩
def spPick : Sp := fun vs H Q _ => ∃ (x a : Addr) (xs : List V), vs = [.ref x, .ref a] ∧ Box H x ∧ a ≠ x ∧ H a = some (.lst xs) ∧ 0 < xs.length ∧ xs.length < 1000000 ∧ ∀ (i : Nat) (v : V) H', xs[i]? = some v → But x H H' → Box H' x → Q v H'
theorem ok_pick {f fT : Addr} {fd fdT : FuncData} (F : Fun K "_law_pick" "_law_pick" sPick f fd) (FT : Fun K "_law_take" "_law_take" sTake fT fdT) (bT : Binds K fdT ["box", "many"] []) (gT : mg "_law_take" = some (.ref fT)) (mi : mg "int" = none) (ml : mg "len" = none) : FnOk P w K mg base CX0 2 f fd ["box", "some"] spPick := by
  have GT : FnOk P w K mg base CX0 1 fT fdT ["box", "many"] spTake := ok_take FT mi
  refine F.ok scPick (fun vs H Q E h => ?_) (fun cdv A outer s H vs Q E hr h => ?_)
  · obtain ⟨x, a, xs, rfl, _⟩ := h
    rfl
  · obtain ⟨x, a, xs, rfl, hx, hax, ha, h0, h1, q⟩ := h
    refine ⟨_, pss_one (ps_ret (pe_ix ix_list (pv 1) (pe_call GT hr (by rfl) gT FT.kp bT .nil pass0 (pa_cons (pv 0) (pa_cons (pe_callB call_len_seq (by rfl) ml PySem.boot_len (pa_cons (pv 1) pa_nil)) pa_nil))) (fun _ _ => rfl))), ?_⟩
    refine ⟨.ref a, rfl, .ref x, rfl, .ref a, rfl, a, xs, rfl, .inl (sqL_new ha), x, xs.length, rfl, hx, h0, h1, fun r H' hr k b => ?_⟩
    have hg : xs[r]? = some (xs[r]'hr) := List.getElem?_eq_getElem hr
    exact ⟨a, xs, _, _, rfl, rfl, sqL_new (k _ _ hax ha), atI_nat hg, q r _ H' hg k b⟩
theorem scLet : FnScope ["box"] ["box"] (defScope sLet) := ⟨rfl, rfl, rfl, by decide +kernel, rfl, by decide +kernel, by decide +kernel⟩
def spLet : Sp := fun vs H Q _ => ∃ x : Addr, vs = [.ref x] ∧ Box H x ∧ ∀ (c : Nat) H', lowC c = true → But x H H' → Box H' x → Q (.str ⟨#[c]⟩) H'
theorem abc_low : ∀ r : Fin 26, ∃ c, (Str.ofString "abcdefghijklmnopqrstuvwxyz").cps.toList[r.1]? = some c ∧ lowC c = true := by
  have h : ∀ r : Fin 26, ((Str.ofString "abcdefghijklmnopqrstuvwxyz").cps.toList[r.1]?.map lowC) = some true := by decide +kernel
  intro r
  have := h r
  cases e : (Str.ofString "abcdefghijklmnopqrstuvwxyz").cps.toList[r.1]? with
  | none =>
    rw [e] at this
    cases this
  | some c =>
    rw [e] at this
    exact ⟨c, rfl, Option.some.inj this⟩
theorem ok_let {f fT : Addr} {fd fdT : FuncData} (F : Fun K "_law_letter" "_law_letter" sLet f fd) (FT : Fun K "_law_take" "_law_take" sTake fT fdT) (bT : Binds K fdT ["box", "many"] []) (gT : mg "_law_take" = some (.ref fT)) (mi : mg "int" = none) : FnOk P w K mg base CX0 2 f fd ["box"] spLet := by
  have GT : FnOk P w K mg base CX0 1 fT fdT ["box", "many"] spTake := ok_take FT mi
  refine F.ok scLet (fun vs H Q E h => ?_) (fun cdv A outer s H vs Q E hr h => ?_)
  · obtain ⟨x, rfl, _⟩ := h
    rfl
  · obtain ⟨x, rfl, hx, q⟩ := h
    refine ⟨_, pss_one (ps_ret (pe_ix ix_str pe_str (pe_call GT hr (by rfl) gT FT.kp bT .nil pass0 (pa_cons (pv 0) (pa_cons pe_int pa_nil))) (fun _ _ => rfl))), ?_⟩
    refine ⟨.ref x, rfl, x, 26, rfl, hx, by decide, by decide, fun r H' hr k b => ?_⟩
    obtain ⟨c, hc, hl⟩ := abc_low ⟨r, hr⟩
    exact ⟨_, _, c, rfl, rfl, (by decide +kernel), atI_nat hc, q c H' hl k b⟩
theorem scRow : FnScope ["box", "names", "most", "turn"] ["box", "names", "most"] (defScope sRow) := ⟨rfl, rfl, rfl, by decide +kernel, rfl, by decide +kernel, by decide +kernel⟩
def spRow : Sp := fun vs H Q _ => ∃ (x a : Addr) (m : Nat) (ns : List Str), vs = [.ref x, .ref a, .int (m : Nat)] ∧ Box H x ∧ a ≠ x ∧ H a = some (.lst (ns.map V.str)) ∧ 0 < ns.length ∧ ns.length ≤ 1000 ∧ m ≤ 100 ∧
  ∀ (p : Addr) (zs : List Str) H', zs.length ≤ m → (∀ z ∈ zs, z ∈ ns) → But x H H' → Box H' x → H p = none → H' p = some (.tup (zs.map V.str)) → Q (.ref p) H'
theorem ok_row {f fT fP : Addr} {fd fdT fdP : FuncData} (F : Fun K "_law_row" "_law_row" sRow f fd) (FT : Fun K "_law_take" "_law_take" sTake fT fdT) (bT : Binds K fdT ["box", "many"] []) (gT : mg "_law_take" = some (.ref fT)) (FP : Fun K "_law_pick" "_law_pick" sPick fP fdP) (bP : Binds K fdP ["box", "some"] []) (gP : mg "_law_pick" = some (.ref fP))
    (mi : mg "int" = none) (ml : mg "len" = none) (mt : mg "tuple" = none) (mg_ : mg "range" = none) : FnOk P w K mg base CX0 3 f fd ["box", "names", "most"] spRow := by
  have GT : FnOk P w K mg base CX0 1 fT fdT ["box", "many"] spTake := ok_take FT mi
  have GP : FnOk P w K mg base CX0 2 fP fdP ["box", "some"] spPick := ok_pick FP FT bT gT mi ml
  refine F.ok scRow (fun vs H Q E h => ?_) (fun cdv A outer s H vs Q E hr h => ?_)
  · obtain ⟨x, a, m, ns, rfl, _⟩ := h
    rfl
  · obtain ⟨x, a, m, ns, rfl, hx, hax, ha, h0, h1, hm, q⟩ := h
    refine ⟨_, pss_one (ps_ret (pe_callTy call_tuple_of (by rfl) mt (by decide +kernel) (pa_cons
      (pe_lc (own := [("turn", 3)]) (g := gName 3) (tt := tYes) rfl scRow.nd (pi_range1 (by rfl) mg_ (pa_cons (pe_call GT (hr.mono (by decide)) (by rfl) gT FT.kp bT .nil pass0 (pa_cons (pv 0) (pa_cons (pe_op op_add (pv 2) pe_int) pa_nil))) pa_nil)) (blkOk_by (own := [("turn", 3)]) (N := ["box", "names", "most", "turn"]) (sc := defScope sRow) (by decide +kernel)) (fun _ _ _ _ _ => pg_name (i := 3) scRow.nd rfl (Or.inl rfl)) (fun _ _ _ _ _ => pts_nil)
        (fun _ _ _ _ _ => pe_call GP hr (by rfl) gP FP.kp bP .nil pass0 (pa_cons (pv 0) (pa_cons (pv 1) pa_nil)))) pa_nil))), ?_⟩
    refine ⟨.ref x, rfl, .int (m : Nat), rfl, (m : Nat), 1, rfl, rfl, x, m + 1, rfl, hx, Nat.succ_pos _, by omega, fun r H1 hr k1 b1 => ?_⟩
    refine ⟨(r : Nat), rfl, by omega, by omega, fun D nD => ?_⟩
    have hDx := b1.ne nD
    have hnD : H D = none := k1.free b1 nD
    refine lc_it (walk_range (lo := 0) (n := r)) (fun i H2 => But x H H2 ∧ Box H2 x ∧ ∃ zs : List Str, zs.length = i ∧ (∀ z ∈ zs, z ∈ ns) ∧ H2 D = some (.lst (zs.map V.str)))
      ⟨k1.trans (But.of (same_new nD)), b1.upd hDx, [], rfl, (fun z hz => by cases hz), upd_same⟩ (fun _ _ _ _ => True.intro) (fun i y H2 H3 hi h2 yy => ?_) (fun H2 h2 => ?_)
    · obtain ⟨rfl, rfl⟩ := yy
      obtain ⟨k2, b2, zs, hl, hz, eD⟩ := h2
      refine ⟨rfl, ?_⟩
      refine ⟨.ref x, rfl, .ref a, rfl, x, a, _, rfl, b2, hax, k2 _ _ hax ha, by rw [List.length_map]; exact h0, by rw [List.length_map]; omega, fun j v H4 hv k4 b4 => ?_⟩
      obtain ⟨z, hzz, rfl⟩ := get_map hv
      refine ⟨_, k4 _ _ hDx eD, by rw [List.length_map]; exact small (by omega), fun c u hc e => ?_, b4.upd hDx, zs ++ [z], by rw [List.length_append, hl]; rfl, fun y hy => ?_, by rw [upd_same, List.map_append]; rfl⟩
      · rw [upd_ne (ne_of_none e hnD)]
        exact k4 _ _ hc (k2 _ _ hc e)
      · rcases List.mem_append.mp hy with h | h
        · exact hz y h
        · rw [List.mem_singleton.mp h]
          exact List.mem_of_getElem? hzz
    · obtain ⟨k2, b2, zs, hl, hz, eD⟩ := h2
      refine ⟨D, _, rfl, .inl ⟨sqL_new eD, fun l nl => ?_⟩⟩
      exact q l zs _ (by omega) hz (k2.trans (But.of (same_new nl))) (b2.mono (same_new nl)) (k2.free b2 nl) upd_same
end
end Kb
namespace Kb
open PySem PySem.Spec PyProof.Rows L2 PySem.W
/-! ### the order of rows -/
theorem le_total : TotalLe Ka.rowLe := sortLe_total (listOrd itemOrd) false fun b => keyToks (Ka.keyOf b)
theorem toks_inj : ∀ {a b : List Str}, keyToksAll (a.map PyData.str) = keyToksAll (b.map PyData.str) → a = b
  | [], [], _ => rfl
  | [], y :: b, h => by
    rw [List.map_nil, List.map_cons, keyToksAll, keyToksAll] at h
    simp at h
  | x :: a, [], h => by
    rw [List.map_nil, List.map_cons, keyToksAll, keyToksAll] at h
    simp at h
  | x :: a, y :: b, h => by
    rw [List.map_cons, List.map_cons, keyToksAll, keyToksAll, keyToks, keyToks] at h
    simp only [List.cons_append, List.nil_append, List.cons.injEq, Sum.inr.injEq, true_and] at h
    obtain ⟨h1, h2⟩ := h
    have e : x = y := by
      obtain ⟨x⟩ := x
      obtain ⟨y⟩ := y
      exact congrArg Str.mk (Array.toList_inj.mp h1)
    rw [e, toks_inj h2]
theorem le_anti {a b : List Str} (h1 : Ka.rowLe a b = true) (h2 : Ka.rowLe b a = true) : a = b := by
  have h1' : (!(listOrd itemOrd).blt (keyToks (Ka.keyOf b)) (keyToks (Ka.keyOf a))) = true := h1
  have h2' : (!(listOrd itemOrd).blt (keyToks (Ka.keyOf a)) (keyToks (Ka.keyOf b))) = true := h2
  rw [Bool.not_eq_true'] at h1' h2'
  have e := (listOrd itemOrd).total _ _ h2' h1'
  unfold Ka.keyOf Ka.rowD at e
  simp only [keyToks, keyToksAll, List.cons_append, List.nil_append, List.cons.injEq, true_and, Sum.inl.injEq] at e
  exact toks_inj (List.append_cancel_right e.2)
theorem le_len {a b : List Str} (h : a.length < b.length) : Ka.rowLe b a = false := by
  show (!dataLt (Ka.keyOf a) (Ka.keyOf b)) = false
  unfold Ka.keyOf
  rw [dataLt_pair (by simp [alike]) (by simp [alike, Ka.rowD, Ka.alike_strs]), dataLt_int]
  have hne : ¬ ((a.length : Int) = (b.length : Int)) := by omega
  have hlt : (a.length : Int) < (b.length : Int) := by omega
  simp [PyData.eqv, hne, hlt]
/-- in order, without duplicates: there is one such list -/
theorem ord_one {α : Type} {le : α → α → Bool} (anti : ∀ a b, le a b = true → le b a = true → a = b) : ∀ {l m : List α}, l.Pairwise (fun a b => le a b = true) → m.Pairwise (fun a b => le a b = true) → l.Nodup → m.Nodup → (∀ x, x ∈ l ↔ x ∈ m) → l = m
  | [], [], _, _, _, _, _ => rfl
  | [], y :: m, _, _, _, _, h => absurd ((h y).mpr List.mem_cons_self) (by simp)
  | x :: l, [], _, _, _, _, h => absurd ((h x).mp List.mem_cons_self) (by simp)
  | x :: l, y :: m, h1, h2, n1, n2, h => by
    rw [List.pairwise_cons] at h1 h2
    rw [List.nodup_cons] at n1 n2
    have e : x = y := by
      rcases List.mem_cons.mp ((h x).mp List.mem_cons_self) with e | hx
      · exact e
      · rcases List.mem_cons.mp ((h y).mpr List.mem_cons_self) with e | hy
        · exact e.symm
        · exact anti _ _ (h1.1 y hy) (h2.1 x hx)
    subst e
    have e2 : l = m := ord_one anti h1.2 h2.2 n1.2 n2.2 fun z => by
      have hz := h z
      rw [List.mem_cons, List.mem_cons] at hz
      constructor
      · intro w
        rcases hz.mp (.inr w) with e | q
        · exact absurd (e ▸ w) n1.1
        · exact q
      · intro w
        rcases hz.mpr (.inr w) with e | q
        · exact absurd (e ▸ w) n2.1
        · exact q
    rw [e2]
/-- without the later ones of each -/
def nub {α : Type} [DecidableEq α] (l : List α) : List α := l.foldl (fun acc x => if x ∈ acc then acc else acc ++ [x]) []
theorem nub_snoc {α : Type} [DecidableEq α] (l : List α) (x : α) : nub (l ++ [x]) = if x ∈ nub l then nub l else nub l ++ [x] := by
  unfold nub
  rw [List.foldl_append]
  rfl
theorem mem_nub {α : Type} [DecidableEq α] {x : α} (l : List α) : x ∈ nub l ↔ x ∈ l := by
  refine Ka.snoc_ind (P := fun l => x ∈ nub l ↔ x ∈ l) ?_ ?_ l
  · exact Iff.rfl
  · intro l y ih
    rw [nub_snoc, List.mem_append, List.mem_singleton]
    split
    · rename_i h
      constructor
      · exact fun w => .inl (ih.mp w)
      · rintro (w | rfl)
        · exact ih.mpr w
        · exact h
    · rw [List.mem_append, List.mem_singleton, ih]
theorem nub_nodup {α : Type} [DecidableEq α] (l : List α) : (nub l).Nodup := by
  refine Ka.snoc_ind (P := fun l => (nub l).Nodup) ?_ ?_ l
  · exact List.nodup_nil
  · intro l y ih
    rw [nub_snoc]
    split
    · exact ih
    · rename_i h
      rw [List.nodup_append]
      refine ⟨ih, by simp, fun a ha b hb => ?_⟩
      rw [List.mem_singleton.mp hb]
      intro e
      exact h (e ▸ ha)
/-- the rows in order, without duplicates -/
def ordR (l : List (List Str)) : List (List Str) := (nub l).mergeSort Ka.rowLe
theorem mem_ordR {x : List Str} {l : List (List Str)} : x ∈ ordR l ↔ x ∈ l := by
  unfold ordR
  rw [List.mem_mergeSort, mem_nub]
theorem ordR_ord (l : List (List Str)) : (ordR l).Pairwise (fun a b => Ka.rowLe a b = true) := sort_pairwise le_total _
theorem ordR_nodup (l : List (List Str)) : (ordR l).Nodup := (List.mergeSort_perm _ _).nodup_iff.mpr (nub_nodup l)
theorem ordR_is {l m : List (List Str)} (h1 : m.Pairwise (fun a b => Ka.rowLe a b = true)) (h2 : m.Nodup) (h3 : ∀ x, x ∈ m ↔ x ∈ l) : m = ordR l :=
  ord_one (fun _ _ => le_anti) h1 (ordR_ord l) h2 (ordR_nodup l) fun x => by rw [h3, mem_ordR]
theorem nub_ord {l : List (List Str)} (h : l.Pairwise (fun a b => Ka.rowLe a b = true)) : (nub l).Pairwise (fun a b => Ka.rowLe a b = true) := by
  revert h
  refine Ka.snoc_ind (P := fun l => l.Pairwise (fun a b => Ka.rowLe a b = true) → (nub l).Pairwise (fun a b => Ka.rowLe a b = true)) ?_ ?_ l
  · exact fun h => h
  · intro l y ih h
    rw [List.pairwise_append] at h
    rw [nub_snoc]
    split
    · exact ih h.1
    · rw [List.pairwise_append]
      exact ⟨ih h.1, List.pairwise_singleton _ _, fun a ha b hb => h.2.2 a ((mem_nub l).mp ha) b hb⟩
/-- sorted, then each once: the same -/
theorem nub_sort (l : List (List Str)) : nub (l.mergeSort Ka.rowLe) = ordR l :=
  ordR_is (nub_ord (sort_pairwise le_total _)) (nub_nodup _) fun x => by rw [mem_nub, List.mem_mergeSort]
/-! ### within, as lists -/
theorem sub_iff {α : Type} [DecidableEq α] : ∀ {u z : List α}, sub u z = true ↔ u.Sublist z
  | [], z => by
    rw [sub]
    exact ⟨fun _ => List.nil_sublist _, fun _ => rfl⟩
  | d :: u, [] => by
    rw [sub]
    exact ⟨fun h => (Bool.noConfusion h), fun h => by cases h⟩
  | d :: u, e :: z => by
    rw [sub]
    split
    · rename_i h
      subst h
      rw [List.cons_sublist_cons]
      exact sub_iff
    · rename_i h
      rw [sub_iff]
      constructor
      · exact fun w => List.Sublist.cons _ w
      · intro w
        cases w with
        | cons _ w => exact w
        | cons_cons _ w => exact absurd rfl h
theorem sub_refl {α : Type} [DecidableEq α] (u : List α) : sub u u = true := sub_iff.mpr (List.Sublist.refl u)
theorem sub_trans {α : Type} [DecidableEq α] {u v w : List α} (h1 : sub u v = true) (h2 : sub v w = true) : sub u w = true := sub_iff.mpr ((sub_iff.mp h1).trans (sub_iff.mp h2))
theorem sub_len {α : Type} [DecidableEq α] {u v : List α} (h : sub u v = true) (hn : u ≠ v) : u.length < v.length := by
  have h1 := sub_iff.mp h
  have h2 := h1.length_le
  by_cases e : u.length = v.length
  · exact absurd (h1.eq_of_length e) hn
  · omega
/-- lies within no other one -/
def great (L : List (List Str)) (r : List Str) : Bool := L.all fun o => decide (o = r) || !sub r o
def topR (l : List (List Str)) : List (List Str) := (ordR l).filter (great (ordR l))
theorem great_iff {L : List (List Str)} {r : List Str} : great L r = true ↔ ∀ o ∈ L, o ≠ r → sub r o = false := by
  unfold great
  rw [List.all_eq_true]
  constructor
  · intro h o ho hn
    have := h o ho
    rw [decide_eq_false hn, Bool.false_or] at this
    simpa using this
  · intro h o ho
    by_cases e : o = r
    · rw [decide_eq_true e]; rfl
    · rw [h o ho e, Bool.not_false, Bool.or_true]
/-- each row lies within a great one -/
theorem some_great (L : List (List Str)) (M : Nat) (hM : ∀ o ∈ L, o.length ≤ M) : ∀ (n : Nat) (r : List Str), M - r.length ≤ n → r ∈ L → ∃ g ∈ L, great L g = true ∧ sub r g = true
  | n, r, hn, hr => by
    by_cases h : great L r = true
    · exact ⟨r, hr, h, sub_refl r⟩
    · have : ∃ o ∈ L, o ≠ r ∧ sub r o = true := by
        apply Classical.byContradiction
        intro w
        refine h (great_iff.mpr fun o ho hne => ?_)
        cases e : sub r o with
        | false => rfl
        | true => exact absurd ⟨o, ho, hne, e⟩ w
      obtain ⟨o, ho, hne, hs⟩ := this
      have hl := sub_len hs (Ne.symm hne)
      have hM' := hM o ho
      cases n with
      | zero => omega
      | succ n =>
        obtain ⟨g, hg, h1, h2⟩ := some_great L M hM n o (by omega) ho
        exact ⟨g, hg, h1, sub_trans hs h2⟩
theorem all_le : ∀ L : List (List Str), ∃ M, ∀ o ∈ L, o.length ≤ M
  | [] => ⟨0, fun o h => by cases h⟩
  | x :: L => by
    obtain ⟨M, hM⟩ := all_le L
    refine ⟨x.length + M, fun o h => ?_⟩
    rcases List.mem_cons.mp h with rfl | h
    · omega
    · have := hM o h
      omega
/-- the turn of greatest_rows: behind i rows from the end -/
theorem great_turn {l : List (List Str)} {i : Nat} {r : List Str} (hi : i < (ordR l).length) (hr : (ordR l)[(ordR l).length - 1 - i]? = some r) :
    (((ordR l).drop ((ordR l).length - i)).filter (great (ordR l))).any (fun g => sub r g) = !great (ordR l) r := by
  have hrm : r ∈ ordR l := List.mem_of_getElem? hr
  have hdrop : (ordR l).drop ((ordR l).length - 1 - i) = r :: (ordR l).drop ((ordR l).length - i) := by
    rw [drop_of_get hr]
    congr 2
    omega
  have hnd : r ∉ (ordR l).drop ((ordR l).length - i) := by
    have := (ordR_nodup l).sublist (List.drop_sublist ((ordR l).length - 1 - i) _)
    rw [hdrop, List.nodup_cons] at this
    exact this.1
  cases hg : great (ordR l) r with
  | true =>
    rw [Bool.not_true, List.any_eq_false]
    intro g hgm
    rw [List.mem_filter] at hgm
    have hne : g ≠ r := fun e => hnd (e ▸ hgm.1)
    have := great_iff.mp hg g (List.mem_of_mem_drop hgm.1) hne
    rw [this]
    exact Bool.false_ne_true
  | false =>
    rw [Bool.not_false, List.any_eq_true]
    obtain ⟨M, hM⟩ := all_le (ordR l)
    obtain ⟨g, hgm, h1, h2⟩ := some_great (ordR l) M hM _ r (Nat.le_refl _) hrm
    have hne : g ≠ r := fun e => by
      rw [e] at h1
      rw [h1] at hg
      cases hg
    have hl := sub_len h2 (Ne.symm hne)
    refine ⟨g, List.mem_filter.mpr ⟨?_, h1⟩, h2⟩
    -- g stands behind r, being longer
    have hsplit : ordR l = (ordR l).take ((ordR l).length - 1 - i) ++ r :: (ordR l).drop ((ordR l).length - i) := by
      rw [← hdrop, List.take_append_drop]
    have hmem := hgm
    rw [hsplit, List.mem_append, List.mem_cons] at hmem
    rcases hmem with h | h | h
    · have hp := ordR_ord l
      rw [hsplit, List.pairwise_append] at hp
      have := hp.2.2 g h r List.mem_cons_self
      rw [le_len hl] at this
      cases this
    · exact absurd h hne
    · exact h
end Kb
namespace Kb
open PySem PySem.Spec PyProof.Rows L2
/-! ### two ways to walk -/
theorem pi_or {X : Cx} {tg e : Expr} {t u : TI} (h1 : PI X tg e t) (h2 : PI X tg e u) : PI X tg e (fun σ H R => t σ H R ∨ u σ H R) :=
  ⟨fun pins s σ H R I h => h.elim (fun w => h1.run pins s σ H R I w) fun w => h2.run pins s σ H R I w⟩
/-- a dict comprehension over a walk -/
theorem dc_it {J : It} {n : Nat} {G : Hp → Prop} {Y : Nat → Hp → V → Hp → Prop} (w : Walk J n G Y) {g : TG} {tk tv : TE} {vs : List Nat} {σ : L2.St} {H1 : Hp} {D : Addr} {Qd : Hp → Prop} (Pv : Nat → Hp → Prop) (h0 : Pv 0 (upd H1 D (.dT []))) (hG : ∀ i H, i ≤ n → Pv i H → G H)
    (hs : ∀ i x H H', i < n → Pv i H → Y i H x H' → g x (wipe σ vs) H' fun σ2 H2 => wipe σ2 vs = wipe σ vs ∧ tk σ2 H2 fun y H4 => tv σ2 H4 fun z H5 => ∃ kvs k b, y = .ref b ∧ H5 b = some (.tup (k.map kV)) ∧ H5 D = some (.dT kvs) ∧ kvs.length < sizeLine ∧ Pv (i + 1) (upd H5 D (.dT (putK kvs k z))))
    (hd : ∀ H, Pv n H → Qd H) : ∃ W : Nat → Nat → Hp → Prop, (∃ m, W 0 m (upd H1 D (.dT []))) ∧ ∀ i m H, W i m H →
      (J.stop i H ∧ Qd H) ∨ (J.go i H ∧ ∃ Nx : Hp → Prop, (∀ H', Nx H' → ∃ m', m' < m ∧ W (i + 1) m' H') ∧ ∀ x H', J.yld i H x H' → g x (wipe σ vs) H' fun σ2 H2 => wipe σ2 vs = wipe σ vs ∧
        tk σ2 H2 fun y H4 => tv σ2 H4 fun z H5 => ∃ kvs k b, y = .ref b ∧ H5 b = some (.tup (k.map kV)) ∧ H5 D = some (.dT kvs) ∧ kvs.length < sizeLine ∧ Nx (upd H5 D (.dT (putK kvs k z)))) := by
  refine ⟨fun i m H => m = n - i ∧ i ≤ n ∧ Pv i H, ⟨n, rfl, Nat.zero_le _, h0⟩, fun i m H ⟨em, hi, p⟩ => ?_⟩
  by_cases hlt : i < n
  · refine .inr ⟨w.goes i H hlt (hG i H hi p), Pv (i + 1), fun H' p' => ⟨n - (i + 1), by omega, rfl, hlt, p'⟩, fun x H' y => ?_⟩
    exact hs i x H H' hlt p (w.yields i H x H' hlt (hG i H hi p) y)
  · obtain rfl : i = n := by omega
    exact .inl ⟨w.stops H (hG i H hi p), hd H p⟩
/-! ### in_order -/
/-- rows of texts at their addresses -/
def Rows (H : Hp) (rs : List Ka.Row) : Prop := ∀ r ∈ rs, H r.1 = some (.tup (r.2.map V.str))
theorem Rows.mono {H H' : Hp} {rs : List Ka.Row} (h : Rows H rs) (s : Same H H') : Rows H' rs := fun r hr => s _ _ (h r hr)
def adV (rs : List Ka.Row) : List V := rs.map fun r => V.ref r.1
/-- the dict of the first i rows -/
def kvsN (ls : List (List Str)) : List (List L2.Key × V) := ls.map fun r => (r.map Sum.inr, V.bl true)
theorem inr_inj : ∀ {a b : List Str}, (a.map (Sum.inr : Str → L2.Key)) = b.map Sum.inr ↔ a = b
  | [], [] => by simp
  | [], _ :: _ => by simp
  | _ :: _, [] => by simp
  | x :: a, y :: b => by
    rw [List.map_cons, List.map_cons, List.cons.injEq, List.cons.injEq, inr_inj (a := a) (b := b)]
    constructor
    · rintro ⟨h1, h2⟩
      exact ⟨Sum.inr.inj h1, h2⟩
    · rintro ⟨rfl, h2⟩
      exact ⟨rfl, h2⟩
theorem kvs_put (ls : List (List Str)) (r : List Str) : putK (kvsN (nub ls)) (r.map Sum.inr) (.bl true) = kvsN (nub (ls ++ [r])) := by
  rw [nub_snoc]
  unfold putK
  have e : ((kvsN (nub ls)).any fun kv => decide (kv.1 = r.map Sum.inr)) = decide (r ∈ nub ls) := by
    unfold kvsN
    rw [List.any_map]
    by_cases h : r ∈ nub ls
    · rw [decide_eq_true h, List.any_eq_true]
      exact ⟨r, h, decide_eq_true rfl⟩
    · rw [decide_eq_false h, List.any_eq_false]
      intro x hx hc
      have hc := of_decide_eq_true hc
      exact h (inr_inj.mp hc ▸ hx)
  rw [e]
  by_cases h : r ∈ nub ls
  · rw [decide_eq_true h, if_pos rfl, if_pos h]
    unfold kvsN
    rw [List.map_map]
    apply List.map_congr_left
    intro x hx
    show (if x.map Sum.inr = r.map Sum.inr then ((x.map Sum.inr : List L2.Key), V.bl true) else (x.map Sum.inr, V.bl true)) = _
    split <;> rfl
  · rw [decide_eq_false h, if_neg Bool.false_ne_true, if_neg h]
    unfold kvsN
    rw [List.map_append]
    rfl
theorem kV_rows (r : List Str) : (r.map (Sum.inr : Str → L2.Key)).map kV = r.map V.str := by
  rw [List.map_map]
  rfl
theorem nub_len {α : Type} [DecidableEq α] (l : List α) : (nub l).length ≤ l.length := by
  refine Ka.snoc_ind (P := fun l => (nub l).length ≤ l.length) (Nat.le_refl _) (fun l x ih => ?_) l
  rw [nub_snoc, List.length_append, List.length_singleton]
  split
  · omega
  · rw [List.length_append, List.length_singleton]
    omega
/-- {row: True for row in rows} over a walk -/
theorem dc_rows {J : It} {G : Hp → Prop} {H : Hp} {rs : List Ka.Row} {x0 : V} {Q : VK} (w : Walk J (adV rs).length G (YAt (adV rs))) (hG : ∀ H', Same H H' → G H') (hR : Rows H rs) (hz : rs.length ≤ 1000)
    (q : ∀ D H2, Same H H2 → H D = none → H2 D = some (.dT (kvsN (nub (rs.map (·.2))))) → Q (.ref D) H2) : Ka.tDcT (fun _ H R => R J H) (gName 1) (tVar 1) (tC (.bl true)) [1] [some x0, none] H Q := by
  refine fun D nD => dc_it w (fun i H2 => Same H H2 ∧ H2 D = some (.dT (kvsN (nub ((rs.map (·.2)).take i))))) ⟨same_new nD, upd_same⟩ (fun i H2 _ h => hG H2 h.1) (fun i x H2 H3 hi h y => ?_) (fun H2 h => ?_)
  · obtain ⟨rfl, hx⟩ := y
    obtain ⟨sm, eD⟩ := h
    obtain ⟨r, hr, rfl⟩ := get_map hx
    have er := sm _ _ (hR r (List.mem_of_getElem? hr))
    refine ⟨rfl, .ref r.1, rfl, _, r.2.map Sum.inr, r.1, rfl, ?_, eD, ?_, fun c o e => ?_, ?_⟩
    · rw [kV_rows]
      exact er
    · unfold kvsN
      rw [List.length_map]
      refine small (Nat.le_trans (nub_len _) (Nat.le_trans (List.length_take_le _ _) ?_))
      unfold adV at hi
      rw [List.length_map] at hi
      omega
    · rw [upd_ne (ne_of_none e nD)]
      exact sm c o e
    · have hg : (rs.map (·.2))[i]? = some r.2 := by
        rw [List.getElem?_map, hr]
        rfl
      rw [upd_same, kvs_put, take_of_get hg]
  · refine q D H2 h.1 nD ?_
    have e : (rs.map (·.2)).take (adV rs).length = rs.map (·.2) := List.take_of_length_le (by unfold adV; rw [List.length_map, List.length_map]; exact Nat.le_refl _)
    have h2 := h.2
    rw [e] at h2
    exact h2
section
variable {P : Program} {w : World} {K : PySem.W.Frag} {mg : Str → Option Value} {base : Heap}
theorem scInO : FnScope ["rows", "row"] ["rows"] (defScope sInOrder) := ⟨rfl, rfl, rfl, by decide +kernel, rfl, by decide +kernel, by decide +kernel⟩
def spInO (K : PySem.W.Frag) : Sp := fun vs H Q _ => ∃ (a : Addr) (rs : List Ka.Row), vs = [.ref a] ∧ (SqL K H a (adV rs) ∨ SqT K H a (adV rs)) ∧ Rows H rs ∧ rs.length ≤ 1000 ∧
  ∀ (H' : Hp) (p : Addr) (ts : List Ka.Row), Same H H' → H p = none → H' p = some (.tup (adV ts)) → ts.map (·.2) = ordR (rs.map (·.2)) → Rows H' ts → Q (.ref p) H'
theorem inO_end {H H2 : Hp} {D fO : Addr} {rs : List Ka.Row} {Q : VK} (s2 : Same H H2) (eD : H2 D = some (.dT (kvsN (nub (rs.map (·.2))))))
    (q : ∀ (H' : Hp) (p : Addr) (ts : List Ka.Row), Same H H' → H p = none → H' p = some (.tup (adV ts)) → ts.map (·.2) = ordR (rs.map (·.2)) → Rows H' ts → Q (.ref p) H') :
    Ka.rSortK K fO [.ref D] [.ref fO] H2 fun v H3 => ∃ p ys, [v] = [V.ref p] ∧ ((SqL K H3 p ys ∧ ∀ l, H3 l = none → Q (.ref l) (upd H3 l (.tup ys))) ∨ SqT K H3 p ys ∧ Q (.ref p) H3) := by
  refine ⟨rfl, .inr ⟨D, _, nub (rs.map (·.2)), rfl, eD, ?_, fun ts p h1 h2 np => ?_⟩⟩
  · unfold kvsN
    rw [List.map_map]
    rfl
  · refine ⟨p, adV ts, rfl, .inl ⟨sqL_new upd_same, fun l nl => ?_⟩⟩
    have s3 := same_new (o := .lst (adV ts)) np
    have s4 := same_new (o := .tup (adV ts)) nl
    have sA := (s2.trans s3).trans s4
    exact q _ l ts sA ((s2.trans s3).free nl) upd_same h1 (fun r hr => (s3.trans s4) _ _ (h2 r hr))
theorem ok_inO {f fO : Addr} {fd fdO : FuncData} (F : Fun K "in_order" "in_order" sInOrder f fd) (FO : Fun K "row_order" "row_order" sOrder fO fdO) (gO : mg "row_order" = some (.ref fO)) (ml : mg "len" = none) (mt : mg "tuple" = none) (ms : mg "sorted" = none) : FnOk P w K mg base CX0 1 f fd ["rows"] (spInO K) := by
  refine F.ok scInO (fun vs H Q E h => ?_) (fun cdv A outer s H vs Q E hr h => ?_)
  · obtain ⟨a, rs, rfl, _⟩ := h
    rfl
  · obtain ⟨a, rs, rfl, hA, hR, hz, q⟩ := h
    refine ⟨_, pss_one (ps_ret (pe_callTy call_tuple_of (by rfl) mt (by decide +kernel) (pa_cons
      (pe_callBK (Ka.cr_sortRows (f := fO) rfl hr.units (fun pins s σ H I => ?_)) (by rfl) ms (by decide +kernel)
        (pa_cons (Ka.pe_dcT (own := [("row", 1)]) (g := gName 1) rfl ?_ scInO.nd (pi_or (pi_list (pv 0)) (pi_tup (pv 0))) (blkOk_by (own := [("row", 1)]) (N := ["rows", "row"]) (sc := defScope sInOrder) (by decide +kernel)) (fun _ _ _ _ _ => pg_name (i := 1) scInO.nd rfl (Or.inl rfl)) (fun _ _ _ _ _ => pv 1) (fun _ _ _ _ _ => pe_bl)) pa_nil)
        (pk_cons (pe_glob (v := .ref fO) rfl gO rfl) pk_nil)) pa_nil))), ?_⟩
    · obtain ⟨oc, od, kV, doc, pm, an, cdv2, ct, osl, rfl, lk, hcd⟩ := FO.ex
      exact Ka.keyAt_def (x := "row") (scope := defScope sOrder) (params := defArgs sOrder) I hr lk hcd ml (fun v => rfl) rfl rfl rfl (by decide +kernel) (by rfl) (by rfl) (by decide)
    · exact hu_of hr
    · rcases hA with hA | hA
      · refine .inl ⟨.ref a, rfl, a, rfl, ⟨_, hA⟩, ?_⟩
        exact dc_rows (x0 := .ref a) (Q := fun v H1 => Ka.rSortK K fO [v] [.ref fO] H1 fun v2 H3 => ∃ p ys, [v2] = [V.ref p] ∧ ((SqL K H3 p ys ∧ ∀ l, H3 l = none → Q (.ref l) (upd H3 l (.tup ys))) ∨ SqT K H3 p ys ∧ Q (.ref p) H3)) walk_list (fun H' sm => sm.seq hA) hR hz fun D H2 s2 nD eD => inO_end s2 eD q
      · refine .inr ⟨.ref a, rfl, a, rfl, ⟨_, hA⟩, ?_⟩
        exact dc_rows (x0 := .ref a) (Q := fun v H1 => Ka.rSortK K fO [v] [.ref fO] H1 fun v2 H3 => ∃ p ys, [v2] = [V.ref p] ∧ ((SqL K H3 p ys ∧ ∀ l, H3 l = none → Q (.ref l) (upd H3 l (.tup ys))) ∨ SqT K H3 p ys ∧ Q (.ref p) H3)) walk_tup (fun H' sm => Same.sqT sm hA) hR hz fun D H2 s2 nD eD => inO_end s2 eD q
end
end Kb
namespace Kb
open PySem PySem.Spec PyProof.Rows L2
/-! ### values as data: places, rows, lists of them -/
def natD (g : List Nat) : PyData := .tuple (g.map fun (i : Nat) => .int (i : Int))
/-- the lists of codes are the same: the texts are -/
theorem str_beq (x y : Str) : (x == y) = decide (x = y) := by
  by_cases h : x = y
  · subst h
    simp
  · rw [decide_eq_false h]
    exact beq_eq_false_iff_ne.mpr h
theorem eqvAll_map {α : Type} [DecidableEq α] {f : α → PyData} (h : ∀ a b, PyData.eqv (f a) (f b) = decide (a = b)) : ∀ l m : List α, PyData.eqvAll (l.map f) (m.map f) = decide (l = m)
  | [], [] => by simp [PyData.eqvAll]
  | [], _ :: _ => by simp [PyData.eqvAll]
  | _ :: _, [] => by simp [PyData.eqvAll]
  | x :: l, y :: m => by
    rw [List.map_cons, List.map_cons, PyData.eqvAll, h, eqvAll_map h l m]
    by_cases h1 : x = y <;> by_cases h2 : l = m <;> simp [h1, h2]
theorem eq_int (a b : Nat) : PyData.eqv (.int (a : Int)) (.int (b : Int)) = decide (a = b) := by
  rw [PyData.eqv]
  by_cases h : a = b
  · subst h
    simp
  · rw [decide_eq_false h]
    exact beq_eq_false_iff_ne.mpr (by omega)
theorem eq_str (a b : Str) : PyData.eqv (.str a) (.str b) = decide (a = b) := by
  rw [PyData.eqv, str_beq]
theorem eqN (g g' : List Nat) : PyData.eqv (natD g) (natD g') = decide (g = g') := by
  unfold natD
  rw [PyData.eqv, eqvAll_map (f := fun (i : Nat) => PyData.int (i : Int)) eq_int]
theorem eqR (r r' : List Str) : PyData.eqv (Ka.rowD r) (Ka.rowD r') = decide (r = r') := by
  unfold Ka.rowD
  rw [PyData.eqv, eqvAll_map eq_str]
theorem eqRows (l m : List (List Str)) : PyData.eqvAll (l.map Ka.rowD) (m.map Ka.rowD) = decide (l = m) := eqvAll_map eqR l m
theorem dep_le {α : Type} {f : α → PyData} {n : Nat} (h : ∀ a, (f a).depth ≤ n) : ∀ l : List α, PyData.depthAll (l.map f) ≤ n
  | [] => by simp [PyData.depthAll]
  | x :: l => by
    have h1 := h x
    have h2 := dep_le h l
    rw [List.map_cons]
    simp only [PyData.depthAll]
    omega
theorem lay_all {α : Type} {f : α → PyData} : ∀ l : List α, (∀ a ∈ l, (f a).canLay0 = true) → PyData.canLayAll0 (l.map f) = true
  | [], _ => by simp [PyData.canLayAll0]
  | x :: l, h => by
    rw [List.map_cons, PyData.canLayAll0, h x List.mem_cons_self, lay_all l fun a ha => h a (List.mem_cons_of_mem _ ha)]
    rfl
theorem shaped_of {d : PyData} (h1 : d.canLay0 = true) (h2 : d.depth ≤ 64) : SeqAt.shaped d = true := by
  unfold SeqAt.shaped
  rw [h1, decide_eq_true h2]
  rfl
theorem depN (g : List Nat) : (natD g).depth ≤ 2 := by
  unfold natD
  have := dep_le (f := fun (i : Nat) => PyData.int (i : Int)) (n := 1) (fun a => by simp [PyData.depth]) g
  simp only [PyData.depth]
  omega
theorem layN (g : List Nat) : (natD g).canLay0 = true := by
  unfold natD
  rw [PyData.canLay0]
  exact lay_all g fun a _ => by rw [PyData.canLay0]
theorem shN (g : List Nat) : SeqAt.shaped (natD g) = true := shaped_of (layN g) (Nat.le_trans (depN g) (by decide))
theorem depR (r : List Str) : (Ka.rowD r).depth ≤ 2 := by
  unfold Ka.rowD
  have := dep_le (f := PyData.str) (n := 1) (fun a => by simp [PyData.depth]) r
  simp only [PyData.depth]
  omega
theorem name_ok {z : Str} (h : isName z = true) : PyData.strOk z = true := by
  unfold isName at h
  rw [Bool.and_eq_true] at h
  unfold PyData.strOk
  rw [← Array.all_toList, List.all_eq_true]
  intro c hc
  have := List.all_eq_true.mp h.2 c hc
  unfold lowC at this
  rw [Bool.and_eq_true] at this
  have := of_decide_eq_true this.2
  exact decide_eq_true (by omega)
theorem layR {r : List Str} (h : ∀ z ∈ r, isName z = true) : (Ka.rowD r).canLay0 = true := by
  unfold Ka.rowD
  rw [PyData.canLay0]
  exact lay_all r fun a ha => by rw [PyData.canLay0]; exact name_ok (h a ha)
theorem shR {r : List Str} (h : ∀ z ∈ r, isName z = true) : SeqAt.shaped (Ka.rowD r) = true := shaped_of (layR h) (Nat.le_trans (depR r) (by decide))
theorem shRows {l : List (List Str)} (h : ∀ r ∈ l, ∀ z ∈ r, isName z = true) : SeqAt.shaped (.list (l.map Ka.rowD)) = true ∧ SeqAt.shaped (.tuple (l.map Ka.rowD)) = true := by
  have h1 := dep_le (f := Ka.rowD) (n := 2) depR l
  have h2 := lay_all (f := Ka.rowD) l fun r hr => layR (h r hr)
  exact ⟨shaped_of (by rw [PyData.canLay0]; exact h2) (by simp only [PyData.depth]; omega), shaped_of (by rw [PyData.canLay0]; exact h2) (by simp only [PyData.depth]; omega)⟩
section
variable {K : PySem.W.Frag} {H : Hp}
theorem dpNs : ∀ g : List Nat, DpAll K H (natV g) (g.map fun (i : Nat) => .int (i : Int))
  | [] => .nil
  | i :: g => .cons (.int _) (dpNs g)
theorem dpN {p : Addr} {g : List Nat} (h : H p = some (.tup (natV g))) : Dp K H (.ref p) (natD g) := .tup (sqT_new h) (dpNs g)
theorem dpRs : ∀ r : List Str, DpAll K H (r.map V.str) (r.map .str)
  | [] => .nil
  | i :: g => .cons (.str _) (dpRs g)
theorem dpR {p : Addr} {r : List Str} (h : H p = some (.tup (r.map V.str))) : Dp K H (.ref p) (Ka.rowD r) := .tup (sqT_new h) (dpRs r)
theorem dpRows : ∀ {rs : List Ka.Row}, Rows H rs → DpAll K H (adV rs) ((rs.map (·.2)).map Ka.rowD)
  | [], _ => .nil
  | r :: rs, h => .cons (dpR (h r List.mem_cons_self)) (dpRows fun q hq => h q (List.mem_cons_of_mem _ hq))
end
end Kb
namespace Kb
open PySem PySem.Spec PyProof.Rows L2
/-! ### texts as lists of signs -/
def ls (z : Str) : List Nat := z.cps.toList
theorem ls_len (z : Str) : z.length = (ls z).length := by
  unfold ls
  rw [Array.length_toList]
  rfl
theorem ls_inj {a b : Str} (h : ls a = ls b) : a = b := by
  obtain ⟨a⟩ := a
  obtain ⟨b⟩ := b
  exact congrArg Str.mk (Array.toList_inj.mp h)
theorem ls_add (a b : Str) : ls (a ++ b) = ls a ++ ls b := TL.tl_append a b
theorem ls_cutTo (z : Str) (k : Nat) : ls (cutS z none (some (k : Int))) = (ls z).take k := by
  unfold cutS ls
  rw [HT.sIx_nat, HT.sIx_none, List.drop_zero, Nat.sub_zero]
  show ((z.cps.toList.take _).toArray).toList = _
  rw [List.toList_toArray, ls_len]
  unfold ls
  by_cases h : k ≤ z.cps.toList.length
  · rw [Nat.min_eq_left h]
  · rw [Nat.min_eq_right (by omega), List.take_length, List.take_of_length_le (by omega)]
theorem ls_cutFrom (z : Str) (k : Nat) : ls (cutS z (some (k : Int)) none) = (ls z).drop k := by
  unfold cutS ls
  rw [HT.sIx_nat, HT.sIx_none]
  show (((z.cps.toList.drop _).take _).toArray).toList = _
  rw [List.toList_toArray, ls_len]
  unfold ls
  by_cases h : k ≤ z.cps.toList.length
  · rw [Nat.min_eq_left h, List.take_of_length_le (by rw [List.length_drop]; exact Nat.le_refl _)]
  · rw [Nat.min_eq_right (by omega), List.drop_length, List.drop_eq_nil_of_le (by omega), List.take_nil]
theorem joinL_nil : ∀ parts : List (List Nat), TL.joinL [] parts = parts.flatten
  | [] => rfl
  | [p] => by simp [TL.joinL]
  | p :: q :: r => by
    rw [TL.joinL, joinL_nil (q :: r)]
    rfl
theorem ls_join (ys : List Str) : ls (Txt.join (Str.ofString "") ys) = (ys.map ls).flatten := by
  rw [TL.join_eq]
  show TL.tl (Str.join (Str.ofString "") ys) = _
  rw [TL.tl_join]
  have e : TL.tl (Str.ofString "") = [] := by decide +kernel
  rw [e, joinL_nil]
  rfl
theorem name_iff {z : Str} : isName z = true ↔ 1 ≤ (ls z).length ∧ (ls z).length ≤ 5 ∧ ∀ c ∈ ls z, lowC c = true := by
  unfold isName ls
  rw [Bool.and_eq_true, Bool.and_eq_true, decide_eq_true_eq, decide_eq_true_eq, List.all_eq_true, Array.length_toList, and_assoc]
/-! ### the next letter, and why names end up unlike -/
def abc : Str := Str.ofString "abcdefghijklmnopqrstuvwxyz"
theorem abc_at : ∀ r : Fin 26, (ls abc)[r.1]? = some (97 + r.1) := by decide +kernel
theorem abc_index : ∀ r : Fin 26, Txt.index0 abc ⟨#[97 + r.1]⟩ = some r.1 := by decide +kernel
theorem low_of {c : Nat} (h : lowC c = true) : ∃ r : Fin 26, c = 97 + r.1 := by
  unfold lowC at h
  rw [Bool.and_eq_true, decide_eq_true_eq, decide_eq_true_eq] at h
  exact ⟨⟨c - 97, by omega⟩, by show c = 97 + (c - 97); omega⟩
theorem low_mk (r : Nat) : lowC (97 + r % 26) = true := by
  unfold lowC
  rw [Bool.and_eq_true, decide_eq_true_eq, decide_eq_true_eq]
  omega
theorem nodup_len {α : Type} [DecidableEq α] : ∀ {l m : List α}, l.Nodup → (∀ x ∈ l, x ∈ m) → l.length ≤ m.length
  | [], _, _, _ => Nat.zero_le _
  | x :: l, m, h, s => by
    rw [List.nodup_cons] at h
    have hx := s x List.mem_cons_self
    have h2 := nodup_len (l := l) (m := m.erase x) h.2 fun y hy => by
      have hne : y ≠ x := fun e => h.1 (e ▸ hy)
      exact (List.mem_erase_of_ne hne).mpr (s y (List.mem_cons_of_mem _ hy))
    rw [List.length_erase_of_mem hx] at h2
    have := List.length_pos_of_mem hx
    rw [List.length_cons]
    omega
/-- the name init ++ the letter c0 + k -/
def nm (init : List Nat) (c0 k : Nat) : Str := ⟨(init ++ [97 + (c0 + k) % 26]).toArray⟩
theorem nm_ls (init : List Nat) (c0 k : Nat) : ls (nm init c0 k) = init ++ [97 + (c0 + k) % 26] := by
  unfold ls nm
  simp
theorem nm_few {init : List Nat} {c0 n : Nat} {found : List Str} (hn : n ≤ 26) (h : ∀ k, k < n → nm init c0 k ∈ found) : n ≤ found.length := by
  have h1 : ((List.range n).map (nm init c0)).Nodup := by
    rw [List.nodup_iff_pairwise_ne, List.pairwise_map]
    refine List.Pairwise.imp_of_mem ?_ (List.nodup_iff_pairwise_ne.mp List.nodup_range)
    intro i j hi hj hne e
    have e2 := congrArg ls e
    rw [nm_ls, nm_ls] at e2
    have e3 := List.append_cancel_left e2
    rw [List.cons.injEq] at e3
    rw [List.mem_range] at hi hj
    have e4 := e3.1
    omega
  have h2 := nodup_len h1 (m := found) fun x hx => by
    obtain ⟨k, hk, rfl⟩ := List.mem_map.mp hx
    exact h k (List.mem_range.mp hk)
  rw [List.length_map, List.length_range] at h2
  exact h2
theorem nm_name {init : List Nat} {c0 k : Nat} (h1 : init.length ≤ 4) (h2 : ∀ c ∈ init, lowC c = true) : isName (nm init c0 k) = true := by
  rw [name_iff, nm_ls]
  refine ⟨by simp, by simp; omega, fun c hc => ?_⟩
  rcases List.mem_append.mp hc with h | h
  · exact h2 c h
  · rw [List.mem_singleton.mp h]
    exact low_mk _
/-- a name is of that form -/
theorem nm_of {z : Str} (h : isName z = true) : ∃ init c0, z = nm init c0 0 ∧ init.length ≤ 4 ∧ ∀ c ∈ init, lowC c = true := by
  obtain ⟨h1, h2, h3⟩ := name_iff.mp h
  have hne : ls z ≠ [] := fun e => by
    rw [e] at h1
    simp at h1
  have e := List.dropLast_concat_getLast hne
  obtain ⟨r, hr⟩ := low_of (h3 _ (List.getLast_mem hne))
  refine ⟨(ls z).dropLast, r.1, ls_inj ?_, by rw [List.length_dropLast]; omega, fun c hc => h3 c ((List.dropLast_sublist _).subset hc)⟩
  rw [nm_ls, Nat.add_zero, Nat.mod_eq_of_lt r.2, ← hr]
  exact e.symm
theorem shStrs {l : List Str} (h : ∀ z ∈ l, isName z = true) : SeqAt.shaped (.list (l.map .str)) = true := by
  have h1 := dep_le (f := PyData.str) (n := 1) (fun a => by simp [PyData.depth]) l
  exact shaped_of (by rw [PyData.canLay0]; exact lay_all l fun a ha => by rw [PyData.canLay0]; exact name_ok (h a ha)) (by simp only [PyData.depth]; omega)
theorem inV_str (z : Str) : ∀ ns : List Str, inV (.str z) (ns.map V.str) = decide (z ∈ ns)
  | [] => by simp [inV]
  | y :: ns => by
    have ih := inV_str z ns
    unfold inV at ih ⊢
    rw [List.map_cons, List.any_cons, ih]
    show ((y == z) || _) = _
    rw [str_beq]
    by_cases h1 : y = z
    · subst h1
      simp
    · have h2 : ¬ z = y := fun e => h1 e.symm
      simp [h1, h2]
theorem flat_strs (ns : List Str) : (ns.map V.str).all flatV = true := by
  rw [List.all_map, List.all_eq_true]
  exact fun _ _ => rfl
theorem letters_join {zs : List Str} (h : ∀ z ∈ zs, ∃ c, ls z = [c] ∧ lowC c = true) : (zs.map ls).flatten.length = zs.length ∧ (∀ c ∈ (zs.map ls).flatten, lowC c = true) ∧ (zs.map (·.length)).sum = zs.length := by
  induction zs with
  | nil => exact ⟨rfl, (fun c hc => by cases hc), rfl⟩
  | cons z zs ih =>
    obtain ⟨h1, h2, h3⟩ := ih fun y hy => h y (List.mem_cons_of_mem _ hy)
    obtain ⟨c, e, hc⟩ := h z List.mem_cons_self
    refine ⟨?_, fun d hd => ?_, ?_⟩
    · rw [List.map_cons, List.flatten_cons, List.length_append, h1, e, List.length_singleton, List.length_cons]
      omega
    · rw [List.map_cons, List.flatten_cons, e, List.mem_append, List.mem_singleton] at hd
      rcases hd with rfl | hd
      · exact hc
      · exact h2 d hd
    · rw [List.map_cons, List.sum_cons, h3, List.length_cons, ls_len, e]
      show 1 + zs.length = _
      omega
section
variable {P : Program} {w : World} {K : PySem.W.Frag} {mg : Str → Option Value} {base : Heap}
abbrev nNames : List Str := ["box", "many", "letters", "found", "turn", "kind", "place", "name", "step"]
theorem scNames : FnScope nNames ["box", "many"] (defScope sNames) := ⟨rfl, rfl, rfl, by decide +kernel, rfl, by decide +kernel, by decide +kernel⟩
def spNames : Sp := fun vs H Q _ => ∃ (x : Addr) (n : Nat), vs = [.ref x, .int (n : Nat)] ∧ Box H x ∧ n ≤ 20 ∧ ∀ (p : Addr) (ns : List Str) H', ns.length = n → ns.Nodup → (∀ z ∈ ns, isName z = true) → But x H H' → Box H' x → H p = none → H' p = some (.lst (ns.map V.str)) → Q (.ref p) H'
theorem strIx_at {X : Cx} {K : PySem.W.Frag} : IxR X rIxS := ix_str
theorem ok_names {f fT fP fL : Addr} {fd fdT fdP fdL : FuncData} (F : Fun K "_law_names" "_law_names" sNames f fd) (FT : Fun K "_law_take" "_law_take" sTake fT fdT) (bT : Binds K fdT ["box", "many"] []) (gT : mg "_law_take" = some (.ref fT)) (FP : Fun K "_law_pick" "_law_pick" sPick fP fdP) (bP : Binds K fdP ["box", "some"] []) (gP : mg "_law_pick" = some (.ref fP))
    (FL : Fun K "_law_letter" "_law_letter" sLet fL fdL) (bL : Binds K fdL ["box"] []) (gL : mg "_law_letter" = some (.ref fL)) (N : Nones mg) : FnOk P w K mg base CX0 3 f fd ["box", "many"] spNames := by
  have GT : FnOk P w K mg base CX0 1 fT fdT ["box", "many"] spTake := ok_take FT N.int
  have GP : FnOk P w K mg base CX0 2 fP fdP ["box", "some"] spPick := ok_pick FP FT bT gT N.int N.len
  have GL : FnOk P w K mg base CX0 2 fL fdL ["box"] spLet := ok_let FL FT bT gT N.int
  refine F.ok scNames (fun vs H Q E h => ?_) (fun cdv A outer s H vs Q E hr h => ?_)
  · obtain ⟨x, n, rfl, _⟩ := h
    rfl
  · obtain ⟨x, n, rfl, hx, hn, q⟩ := h
    have hr1 := hr.mono (show 1 ≤ 2 by decide)
    refine ⟨_, pss_cons (ps_par (i := 2) (j := 3) rfl scNames.nd rfl rfl (by decide) rfl rfl (pa_cons pe_str (pa_cons (pe_lst pa_nil) pa_nil)) (by rfl))
      (pss_cons (ps_for PassesOwn.never rfl (pi_range1 (by rfl) N.range (pa_cons (pv 1) pa_nil)) (pg_name (i := 4) scNames.nd rfl (.inl rfl))
        (pss_cons (ps_set (i := 5) scNames.nd rfl (.inl rfl) (pe_call GT hr1 (by rfl) gT FT.kp bT .nil pass0 (pa_cons (pv 0) (pa_cons pe_int pa_nil))))
        (pss_cons (ps_if (PW.pt (pw_or (pt_cmpR (op_eqD hr.units) (pv 3) (pe_lst pa_nil) (nomark _)) (pw_or1 (pt_cmpR op_lt (pv 5) pe_int (nomark _)))))
          (pss_one (ps_set (i := 7) scNames.nd rfl (.inl rfl) (pe_join pe_str (pe_lc (own := [("place", 6)]) (g := gName 6) (tt := tYes) rfl scNames.nd (pi_range1 (by rfl) N.range (pa_cons (pe_op op_add pe_int (pe_call GT hr1 (by rfl) gT FT.kp bT .nil pass0 (pa_cons (pv 0) (pa_cons pe_int pa_nil)))) pa_nil)) (blkOk_by (own := [("place", 6)]) (N := nNames) (sc := defScope sNames) (by decide +kernel)) (fun _ _ _ _ _ => pg_name (i := 6) scNames.nd rfl (Or.inl rfl)) (fun _ _ _ _ _ => pts_nil)
            (fun _ _ _ _ _ => pe_call GL hr (by rfl) gL FL.kp bL .nil pass0 (pa_cons (pv 0) pa_nil))))))
          (pss_cons (ps_set (i := 7) scNames.nd rfl (.inl rfl) (pe_call GP hr (by rfl) gP FP.kp bP .nil pass0 (pa_cons (pv 0) (pa_cons (pv 3) pa_nil))))
          (pss_cons (ps_set (i := 6) scNames.nd rfl (.inl rfl) (pe_call GT hr1 (by rfl) gT FT.kp bT .nil pass0 (pa_cons (pv 0) (pa_cons (pe_callB call_len (by rfl) N.len PySem.boot_len (pa_cons (pv 7) pa_nil)) pa_nil))))
          (pss_one (ps_set (i := 7) scNames.nd rfl (.inl rfl) (pe_ifExp (pt_cmpR op_eq (pv 5) pe_int (nomark _)) (pe_slice sl_str (pv 7) po_none (po_some (pe_op op_add (pv 6) pe_int)))
            (pe_op op_add_str (pe_op op_add_str (pe_slice sl_str (pv 7) po_none (po_some (pv 6))) (pe_call GL hr (by rfl) gL FL.kp bL .nil pass0 (pa_cons (pv 0) pa_nil))) (pe_slice sl_str (pv 7) (po_some (pe_op op_add (pv 6) pe_int)) po_none))))))))
        (pss_cons (ps_for PassesOwn.never rfl (pi_range1 (by rfl) N.range (pa_cons (pv 1) pa_nil)) (pg_name (i := 8) scNames.nd rfl (.inl rfl))
          (pss_one (ps_if (pt_cmpR op_in_seq (pv 7) (pv 3) (by rfl))
            (pss_one (ps_set (i := 7) scNames.nd rfl (.inl rfl) (pe_op op_add_str (pe_slice sl_str (pv 7) po_none (po_some (pe_op op_sub (pe_callB call_len (by rfl) N.len PySem.boot_len (pa_cons (pv 7) pa_nil)) pe_int)))
              (pe_ix ix_str (pv 2) (pe_op op_mod (pe_op op_add (pe_bmS PySem.F.plainAttrs_str PySem.F.slot_str_index PySem.F.type_str_index (mt_indexX rfl takes0) (pv 2) (pa_cons (pe_ix ix_str (pv 7) (pe_op op_sub (pe_callB call_len (by rfl) N.len PySem.boot_len (pa_cons (pv 7) pa_nil)) pe_int) (fun _ _ => rfl)) pa_nil)) pe_int) pe_int) (fun _ _ => rfl))))) pss_nil)))
        (pss_one (ps_expr (pe_bm PySem.F.plainAttrs_list PySem.F.slot_list_append PySem.F.type_list_append mt_append (pv 3) (pa_cons (pv 7) pa_nil))))))))
      (pss_one (ps_ret (pv 3)))), ?_⟩
    have s1000 : ∀ n, n ≤ 1000000 → n ≤ sizeLine := fun n h => smallE h
    have short : ∀ z : Str, isName z = true → z.length ≤ 5 := fun z h => by
      rw [ls_len]
      exact (name_iff.mp h).2.1
    refine ⟨Nat.zero_le _, fun o no => ?_⟩
    have s0 := same_new (o := .lst []) no
    have hox : o ≠ x := hx.ne no
    refine ⟨_, _, rfl, .int (n : Nat), rfl, (n : Nat), rfl, by omega, by omega, ?_⟩
    refine for_range (lo := 0) (n := n) (fun i σ H' => ∃ d4 d5 d6 d7 d8 ns, σ = [some (.ref x), some (.int (n : Nat)), some (.str abc), some (.ref o), d4, d5, d6, d7, d8] ∧ But x H H' ∧ Box H' x ∧ H' o = some (.lst ((ns : List Str).map V.str)) ∧ ns.length = i ∧ ns.Nodup ∧ ∀ z ∈ ns, isName z = true)
      ⟨none, none, none, none, none, [], rfl, But.of s0, hx.upd hox, upd_same, rfl, List.nodup_nil, fun z hz => by cases hz⟩ ?_ ?_
    · rintro i σ H' hi ⟨d4, d5, d6, d7, d8, ns, rfl, k, b, eo, hl, nd, nam⟩
      refine ⟨.ref x, rfl, x, 4, rfl, b, by decide, by decide, fun kind H1 hk4 k1 b1 => ?_⟩
      have kk1 := k.trans k1
      have eo1 := k1 _ _ hox eo
      refine ⟨.ref o, rfl, Nat.zero_le _, fun l nl => ?_⟩
      have sl := same_new (o := .lst []) nl
      refine ⟨.list (ns.map .str), .list (([] : List Str).map .str), .lst (sqL_new (sl _ _ eo1)) (dpRs ns), .lst (sqL_new upd_same) .nil, shStrs nam, shStrs (fun z hz => by cases hz), ?_⟩
      rw [PyData.eqv, eqvAll_map eq_str]
      refine ⟨_, rfl, ?_⟩
      replace kk1 := kk1.trans (But.of sl)
      replace eo1 := sl _ _ eo1
      replace b1 := b1.mono sl
      generalize upd H1 l (.lst []) = H1' at kk1 eo1 b1 ⊢
      generalize hX : tSeq (tFor (iRng1 (tCons (tVar 1) tNil)) (gName 8) _) _ _ = X
      have fin : ∀ (z : Str) (v4 v5 d6 d8 : Option V) H2, isName z = true → But x H1' H2 → Box H2 x → X [some (.ref x), some (.int (n : Nat)), some (.str abc), some (.ref o), v4, v5, d6, some (.str z), d8] H2 := fun z v4 v5 d6 d8 H2 hz k2 b2 => by
        rw [← hX]
        have eo2 := k2 _ _ hox eo1
        refine ⟨.int (n : Nat), rfl, (n : Nat), rfl, by omega, by omega, ?_⟩
        refine for_range (lo := 0) (n := n) (fun s σ H3 => H3 = H2 ∧ ∃ z d8, σ = [some (.ref x), some (.int (n : Nat)), some (.str abc), some (.ref o), v4, v5, d6, some (.str z), d8] ∧ isName z = true ∧ (z ∉ ns ∨ ∃ init c0, z = nm init c0 s ∧ init.length ≤ 4 ∧ (∀ c ∈ init, lowC c = true) ∧ ∀ k, k < s → nm init c0 k ∈ ns))
          ⟨rfl, z, d8, rfl, hz, .inr (by
            obtain ⟨init, c0, h1, h2, h3⟩ := nm_of hz
            exact ⟨init, c0, h1, h2, h3, fun k hk => absurd hk (Nat.not_lt_zero k)⟩)⟩ ?_ ?_
        · rintro s σ H3 hs ⟨rfl, z, d8, rfl, hz, way⟩
          refine ⟨.str z, rfl, .ref o, rfl, o, _, rfl, .inl (sqL_new eo2), rfl, flat_strs ns, ?_⟩
          rw [inV_str]
          refine ⟨_, rfl, ?_⟩
          by_cases hin : z ∈ ns
          · rw [decide_eq_true hin]
            obtain ⟨init, c0, rfl, h4, hlow, before⟩ : ∃ init c0, z = nm init c0 s ∧ init.length ≤ 4 ∧ (∀ c ∈ init, lowC c = true) ∧ ∀ k, k < s → nm init c0 k ∈ ns := by
              rcases way with h | h
              · exact absurd hin h
              · exact h
            have hlen : ((nm init c0 s).length : Int) - 1 = ((init.length : Nat) : Int) := by
              rw [ls_len, nm_ls, List.length_append, List.length_singleton]
              omega
            have hsz : (nm init c0 s).length ≤ sizeLine := s1000 _ (Nat.le_trans (short _ hz) (by decide))
            have hat : atI (nm init c0 s).cps.toList ((init.length : Nat) : Int) = some (97 + (c0 + s) % 26) := by
              refine atI_nat ?_
              show (ls (nm init c0 s))[init.length]? = _
              rw [nm_ls, List.getElem?_append_right (Nat.le_refl _), Nat.sub_self]
              rfl
            have hr26 : (c0 + s) % 26 < 26 := Nat.mod_lt _ (by decide)
            refine iteT ?_
            refine ⟨.str (nm init c0 s), rfl, .str (nm init c0 s), rfl, .str (nm init c0 s), _, rfl, ⟨hsz, rfl⟩, _, 1, rfl, rfl, ((init.length : Nat) : Int), congrArg V.int hlen, _, rfl, hsz, ?_⟩
            refine ⟨.str abc, rfl, .str abc, rfl, rfl, .str (nm init c0 s), rfl, .str (nm init c0 s), rfl, .str (nm init c0 s), _, rfl, ⟨hsz, rfl⟩, _, 1, rfl, rfl, _, ((init.length : Nat) : Int), _, rfl, congrArg V.int hlen, hsz, hat, ?_⟩
            have hidx := abc_index ⟨(c0 + s) % 26, hr26⟩
            refine ⟨abc, _, rfl, rfl, fun k hk => ?_, fun hno => ?_⟩
            · have ek : k = (c0 + s) % 26 := Option.some.inj (hk.symm.trans hidx)
              subst ek
              have hnext : (ls abc)[((c0 + s) % 26 + 1) % 26]? = some (97 + ((c0 + s) % 26 + 1) % 26) := abc_at ⟨((c0 + s) % 26 + 1) % 26, Nat.mod_lt _ (by decide)⟩
              have emod : ((((c0 + s) % 26 : Nat) : Int) + 1) % 26 = ((((c0 + s) % 26 + 1) % 26 : Nat) : Int) := by omega
              refine ⟨_, 1, rfl, rfl, _, 26, rfl, rfl, (by show (0 : Int) < 26; decide), _, (((((c0 + s) % 26 + 1) % 26 : Nat)) : Int), _, rfl, congrArg V.int emod, (by decide +kernel), atI_nat hnext, ?_⟩
              have ename : cutS (nm init c0 s) none (some ((init.length : Nat) : Int)) ++ (⟨#[97 + ((c0 + s) % 26 + 1) % 26]⟩ : Str) = nm init c0 (s + 1) := by
                refine ls_inj ?_
                rw [ls_add, ls_cutTo, nm_ls, nm_ls, List.take_left]
                show init ++ [97 + ((c0 + s) % 26 + 1) % 26] = _
                have : ((c0 + s) % 26 + 1) % 26 = (c0 + (s + 1)) % 26 := by omega
                rw [this]
              refine ⟨_, _, rfl, rfl, ?_, ?_⟩
              · rw [ls_len, ls_len, ls_cutTo, nm_ls, List.take_left]
                refine s1000 _ ?_
                show init.length + 1 ≤ 1000000
                omega
              · rw [ename]
                refine ⟨rfl, _, _, rfl, nm_name h4 hlow, .inr ⟨init, c0, rfl, h4, hlow, fun k hk => ?_⟩⟩
                by_cases e : k = s
                · rw [e]
                  exact hin
                · exact before k (by omega)
            · have := hno.symm.trans hidx
              cases this
          · rw [decide_eq_false hin]
            exact iteF ⟨rfl, z, _, rfl, hz, .inl hin⟩
        · rintro σ H3 ⟨rfl, z, d8, rfl, hz, way⟩
          have hout : z ∉ ns := by
            rcases way with h | ⟨init, c0, _, _, _, before⟩
            · exact h
            · have := nm_few (init := init) (c0 := c0) (n := n) (by omega) before
              omega
          refine ⟨.ref o, rfl, .inl ⟨rfl, _, sqL_new eo2⟩, .str z, rfl, o, _, _, rfl, rfl, eo2, ?_, ?_⟩
          · rw [List.length_map]
            exact small (by omega)
          · refine ⟨_, _, _, _, _, ns ++ [z], rfl, ?_, b2.upd hox, ?_, by rw [List.length_append, hl]; rfl, ?_, fun y hy => ?_⟩
            · intro c u hc e
              have hco : c ≠ o := ne_of_none e no
              rw [upd_ne hco]
              exact k2 _ _ hc (kk1 _ _ hc e)
            · rw [upd_same, List.map_append]
              rfl
            · rw [List.nodup_append]
              exact ⟨nd, by simp, fun a ha b hb e => by
                rw [List.mem_singleton.mp hb] at e
                exact hout (e ▸ ha)⟩
            · rcases List.mem_append.mp hy with h | h
              · exact nam y h
              · rw [List.mem_singleton.mp h]
                exact hz
      generalize hY : tAsg (tM1 _ _ _) (gName 7) _ = Y
      have fy : Y [some (.ref x), some (.int (n : Nat)), some (.str abc), some (.ref o), some (.int (0 + (i : Int))), some (.int (kind : Nat)), d6, d7, d8] H1' := by
        rw [← hY]
        refine ⟨⟨_, rfl⟩, .ref x, rfl, x, 5, rfl, b1, by decide, by decide, fun r H2 hr5 k2 b2 => ?_⟩
        refine ⟨1, _, rfl, rfl, _, rfl, by omega, by omega, fun D nD => ?_⟩
        have en : ((1 : Int) + ((r : Nat) : Int)).toNat = r + 1 := by omega
        have hDx := b2.ne nD
        rw [en]
        refine lc_it (walk_r0 (n := r + 1)) (fun j H3 => But x H2 H3 ∧ Box H3 x ∧ ∃ zs : List Str, zs.length = j ∧ (∀ z ∈ zs, ∃ c, ls z = [c] ∧ lowC c = true) ∧ H3 D = some (.lst (zs.map V.str)))
          ⟨But.of (same_new nD), b2.upd hDx, [], rfl, (fun z hz => by cases hz), upd_same⟩ (fun _ _ _ _ => True.intro) (fun j y H3 H4 hj h3 yy => ?_) (fun H3 h3 => ?_)
        · obtain ⟨rfl, rfl⟩ := yy
          obtain ⟨k3, b3, zs, hzl, hzz, eD⟩ := h3
          refine ⟨rfl, .ref x, rfl, x, rfl, b3, fun c H5 hc k5 b5 => ?_⟩
          refine ⟨_, k5 _ _ hDx eD, by rw [List.length_map]; exact small (by omega), ?_, b5.upd hDx, zs ++ [⟨#[c]⟩], by rw [List.length_append, hzl]; rfl, fun z hz => ?_, by rw [upd_same, List.map_append]; rfl⟩
          · intro c' u hc' e
            rw [upd_ne (ne_of_none e nD)]
            exact k5 _ _ hc' (k3 _ _ hc' e)
          · rcases List.mem_append.mp hz with h | h
            · exact hzz z h
            · rw [List.mem_singleton.mp h]
              exact ⟨c, rfl, hc⟩
        · obtain ⟨k3, b3, zs, hzl, hzz, eD⟩ := h3
          obtain ⟨j1, j2, j3⟩ := letters_join hzz
          refine ⟨_, D, zs, rfl, rfl, .inl (sqL_new eD), ?_, ?_⟩
          · rw [j3]
            have : (Str.ofString "").length = 0 := by decide +kernel
            rw [this]
            omega
          · refine fin _ _ _ _ _ H3 ?_ (k2.trans k3) b3
            rw [name_iff, ls_join, j1, hzl]
            exact ⟨by omega, by omega, j2⟩
      by_cases hns : ns = []
      · rw [decide_eq_true hns]
        exact iteT (iteT fy)
      · rw [decide_eq_false hns]
        refine iteF ⟨.int (kind : Nat), rfl, _, 2, rfl, rfl, _, rfl, ite2 (fun c => fy) (fun c => ?_)⟩
        have hpos : 0 < (ns.map V.str).length := by
          rw [List.length_map]
          cases h : ns with
          | nil => exact absurd h hns
          | cons _ _ => exact Nat.succ_pos _
        refine ⟨.ref x, rfl, .ref o, rfl, x, o, _, rfl, b1, hox, eo1, hpos, by rw [List.length_map]; omega, fun i2 v H2 hv k2 b2 => ?_⟩
        obtain ⟨z, hz, rfl⟩ := get_map hv
        have hzn := nam z (List.mem_of_getElem? hz)
        obtain ⟨z1, z2, z3⟩ := name_iff.mp hzn
        have zsz : z.length ≤ sizeLine := s1000 _ (Nat.le_trans (short z hzn) (by decide))
        refine ⟨.ref x, rfl, .str z, rfl, .str z, _, rfl, ⟨zsz, rfl⟩, x, z.length, rfl, b2, by rw [ls_len]; omega, by rw [ls_len]; omega, fun pl H3 hpl k3 b3 => ?_⟩
        rw [ls_len] at hpl
        have kk3 := k2.trans k3
        have epl : ((pl : Nat) : Int) + 1 = ((pl + 1 : Nat) : Int) := by omega
        refine ⟨.int (kind : Nat), rfl, rfl, _, rfl, ite2 (fun c2 => ?_) (fun c2 => ?_)⟩
        · refine ⟨.str z, rfl, .int (pl : Nat), rfl, _, 1, rfl, rfl, ((pl + 1 : Nat) : Int), congrArg V.int epl, z, rfl, zsz, ?_⟩
          refine fin _ _ _ _ _ H3 ?_ kk3 b3
          rw [name_iff, ls_cutTo, List.length_take]
          exact ⟨by omega, by omega, fun c hc => z3 c (List.mem_of_mem_take hc)⟩
        · refine ⟨.str z, rfl, .int (pl : Nat), rfl, _, rfl, z, rfl, zsz, ?_⟩
          refine ⟨.ref x, rfl, x, rfl, b3, fun c H4 hc k4 b4 => ?_⟩
          have e1 : (ls (cutS z none (some ((pl : Nat) : Int)))).length = pl := by rw [ls_cutTo, List.length_take]; omega
          have e2 : (ls (cutS z (some ((pl + 1 : Nat) : Int)) none)).length = (ls z).length - (pl + 1) := by rw [ls_cutFrom, List.length_drop]
          have e3 : (⟨#[c]⟩ : Str).length = 1 := rfl
          refine ⟨_, _, rfl, rfl, ?_, .str z, rfl, .int (pl : Nat), rfl, _, 1, rfl, rfl, ((pl + 1 : Nat) : Int), congrArg V.int epl, z, rfl, zsz, _, _, rfl, rfl, ?_, ?_⟩
          · rw [ls_len, e1, e3]
            exact s1000 _ (by omega)
          · rw [ls_len, ls_len, ls_add, List.length_append, e1, e2]
            refine s1000 _ ?_
            show pl + 1 + _ ≤ 1000000
            omega
          · refine fin _ _ _ _ _ H4 ?_ (kk3.trans k4) b4
            rw [name_iff, ls_add, ls_add, List.length_append, List.length_append, e1, e2]
            refine ⟨?_, ?_, fun d hd => ?_⟩
            · show 1 ≤ pl + 1 + _
              omega
            · show pl + 1 + _ ≤ 5
              omega
            · rcases List.mem_append.mp hd with h | h
              · rcases List.mem_append.mp h with h | h
                · rw [ls_cutTo] at h
                  exact z3 d (List.mem_of_mem_take h)
                · have hd2 : d ∈ [c] := h
                  rw [List.mem_singleton.mp hd2]
                  exact hc
              · rw [ls_cutFrom] at h
                exact z3 d (List.mem_of_mem_drop h)
    · rintro σ H' ⟨d4, d5, d6, d7, d8, ns, rfl, k, b, eo, hl, nd, nam⟩
      exact ⟨.ref o, rfl, q o ns H' hl nd nam k b no eo⟩
end
end Kb
/-! {k: v}, k a tuple of numbers and texts: one entry. -/
namespace Ka
open PySem PySem.Spec PyProof.Rows L2
/-- a display of one entry whose key is a tuple -/
def tDisp1T (tk tv : TE) : TE := fun σ H Q => ∀ p, H p = none → tk σ (upd H p (.dT [])) fun y H1 => tv σ H1 fun z H2 => ∃ (b : Addr) (k : List L2.Key), y = .ref b ∧ H2 b = some (.tup (k.map kV)) ∧ H2 p = some (.dT []) ∧ Q (.ref p) (upd H2 p (.dT [(k, z)]))
theorem pe_disp1T {X : Cx} {kx vx : Expr} {pos : Pos} {tk tv : TE} (hu : X.A.units + 1 < cLine) (hk : PE X kx tk) (hv : PE X vx tv) : PE X (.Dict [some kx] [vx] pos) (tDisp1T tk tv) := by
  refine ⟨fun pins s σ H Q I q => ?_⟩
  have hn := I.hok.fresh (Nat.le_refl s.heap.objs.size)
  have I1 := I.laid (a := s.heap.objs.size) (o := .dT []) (h' := s.heap.push { cls := .type "dict", data := .dict #[] }) (t' := s.toks) (fun _ _ q => Heap.get?_push_of_some _ q) (Nat.le_refl _) (dt_empty s.heap I.big)
  refine wpAny_Dict_any rfl rfl (fun z => by cases z) (show 1 ≤ 15 by decide) ?_
  refine pairTrees_cons_walk (thn (hk.run pins _ σ _ _ I1 (q _ hn)) fun u s1 ⟨y, H1, I1', ry, q1⟩ => thn (hv.run pins s1 σ H1 _ I1' q1) fun w2 s2 ⟨z, H2, I2, rz, b, k, ey, eb, ep, q2⟩ => pairTrees_nil_walk ?_)
  subst ey
  have e0 : ∀ (d : Addr) (vs : List (Value × Value)), storeAll d vs = forIn vs PUnit.unit fun (x : Value × Value) (_ : PUnit) => (do dictSet d x.1 x.2; pure (ForInStep.yield PUnit.unit) : Sem (ForInStep PUnit)) := fun _ _ => rfl
  rw [e0, List.forIn_cons]
  refine wpAny_bind (wpAny_bind (dT_set hu I2 ep (by rw [List.length_nil, sizeLine_eq]; decide) eb (show RelV (.ref b) u from ry) rz fun s' I' => wpAny_pure ?_))
  exact wpAny_pure ⟨.ref _, _, I', rfl, q2⟩
end Ka
namespace Kb
open PySem PySem.Spec PyProof.Rows L2
/-! ### all rows within one -/
def addR (F : List (List Str)) (r : List Str) : List (List Str) := if r ∈ F then F else F ++ [r]
theorem mem_addR {F : List (List Str)} {r x : List Str} : x ∈ addR F r ↔ x ∈ F ∨ x = r := by
  unfold addR
  by_cases h : r ∈ F
  · rw [if_pos h]
    exact ⟨.inl, fun e => e.elim id fun e => e ▸ h⟩
  · rw [if_neg h, List.mem_append, List.mem_singleton]
theorem nd_addR {F : List (List Str)} {r : List Str} (h : F.Nodup) : (addR F r).Nodup := by
  unfold addR
  by_cases e : r ∈ F
  · rw [if_pos e]
    exact h
  · rw [if_neg e, List.nodup_append]
    refine ⟨h, List.nodup_cons.mpr ⟨by simp, List.nodup_nil⟩, fun a ha b hb => ?_⟩
    rw [List.mem_singleton.mp hb]
    exact fun z => e (z ▸ ha)
theorem len_addR (F : List (List Str)) (r : List Str) : (addR F r).length ≤ F.length + 1 := by
  unfold addR
  split
  · omega
  · rw [List.length_append]
    exact Nat.le_refl _
theorem kvs_add (F : List (List Str)) (r : List Str) : putK (kvsN F) (r.map Sum.inr) (.bl true) = kvsN (addR F r) := by
  unfold putK
  have e : ((kvsN F).any fun kv => decide (kv.1 = r.map Sum.inr)) = decide (r ∈ F) := by
    unfold kvsN
    rw [List.any_map]
    by_cases h : r ∈ F
    · rw [decide_eq_true h, List.any_eq_true]
      exact ⟨r, h, decide_eq_true rfl⟩
    · rw [decide_eq_false h, List.any_eq_false]
      intro x hx hc
      have hc := of_decide_eq_true hc
      exact h (inr_inj.mp hc ▸ hx)
  rw [e]
  unfold addR
  by_cases h : r ∈ F
  · rw [decide_eq_true h, if_pos rfl, if_pos h]
    unfold kvsN
    rw [List.map_map]
    apply List.map_congr_left
    intro x hx
    show (if x.map Sum.inr = r.map Sum.inr then ((x.map Sum.inr : List L2.Key), V.bl true) else (x.map Sum.inr, V.bl true)) = _
    split <;> rfl
  · rw [decide_eq_false h, if_neg Bool.false_ne_true, if_neg h]
    unfold kvsN
    rw [List.map_append]
    rfl
/-- the rows of l, each with the deed behind it, put into F -/
def growL (F : List (List Str)) (d : Str) (l : List (List Str)) : List (List Str) := l.foldl (fun G s => addR G (s ++ [d])) F
theorem growL_snoc (F : List (List Str)) (d : Str) (l : List (List Str)) (s : List Str) : growL F d (l ++ [s]) = addR (growL F d l) (s ++ [d]) := by
  unfold growL
  rw [List.foldl_append]
  rfl
theorem mem_growL {F : List (List Str)} {d : Str} {x : List Str} (l : List (List Str)) : x ∈ growL F d l ↔ x ∈ F ∨ ∃ s ∈ l, x = s ++ [d] := by
  refine Ka.snoc_ind (P := fun l => x ∈ growL F d l ↔ x ∈ F ∨ ∃ s ∈ l, x = s ++ [d]) ⟨.inl, fun h => h.elim id fun ⟨_, h, _⟩ => by cases h⟩ (fun l s ih => ?_) l
  rw [growL_snoc, mem_addR, ih]
  constructor
  · rintro ((h | ⟨t, h1, h2⟩) | h)
    · exact .inl h
    · exact .inr ⟨t, List.mem_append_left _ h1, h2⟩
    · exact .inr ⟨s, List.mem_append_right _ List.mem_cons_self, h⟩
  · rintro (h | ⟨t, h1, h2⟩)
    · exact .inl (.inl h)
    · rcases List.mem_append.mp h1 with h1 | h1
      · exact .inl (.inr ⟨t, h1, h2⟩)
      · rw [List.mem_singleton.mp h1] at h2
        exact .inr h2
theorem nd_growL {F : List (List Str)} {d : Str} (h : F.Nodup) (l : List (List Str)) : (growL F d l).Nodup :=
  Ka.snoc_ind (P := fun l => (growL F d l).Nodup) h (fun l s ih => by
    rw [growL_snoc]
    exact nd_addR ih) l
theorem len_growL (F : List (List Str)) (d : Str) (l : List (List Str)) : (growL F d l).length ≤ F.length + l.length :=
  Ka.snoc_ind (P := fun l => (growL F d l).length ≤ F.length + l.length) (Nat.le_refl _) (fun l s ih => by
    rw [growL_snoc, List.length_append, List.length_singleton]
    have := len_addR (growL F d l) (s ++ [d])
    omega) l
/-- all rows within a row, as they are found -/
def subsR (us : List Str) : List (List Str) := us.foldl (fun F d => growL F d F) [[]]
theorem subsR_snoc (us : List Str) (d : Str) : subsR (us ++ [d]) = growL (subsR us) d (subsR us) := by
  unfold subsR
  rw [List.foldl_append]
  rfl
theorem sub_snoc {us : List Str} {d : Str} {x : List Str} : x.Sublist (us ++ [d]) ↔ x.Sublist us ∨ ∃ s : List Str, s.Sublist us ∧ x = s ++ [d] := by
  rw [List.sublist_append_iff]
  constructor
  · rintro ⟨a, b, rfl, h1, h2⟩
    cases b with
    | nil =>
      rw [List.append_nil]
      exact .inl h1
    | cons y b =>
      rcases Kc.cons_cases h2 with h | ⟨rfl, h⟩
      · cases h
      · cases h
        exact .inr ⟨a, h1, rfl⟩
  · rintro (h | ⟨s, h, rfl⟩)
    · exact ⟨x, [], (List.append_nil x).symm, h, List.nil_sublist _⟩
    · exact ⟨s, [d], rfl, h, List.Sublist.refl _⟩
theorem mem_subsR {x : List Str} (us : List Str) : x ∈ subsR us ↔ x.Sublist us := by
  refine Ka.snoc_ind (P := fun us => ∀ x, x ∈ subsR us ↔ x.Sublist us) (fun x => ?_) (fun us d ih x => ?_) us x
  · show x ∈ [[]] ↔ _
    rw [List.mem_singleton, List.sublist_nil]
  · rw [subsR_snoc, mem_growL, sub_snoc, ih]
    constructor
    · rintro (h | ⟨s, h1, h2⟩)
      · exact .inl h
      · exact .inr ⟨s, (ih s).mp h1, h2⟩
    · rintro (h | ⟨s, h1, h2⟩)
      · exact .inl h
      · exact .inr ⟨s, (ih s).mpr h1, h2⟩
theorem nd_subsR (us : List Str) : (subsR us).Nodup :=
  Ka.snoc_ind (P := fun us => (subsR us).Nodup) (by
    show ([[]] : List (List Str)).Nodup
    exact List.nodup_cons.mpr ⟨by simp, List.nodup_nil⟩) (fun us d ih => by
    rw [subsR_snoc]
    exact nd_growL ih _) us
theorem len_subsR (us : List Str) : (subsR us).length ≤ 2 ^ us.length :=
  Ka.snoc_ind (P := fun us => (subsR us).length ≤ 2 ^ us.length) (Nat.le_refl _) (fun us d ih => by
    rw [subsR_snoc, List.length_append, List.length_singleton, Nat.pow_succ]
    have := len_growL (subsR us) d (subsR us)
    omega) us
/-! ### the place behind a row, as it is found from the left -/
def nxtF : List Str → Nat → Str → Option Nat
  | [], _, _ => none
  | x :: r, n, d => if x = d then some (n + 1) else nxtF r (n + 1) d
def nxt (vs : List Str) (n : Nat) (d : Str) : Option Nat := nxtF (vs.drop n) n d
theorem nxt_step {vs : List Str} {n : Nat} {x : Str} (h : vs[n]? = some x) (d : Str) : nxt vs n d = if x = d then some (n + 1) else nxt vs (n + 1) d := by
  unfold nxt
  rw [drop_of_get h]
  rfl
theorem nxt_end {vs : List Str} {n : Nat} (h : vs.length ≤ n) (d : Str) : nxt vs n d = none := by
  unfold nxt
  rw [List.drop_eq_nil_of_le h]
  rfl
theorem nxtF_spec (d : Str) (x : List Str) : ∀ (r : List Str) (n : Nat), (nxtF r n d = none ∧ ¬ (d :: x).Sublist r) ∨ ∃ m, nxtF r n d = some m ∧ n < m ∧ m ≤ n + r.length ∧ ((d :: x).Sublist r ↔ x.Sublist (r.drop (m - n)))
  | [], n => .inl ⟨rfl, fun h => by cases h⟩
  | y :: r, n => by
    by_cases e : y = d
    · refine .inr ⟨n + 1, if_pos e, Nat.lt_succ_self _, by rw [List.length_cons]; omega, ?_⟩
      rw [Nat.add_sub_cancel_left, e, List.cons_sublist_cons]
      rfl
    · have eN : nxtF (y :: r) n d = nxtF r (n + 1) d := if_neg e
      have eS : (d :: x).Sublist (y :: r) ↔ (d :: x).Sublist r := ⟨fun h => (Kc.cons_cases h).elim id fun z => absurd z.1.symm e, fun h => List.Sublist.cons _ h⟩
      rw [eN, eS]
      rcases nxtF_spec d x r (n + 1) with h | ⟨m, h1, h2, h3, h4⟩
      · exact .inl h
      · refine .inr ⟨m, h1, by omega, by rw [List.length_cons]; omega, ?_⟩
        rw [h4, show m - n = (m - (n + 1)) + 1 by omega]
        rfl
theorem nxt_spec (vs : List Str) (n : Nat) (hn : n ≤ vs.length) (d : Str) (x : List Str) : (nxt vs n d = none ∧ ¬ (d :: x).Sublist (vs.drop n)) ∨ ∃ m, nxt vs n d = some m ∧ n < m ∧ m ≤ vs.length ∧ ((d :: x).Sublist (vs.drop n) ↔ x.Sublist (vs.drop m)) := by
  unfold nxt
  rcases nxtF_spec d x (vs.drop n) n with h | ⟨m, h1, h2, h3, h4⟩
  · exact .inl h
  · refine .inr ⟨m, h1, h2, by rw [List.length_drop] at h3; omega, ?_⟩
    rw [h4, List.drop_drop, show n + (m - n) = m by omega]
def runF (vs : List Str) (n : Nat) (x : List Str) : Option Nat := x.foldl (fun o d => o.bind fun k => nxt vs k d) (some n)
def run (vs x : List Str) : Option Nat := runF vs 0 x
theorem foldl_none (vs : List Str) : ∀ x : List Str, x.foldl (fun o d => o.bind fun k => nxt vs k d) none = none
  | [] => rfl
  | _ :: x => foldl_none vs x
theorem run_snoc (vs x : List Str) (d : Str) : run vs (x ++ [d]) = (run vs x).bind fun k => nxt vs k d := by
  unfold run runF
  rw [List.foldl_append]
  rfl
theorem runF_spec (vs : List Str) : ∀ (x : List Str) (n : Nat), n ≤ vs.length → ((runF vs n x).isSome = true ↔ x.Sublist (vs.drop n)) ∧ ∀ m, runF vs n x = some m → m ≤ vs.length
  | [], n, hn => ⟨⟨fun _ => List.nil_sublist _, fun _ => rfl⟩, fun m h => by
    cases h
    exact hn⟩
  | d :: x, n, hn => by
    have e : runF vs n (d :: x) = x.foldl (fun o d => o.bind fun k => nxt vs k d) (nxt vs n d) := rfl
    rcases nxt_spec vs n hn d x with ⟨h1, h2⟩ | ⟨m, h1, h2, h3, h4⟩
    · rw [e, h1, foldl_none]
      refine ⟨⟨fun h => ?_, fun h => absurd h h2⟩, fun m h => ?_⟩
      · cases h
      · cases h
    · rw [e, h1, h4]
      exact runF_spec vs x m h3
theorem run_spec (vs x : List Str) : (run vs x).isSome = true ↔ x.Sublist vs := (runF_spec vs x 0 (Nat.zero_le _)).1
theorem run_le {vs x : List Str} {m : Nat} (h : run vs x = some m) : m ≤ vs.length := (runF_spec vs x 0 (Nat.zero_le _)).2 m h
end Kb
/-! list(reversed(x)), x a list: a new list. -/
namespace Ka
open PySem PySem.Spec PyProof.Rows L2
section
variable {prog : Program} {w : World} {A : Around} {E : Value → Shared → Prop} {s : Shared} {R : Result → Shared → Prop}
theorem extend_rev {S it l : Addr} {items : Array Value} {res : Value} {c₀ : Nat} (hh : A.in1.handled = none) (hit : s.heap.IsRevIter it l ((items.size : Int) - 1)) (hl : s.heap.IsList l items) (hne : l ≠ it) (hn : items.size ≤ sizeLine) (hSi : S ≠ it) (hSl : S ≠ l)
    (hS : s.heap.get? S = some { cls := .type "list", data := .seq #[] c₀ })
    (hR : ∀ (h' : Heap) (tk : Nat) (acc : Array Value) (c' : Nat), (∀ b o, b ≠ it → b ≠ S → s.heap.get? b = some o → h'.get? b = some o) → h'.get? S = some { cls := .type "list", dict := none, data := .seq acc c', slots := #[] } →
      ItemsOf (fun i v => items[items.size - 1 - i]? = some v) acc items.size → R (.ok (.ret res)) { s with heap := h', toks := tk }) :
    wpAny (model prog w) A.in1 (Builtin.List.listExtendWith (.ref S) (.ref it) res)
      (fun fin s' => match fin with | .done f => R (.ok f) s' | .again c' => c'.quiet = true ∧ codeAny (model prog w) A c' R s') (fun e s' => R (.error e) s') s := by
  have W := (Walks.listRev (prog := prog) (w := w) (A := A.in1) hh it l hne items).toS
  have hSf : S ∉ [it, l] := fun hm => by
    rcases List.mem_cons.mp hm with e | e
    · exact hSi e
    · exact hSl (List.mem_singleton.mp e)
  have ty : s.TypeIs (.ref it) "list_reverseiterator" := hit.typeIs
  have ns : Builtin.List.listSameRef (.ref S) (.ref it) = false := by simp [Builtin.List.listSameRef, hSi]
  unfold Builtin.List.listExtendWith
  apply wpAny_bind
  apply wpAny_typeOf ty
  rw [if_neg (by rw [ns]; decide)]
  apply wpAny_bind
  apply wpAny_pyIter_revIter hit
  apply wpAny_bind
  apply wpAny_holding
  unfold Builtin.List.listLengthHint
  apply wpAny_bind
  apply wpAny_specialOf ty RT.nolen_lri
  show wpAny _ A.in1 (specialOf (Value.ref it) (Str.ofString "__length_hint__") >>= _) _ _ _
  apply wpAny_bind
  apply wpAny_specialOf ty RT.hint_lri
  generalize hid : ("list_reverseiterator.__length_hint__" : String) = id0
  wp_delta
  rw [show splitId id0 = some ("list_reverseiterator", "__length_hint__") from by subst hid; decide +kernel]
  subst hid
  apply wpAny_bind
  apply wpAny_isInstance (b := true) ty (by rw [isSubtype_type]; kernel_rfl)
  apply wpAny_pure
  rw [if_neg (by decide)]
  have e0 : ((items.size : Nat) : Int) - 1 - ((0 : Nat) : Int) = (items.size : Int) - 1 := by omega
  apply wpAny_pure
  refine ⟨plainId_quiet F.plain_extend_loop _, codeAny_extend_loopS W hn _ hSf _ items.size 0 _ _ _ rfl (Nat.zero_le _) ⟨Nat.zero_le _, by rw [e0]; exact hit, hl⟩ hS (ItemsOf.nil _) fun s' acc' c' hm hS' hacc => ?_⟩
  rw [Moved.eq_with hm]
  refine hR s'.heap s'.toks acc' c' (fun b o hb1 hb2 e => hm.heap b o (fun hmem => ?_) e) hS' hacc
  rcases List.mem_cons.mp hmem with e' | hmem
  · exact hb2 e'
  · exact hb1 (List.mem_singleton.mp hmem)
theorem init_rev {S it l : Addr} {items : Array Value} (hh : A.in1.handled = none) (hit : s.heap.IsRevIter it l ((items.size : Int) - 1)) (hl : s.heap.IsList l items) (hne : l ≠ it) (hn : items.size ≤ sizeLine) (hSi : S ≠ it) (hSl : S ≠ l)
    (hS : s.heap.get? S = some { cls := .type "list", data := .seq #[] })
    (hR : ∀ (h' : Heap) (tk : Nat) (acc : Array Value) (c' : Nat), (∀ b o, b ≠ it → b ≠ S → s.heap.get? b = some o → h'.get? b = some o) → h'.get? S = some { cls := .type "list", dict := none, data := .seq acc c', slots := #[] } →
      ItemsOf (fun i v => items[items.size - 1 - i]? = some v) acc items.size → R (.ok (.ret .none)) { s with heap := h', toks := tk }) :
    wpAny (model prog w) A.in1 (Builtin.«list.__init__» ⟨[.ref S, .ref it], []⟩)
      (fun fin s' => match fin with | .done f => R (.ok f) s' | .again c' => c'.quiet = true ∧ codeAny (model prog w) A c' R s') (fun e s' => R (.error e) s') s := by
  show wpAny _ A.in1 (Builtin.List.listItems (.ref S) >>= fun old => Builtin.List.listUpdate (.ref S) (fun _ => #[]) >>= fun _ => letGo old.toList.reverse >>= fun _ => Builtin.List.listExtendWith (.ref S) (.ref it) .none) _ _ s
  apply wpAny_bind
  unfold Builtin.List.listItems
  apply wpAny_bind
  apply wpAny_seqItems hS rfl
  apply wpAny_pure
  show wpAny _ A.in1 (updateSeq S (fun _ => #[]) >>= fun _ => letGo (#[] : Array Value).toList.reverse >>= fun _ => _) _ _ s
  apply wpAny_bind
  apply wpAny_updateSeq hS rfl
  have hS2 := Heap.get?_update_self (Obj.mapSeq (fun _ => (#[] : Array Value))) hS rfl
  have up : ∀ b o, b ≠ S → s.heap.get? b = some o → (s.heap.update S (Obj.mapSeq (fun _ => (#[] : Array Value)))).get? b = some o := fun b o hb e => by
    rw [Heap.get?_update_other _ _ (Ne.symm hb)]
    exact e
  apply wpAny_bind
  apply wpAny_letGo
  refine extend_rev (s := { s with heap := s.heap.update S (Obj.mapSeq (fun _ => (#[] : Array Value))) }) hh ?_ ?_ hne hn hSi hSl hS2 fun h' tk acc c' kp e r => ?_
  · exact hit.at fun o e => up _ _ (Ne.symm hSi) e
  · obtain ⟨o, ho, r⟩ := hl
    exact ⟨o, up _ _ (Ne.symm hSl) ho, r⟩
  · exact hR h' tk acc c' (fun b o hb1 hb2 e => kp b o hb1 hb2 (up b o hb2 e)) e r
theorem call_listRev {it l : Addr} {items : Array Value} {Q : Value → Shared → Prop} (hh : A.handled = none) (hit : s.heap.IsRevIter it l ((items.size : Int) - 1)) (hl : s.heap.IsList l items) (hne : l ≠ it) (hn : items.size ≤ sizeLine)
    (hQ : ∀ (h' : Heap) (tk : Nat) (acc : Array Value) (c' : Nat), (∀ b o, b ≠ it → s.heap.get? b = some o → h'.get? b = some o) → h'.get? s.heap.objs.size = some { cls := .type "list", dict := none, data := .seq acc c', slots := #[] } →
      ItemsOf (fun i v => items[items.size - 1 - i]? = some v) acc items.size → Q (.ref s.heap.objs.size) { s with heap := h', toks := tk }) : wpAny (model prog w) A (call (.type "list") [.ref it]) Q E s := by
  obtain ⟨oi, hoi, _⟩ := id hit
  obtain ⟨ol, hol, _⟩ := id hl
  have hSi : s.heap.objs.size ≠ it := Nat.ne_of_gt (Heap.lt_size hoi)
  have hSl : s.heap.objs.size ≠ l := Nat.ne_of_gt (Heap.lt_size hol)
  apply callType_codes (Q₁ := fun obj s₁ => obj = .ref s.heap.objs.size ∧ s₁ = { s with heap := s.heap.push { cls := .type "list", data := .seq #[] } }) F.called_list (F.typeCall_list_1 _) F.entry_list_init
  · exact code_list_new _ ⟨rfl, rfl⟩
  · rintro obj s₁ ⟨rfl, rfl⟩
    have hS : (s.heap.push { cls := .type "list", data := .seq #[] }).get? s.heap.objs.size = some { cls := .type "list", data := .seq #[] } := Heap.get?_push_size _ rfl
    refine ⟨⟨_, hS, rfl⟩, F.args_list_init_2 _ _, init_rev (A := A.in1) (s := { s with heap := s.heap.push { cls := .type "list", data := .seq #[] } }) hh (hit.at fun o e => Heap.get?_push_of_some _ e) (hl.push _) hne hn hSi hSl hS fun h' tk acc c' kp e r => ?_⟩
    exact ⟨rfl, hQ h' tk acc c' (fun b o hb e2 => kp b o hb (Nat.ne_of_lt (Heap.lt_size e2)) (Heap.get?_push_of_some _ e2)) e r⟩
end
/-- list(reversed(x)), x a list: a new list -/
def tListRev (K : PySem.W.Frag) (te : TE) : TE := fun σ H Q => te σ H fun v H1 => ∃ (a : Addr) (xs : List V), v = .ref a ∧ SqL K H1 a xs ∧ ∀ q, H1 q = none → Q (.ref q) (upd H1 q (.lst xs.reverse))
theorem pe_listRev {X : Cx} {e : Expr} {te : TE} {p p2 pos pos2 : Pos} (hc : X.calm = true) (hg : Gl X "list") (hm : X.mg "list" = none) (hg2 : Gl X "reversed") (hm2 : X.mg "reversed" = none) (he : PE X e te)
    (hs : starEach [e] X.env = (false, eval e X.env) :: starEach [] X.env := by rfl) (hs2 : starEach [.Call (.Name "reversed" p2) [e] [] pos2] X.env = (false, eval (.Call (.Name "reversed" p2) [e] [] pos2) X.env) :: starEach [] X.env := by rfl) :
    PE X (.Call (.Name "list" p) [.Call (.Name "reversed" p2) [e] [] pos2] [] pos) (tListRev X.K te) := by
  constructor
  intro pins s σ H Q I h
  refine Call_ (ld_blt I hg hm (u := .type "list") (by decide +kernel) (PyProof.Rows.callWith_type1 (args_cons ?_ hs2) hs2 rfl))
  refine Call_ (ld_blt I hg2 hm2 PyProof.Rows.boot_reversed (PyProof.Rows.callWith_type1 (args_cons ?_ hs) hs rfl))
  apply thn (he.run pins s σ H _ I h)
  rintro u s1 ⟨v, H1, I1, r1, a, xs, rfl, hq, q⟩
  obtain rfl : u = Value.ref a := r1
  apply args_nil
  obtain ⟨its, rv, pl, hz⟩ := I1.list hq
  apply call_reversed_list pl.isList
  apply args_nil
  have hl := pl.isList
  obtain ⟨ol, hol, _⟩ := id hl
  have hne : a ≠ s1.heap.objs.size := Nat.ne_of_lt (Heap.lt_size hol)
  have hn : its.toArray.size ≤ sizeLine := by
    rw [List.size_toArray, ← rv.length]
    exact hz
  refine call_listRev (s := { s1 with heap := s1.heap.push (revObj a ((its.toArray.size : Int) - 1)) }) (I1.ok.hd hc) ⟨_, Heap.get?_push_size _ rfl, rfl, rfl⟩ (hl.push _) hne hn fun h' tk acc c' hk e hi => ?_
  have kp : ∀ b o, s1.heap.get? b = some o → h'.get? b = some o := fun b o e2 => hk b o (Nat.ne_of_lt (Heap.lt_size e2)) (Heap.get?_push_of_some _ e2)
  have big : s1.heap.objs.size ≤ (s1.heap.push (revObj a ((its.toArray.size : Int) - 1))).objs.size := by
    rw [Heap.size_push]
    exact Nat.le_succ _
  have ob : ObjOk X.prog X.w (upd H1 (s1.heap.push (revObj a ((its.toArray.size : Int) - 1))).objs.size (.lst xs.reverse)) h' (s1.heap.push (revObj a ((its.toArray.size : Int) - 1))).objs.size (.lst xs.reverse) := by
    refine ⟨by rw [List.length_reverse]; exact hz, acc.toList, c', RT.vals_rev rv hi, ?_⟩
    rw [Array.toArray_toList]
    exact e
  exact ⟨.ref (s1.heap.push (revObj a ((its.toArray.size : Int) - 1))).objs.size, _, I1.laid (t' := tk) kp big ob, rfl, q _ (I1.hok.fresh big)⟩
end Ka
/-! sorted(t), t a tuple of texts. -/
namespace Ka
open PySem PySem.Spec PyProof.Rows L2
section
variable {prog : Program} {w : World} {A : Around} {E : Value → Shared → Prop} {s : Shared}
theorem sorted_tupS {a : Addr} {vs : List Value} {ss : List Str} {Q : Value → Shared → Prop} {o : Obj} {n : Nat} (ho : s.heap.get? a = some o) (hc : o.cls = .type "tuple") (hd : o.data = .seq vs.toArray n) (hS : StrsAre vs ss) (h64 : vs.length < 64)
    (h : ∀ (h1 h2 : Heap) (out : Array Value) (ss' : List Str) (e : Nat), (∀ b o, s.heap.get? b = some o → h1.get? b = some o) → (∀ b o, h1.get? b = some o → h2.get? b = some o) → h2.get? h1.objs.size = some (seqObj "list" out e) → StrsAre out.toList ss' → ss'.Perm ss → sortedS ss' = true →
      Q (.ref h1.objs.size) { s with heap := h2 }) : wpAny (model prog w) A (call (.builtin "sorted") [.ref a]) Q E s := by
  have hsz : vs.toArray.size ≤ sizeLine := by
    rw [List.size_toArray]
    exact small64 h64
  refine Calls.call_function_entry kind_sorted plain_sorted entry_sorted (args_sorted1 _) ?_
  unfold Builtin.«sorted»
  refine wpAny_bind (m := checkCount "sorted" 1 1 _) (wpAny_pure ?_)
  refine wpAny_bind (wpAny_collect_seq a (.inr rfl) ho hc hd (fun h1 k1 => ?_) hsz)
  refine wpAny_bind (wpAny_newList ?_ (by simpa using hsz))
  have hoL : (h1.push (seqObj "list" vs.toArray 0)).get? h1.objs.size = some (seqObj "list" vs.toArray 0) := Heap.get?_push_size _ rfl
  show wpAny _ _ _ _ _ { s with heap := h1.push (seqObj "list" vs.toArray 0) }
  refine wpAny_bind (wpAny_holding (wpAny_call_entry slot_list_sort ⟨_, hoL, rfl⟩ entry_list_sort (list_sort_treeK strKind_oneLt hoL hS.keysOf (fun v₁ v₂ rest e => keyKind_strs (by rw [← e]; exact hS)) h64 fun st' hp hs => ⟨_, rfl, ?_⟩) (args_list_sort _)))
  obtain ⟨ss', e1, e2, e3⟩ := sorted_out_str hS hp hs
  obtain ⟨e, he⟩ := sortedHeap_at (out := (arrOf st').map (·.2)) hoL
  refine wpAny_pure ⟨_, rfl, h h1 _ _ ss' e k1 (fun b o hb => ?_) he e1 e2 e3⟩
  have hlt := Heap.lt_size hb
  rw [sortedHeap_old (Nat.ne_of_lt hlt) (by rw [size_push']; exact Nat.lt_succ_of_lt hlt)]
  exact Heap.get?_push_of_some _ hb
end
def rSortedT (K : PySem.W.Frag) : List V → Hp → VK → Prop := fun vs H Q => ∃ (a : Addr) (xs : List Str), vs = [V.ref a] ∧ SqT K H a (xs.map V.str) ∧ xs.length < 64 ∧
  ∀ (ys : List Str) (p : Addr), ys.Perm xs → sortedS ys = true → H p = none → Q (.ref p) (upd H p (.lst (ys.map V.str)))
theorem cr_sortedT {X : Cx} : CallR X (.builtin "sorted") (rSortedT X.K) := by
  intro pins s σ H vs us Q I r h
  obtain ⟨a, xs, rfl, hs, h64, q⟩ := h
  obtain ⟨its, rv, ht, _⟩ := I.tuple hs
  rw [Vals.ref1 r]
  have hlen0 := rv.length
  rw [List.length_map] at hlen0
  obtain ⟨o, ho, hc, n, hd⟩ := ht
  refine sorted_tupS ho hc hd rv.strs (by rw [← hlen0]; exact h64) fun h1 h2 out ys e k1 k2 he e1 e2 e3 => ?_
  have hlen : (ys.map V.str).length ≤ sizeLine := by rw [List.length_map, e2.length_eq]; exact small64 h64
  have I1 : Inv X pins σ H { s with heap := h1, toks := s.toks } := I.kept k1
  exact ⟨.ref h1.objs.size, upd H h1.objs.size (.lst (ys.map V.str)), I1.laid (t' := s.toks) k2 (Nat.le_refl _) ⟨hlen, out.toList, e, vals_of_strs e1, he⟩, rfl, q ys _ e2 e3 (I1.hok.fresh (Nat.le_refl _))⟩
end Ka
namespace Kb
open PySem PySem.Spec PyProof.Rows L2
theorem catN {K : PySem.W.Frag} {H : Hp} {a b : Addr} {xs ys : List V} {Q : VK} (hx : SqT K H a xs) (hy : H b = some (.tup ys)) (h0 : ys ≠ []) (hl : xs.length + ys.length ≤ 100000) (q : ∀ H' p, Same H H' → H' p = some (.tup (xs ++ ys)) → Q (.ref p) H') : rCatA K (.ref a) (.ref b) H Q := by
  refine ⟨a, b, xs, ys, rfl, rfl, hx, sqT_new hy, smallE (by omega), fun e => ?_, fun _ e => ?_, fun _ _ p np => ?_⟩
  · exact q H b (fun _ _ h => h) (by rw [e]; exact hy)
  · exact absurd e h0
  · exact q _ p (same_new np) upd_same
theorem isKeysN {H : Hp} : ∀ {F : List (List Str)} {bs : List Addr}, IsKeys H (kvsN F) bs → bs.length = F.length ∧ ∀ (i : Nat) (b : Addr), bs[i]? = some b → ∃ r, F[i]? = some r ∧ H b = some (.tup (r.map V.str))
  | [], _, h => by
    cases h
    exact ⟨rfl, fun i b e => by cases e⟩
  | r :: F, bs, h => by
    have h : Paired (fun p b => H b = some (.tup (p.1.map kV))) ((r.map Sum.inr, V.bl true) :: kvsN F) bs := h
    cases h with
    | @cons _ b1 _ bs1 h1 h2 =>
      obtain ⟨e1, e2⟩ := isKeysN (F := F) h2
      refine ⟨by rw [List.length_cons, List.length_cons, e1], fun i b e => ?_⟩
      cases i with
      | zero =>
        cases e
        refine ⟨r, rfl, ?_⟩
        rw [kV_rows] at h1
        exact h1
      | succ i => exact e2 i b e
theorem kvsN_len (F : List (List Str)) : (kvsN F).length = F.length := by
  unfold kvsN
  rw [List.length_map]
theorem adV_len (rs : List Ka.Row) : (adV rs).length = rs.length := by
  unfold adV
  rw [List.length_map]
section
variable {P : Program} {w : World} {K : PySem.W.Frag} {mg : Str → Option Value} {base : Heap}
theorem scRowsW : FnScope ["row", "found", "deed", "shorter"] ["row"] (defScope sRowsWithin) := ⟨rfl, rfl, rfl, by decide +kernel, rfl, by decide +kernel, by decide +kernel⟩
def spRowsW (K : PySem.W.Frag) : Sp := fun vs H Q _ => ∃ (a : Addr) (us : List Str), vs = [.ref a] ∧ SqT K H a (us.map V.str) ∧ us.length ≤ 12 ∧
  ∀ (H' : Hp) (p : Addr) (rs : List Ka.Row), Same H H' → H p = none → H' p = some (.lst (adV rs)) → rs.map (·.2) = (subsR us).mergeSort Ka.rowLe → Rows H' rs → Q (.ref p) H'
theorem ok_rowsW {f fO : Addr} {fd fdO : FuncData} (F : Fun K "rows_within" "rows_within" sRowsWithin f fd) (FO : Fun K "row_order" "row_order" sOrder fO fdO) (gO : mg "row_order" = some (.ref fO)) (N : Nones mg) : FnOk P w K mg base CX0 1 f fd ["row"] (spRowsW K) := by
  refine F.ok scRowsW (fun vs H Q E h => ?_) (fun cdv A outer s H vs Q E hr h => ?_)
  · obtain ⟨a, us, rfl, _⟩ := h
    rfl
  · obtain ⟨a, us, rfl, hA, hz, q⟩ := h
    refine ⟨_, pss_cons (ps_set (i := 1) scRowsW.nd rfl (.inl rfl) (Ka.pe_disp1T (hu_of hr) (pe_tup pa_nil) pe_bl))
      (pss_cons (ps_for PassesOwn.never rfl (pi_tup (pv 0)) (pg_name (i := 2) scRowsW.nd rfl (.inl rfl))
        (pss_one (ps_for PassesOwn.never rfl (pi_list (pe_callTy (call_list_dT rfl) (by rfl) N.list (by decide +kernel) (pa_cons (pv 1) pa_nil))) (pg_name (i := 3) scRowsW.nd rfl (.inl rfl))
          (pss_one (ps_dput (hu_of hr) (pv 1) (pe_op op_catA (pv 3) (pe_tup (pa_cons (pv 2) pa_nil))) pe_bl rfl)))))
      (pss_one (ps_ret (pe_callBK (Ka.cr_sortRows (f := fO) rfl hr.units (fun pins s σ H I => ?_)) (by rfl) N.sorted (by decide +kernel) (pa_cons (pv 1) pa_nil) (pk_cons (pe_glob (v := .ref fO) rfl gO rfl) pk_nil))))), ?_⟩
    · obtain ⟨oc, od, kV, doc, pm, an, cdv2, ct, osl, rfl, lk, hcd⟩ := FO.ex
      exact Ka.keyAt_def (x := "row") (scope := defScope sOrder) (params := defArgs sOrder) I hr lk hcd N.len (fun v => rfl) rfl rfl rfl (by decide +kernel) (by rfl) (by rfl) (by decide)
    · refine fun D nD => ⟨smallE (by decide), fun t nt => ⟨t, [], rfl, upd_same, ?_, ?_⟩⟩
      · rw [upd_ne (ne_of_none upd_same nt)]
        exact upd_same
      · have sA : Same H (upd (upd (upd H D (.dT [])) t (.tup [])) D (.dT [([], V.bl true)])) := fun c u e => by
          have h1 : c ≠ D := ne_of_none e nD
          have h2 : c ≠ t := fun z => by
            subst z
            rw [upd_ne h1] at nt
            rw [nt] at e
            cases e
          rw [upd_ne h1, upd_ne h2, upd_ne h1]
          exact e
        have eA : upd (upd (upd H D (.dT [])) t (.tup [])) D (.dT [([], V.bl true)]) D = some (.dT (kvsN (subsR (us.take 0)))) := upd_same
        generalize upd (upd (upd H D (.dT [])) t (.tup [])) D (.dT [([], V.bl true)]) = HA at sA eA ⊢
        refine ⟨.ref a, rfl, a, rfl, ⟨_, Same.sqT sA hA⟩, for_tup (K := K) (a := a) (xs := us.map V.str) (fun i σ H' => ∃ d2 d3, σ = [some (.ref a), some (.ref D), d2, d3] ∧ Same H H' ∧ H' D = some (.dT (kvsN (subsR (us.take i)))))
          ⟨none, none, rfl, sA, eA⟩ (fun i σ H' _ ⟨_, _, _, sm, _⟩ => Same.sqT sm hA) ?_ ?_⟩
        · rintro i x σ H' hx ⟨d2, d3, rfl, sm, eD⟩
          obtain ⟨d, hd, rfl⟩ := get_map hx
          have hi := lt_of_get hd
          rw [take_of_get hd, subsR_snoc]
          have hF : (subsR (us.take i)).length ≤ 4096 := by
            refine Nat.le_trans (len_subsR _) ?_
            refine Nat.le_trans (Nat.pow_le_pow_right (by decide) (Nat.le_trans (List.length_take_le _ _) (Nat.le_trans (Nat.le_of_lt hi) hz))) (by decide)
          have hus : ∀ r ∈ subsR (us.take i), r.length ≤ 12 := fun r hr => by
            have := ((mem_subsR _).mp hr).length_le
            have := List.length_take_le i us
            omega
          generalize subsR (us.take i) = F at eD hF hus ⊢
          refine ⟨.ref D, rfl, D, _, rfl, .inl eD, fun l bs nl hk => ?_⟩
          have nlH : H l = none := sm.free nl
          have sl := same_new (o := .lst (bs.map V.ref)) nl
          have el : upd H' l (.lst (bs.map V.ref)) l = some (.lst (bs.map V.ref)) := upd_same
          obtain ⟨hb1, hb2⟩ := isKeysN hk
          have hDl : D ≠ l := ne_of_none eD nl
          have eD1 := sl _ _ eD
          have hb3 : ∀ (k : Nat) (b : Addr), bs[k]? = some b → ∃ r, F[k]? = some r ∧ upd H' l (.lst (bs.map V.ref)) b = some (.tup (r.map V.str)) := fun k b h => by
            obtain ⟨r, h1, h2⟩ := hb2 k b h
            exact ⟨r, h1, sl _ _ h2⟩
          have sm1 := sm.trans sl
          generalize upd H' l (.lst (bs.map V.ref)) = H1 at sl el eD1 hb3 sm1 ⊢
          have nDH : H D = none := nD
          refine ⟨l, rfl, ⟨_, sqL_new el⟩, for_list (K := K) (a := l) (xs := bs.map V.ref) (fun j σ H3 => ∃ d3, σ = [some (.ref a), some (.ref D), some (.str d), d3] ∧ (∀ c u, c ≠ D → H1 c = some u → H3 c = some u) ∧ H3 D = some (.dT (kvsN (growL F d (F.take j)))))
            ⟨d3, rfl, fun c u _ e => e, eD1⟩ (fun j σ H3 _ ⟨_, _, k, _⟩ => sqL_new (k _ _ hDl.symm el)) ?_ ?_⟩
          · rintro j x σ H3 hx ⟨d3, rfl, k, e3⟩
            obtain ⟨b, hb, rfl⟩ := get_map hx
            obtain ⟨r, hr, er⟩ := hb3 j b hb
            have hj := lt_of_get hr
            have hbD : b ≠ D := fun z => by
              rw [z, eD1] at er
              cases er
            refine ⟨.ref D, rfl, .ref b, rfl, .str d, rfl, smallE (show 1 ≤ 1000000 by decide), fun t nt => ?_⟩
            have st := same_new (o := .tup [.str d]) nt
            refine catN (xs := r.map V.str) (ys := [.str d]) (sqT_new (st _ _ (k _ _ hbD er))) upd_same (by simp) ?_ fun H4 p4 s4 e4 => ?_
            · have := hus r (List.mem_of_getElem? hr)
              rw [List.length_map]
              show r.length + 1 ≤ _
              omega
            · have s5 := st.trans s4
              refine ⟨D, _, rfl, DPut.t (k := (r ++ [d]).map Sum.inr) (s5 _ _ e3) ?_ ?_, ?_⟩
              · rw [kV_rows, List.map_append]
                exact e4
              · rw [kvsN_len]
                have h1 := len_growL F d (F.take j)
                have h2 := List.length_take_le j F
                exact small (by omega)
              · refine ⟨_, rfl, fun c u hc e => ?_, ?_⟩
                · rw [upd_ne hc]
                  exact s5 _ _ (k c u hc e)
                · rw [upd_same, kvs_add, take_of_get hr, growL_snoc]
          · rintro σ H3 ⟨d3, rfl, k, e3⟩
            rw [List.length_map, hb1, List.take_length] at e3
            exact ⟨_, _, rfl, fun c u e => k c u (ne_of_none e nDH) (sm1 _ _ e), e3⟩
        · rintro σ H' ⟨d2, d3, rfl, sm, eD⟩
          rw [List.length_map, List.take_length] at eD
          refine ⟨.ref D, rfl, rfl, .inr ⟨D, _, subsR us, rfl, eD, ?_, fun rs p e1 e2 np => ?_⟩⟩
          · unfold kvsN
            rw [List.map_map]
            rfl
          · have sp := same_new (o := .lst (rs.map fun r => V.ref r.1)) np
            exact q _ p rs (sm.trans sp) (sm.free np) upd_same e1 fun r hr => sp _ _ (e2 r hr)
end
end Kb
namespace Kb
open PySem PySem.Spec PyProof.Rows L2
theorem walk_rr {a b : Int} {m : Nat} (ha : a = 0) (hb : b = (m : Int)) : Walk (Itc (a + (((b - a).toNat : Nat) : Int) - 1) (-1) (b - a).toNat) m (fun _ => True) (fun i H x H' => H' = H ∧ x = .int ((m - 1 - i : Nat) : Int)) := by
  have e : (b - a).toNat = m := by omega
  rw [e]
  refine walk_rangeC.mono (fun _ h => h) fun i H x H' hi _ y => ⟨y.1, ?_⟩
  rw [y.2]
  show V.int (a + (m : Int) - 1 + (i : Int) * (-1)) = _
  congr 1
  omega
theorem atI_m1 {α : Type} {xs : List α} {k : Nat} {v : α} (hl : xs.length = k + 1) (h : xs[k]? = some v) : atI xs (-1) = some v := by
  have e : xs = xs.take k ++ [v] := by
    rw [← take_of_get h, List.take_of_length_le (Nat.le_of_eq hl)]
  rw [e]
  exact atI_last _ _
end Kb
namespace Kb
open PySem PySem.Spec PyProof.Rows L2
/-- a table of the next places from k on, right for the deeds of S -/
def TabAt (H : Hp) (S : Str → Bool) (zs : List Str) (p : Addr) (k : Nat) : Prop := ∃ kvs : List (L2.Key × V), H p = some (.dK kvs) ∧ kvs.length + k ≤ zs.length ∧ ∀ d, S d = true → valV kvs (.inr d) = (nxt zs k d).map fun m => V.int ((m : Nat) : Int)
theorem TabAt.mono {H H' : Hp} {S : Str → Bool} {zs : List Str} {p : Addr} {k : Nat} (h : TabAt H S zs p k) (s : ∀ u, H p = some u → H' p = some u) : TabAt H' S zs p k := by
  obtain ⟨kvs, h1, h2, h3⟩ := h
  exact ⟨kvs, s _ h1, h2, h3⟩
section
variable {P : Program} {w : World} {K : PySem.W.Frag} {mg : Str → Option Value} {base : Heap}
theorem scPlaces : FnScope ["row", "deeds", "tables", "at", "table"] ["row", "deeds"] (defScope sPlaces) := ⟨rfl, rfl, rfl, by decide +kernel, rfl, by decide +kernel, by decide +kernel⟩
def spPlaces (K : PySem.W.Frag) : Sp := fun vs H Q _ => ∃ (a b : Addr) (zs : List Str) (ds : List (L2.Key × V)) (S : Str → Bool), vs = [.ref a, .ref b] ∧ SqT K H a (zs.map V.str) ∧ H b = some (.dK ds) ∧ (∀ d, (valV ds (.inr d)).isSome = S d) ∧ zs.length ≤ 1000 ∧
  ∀ (H' : Hp) (p : Addr) (ls : List Addr), Same H H' → H p = none → H' p = some (.lst (ls.map V.ref)) → ls.length = zs.length + 1 → (∀ (k : Nat) (t : Addr), ls[k]? = some t → TabAt H' S zs t k) → Q (.ref p) H'
theorem ok_places {f : Addr} {fd : FuncData} (F : Fun K "places_behind" "places_behind" sPlaces f fd) (N : Nones mg) (md : mg "dict" = none) : FnOk P w K mg base CX0 1 f fd ["row", "deeds"] (spPlaces K) := by
  refine F.ok scPlaces (fun vs H Q E h => ?_) (fun cdv A outer s H vs Q E hr h => ?_)
  · obtain ⟨a, b, zs, ds, S, rfl, _⟩ := h
    rfl
  · obtain ⟨a, b, zs, ds, S, rfl, hA, hB, hS, hz, q⟩ := h
    refine ⟨_, pss_cons (ps_set (i := 2) scPlaces.nd rfl (.inl rfl) (pe_lst (pa_cons pe_dnewK pa_nil)))
      (pss_cons (ps_for PassesOwn.never rfl (pi_revR (by rfl) N.reversed (prg_1 (by rfl) N.range (pe_callB call_len_seq (by rfl) N.len PySem.boot_len (pa_cons (pv 0) pa_nil)))) (pg_name (i := 3) scPlaces.nd rfl (.inl rfl))
        (pss_cons (ps_set (i := 4) scPlaces.nd rfl (.inl rfl) (pe_callTy call_dictD (by rfl) md (by decide +kernel) (pa_cons (pe_ix ix_list (pv 2) (pe_un un_neg pe_int) (fun _ _ => rfl)) pa_nil)))
        (pss_cons (ps_if (pt_cmp (pc_din (hu_of hr) (pe_ix ix_tup (pv 0) (pv 3) (fun _ _ => rfl)) (pv 1)))
          (pss_one (ps_dput (hu_of hr) (pv 4) (pe_ix ix_tup (pv 0) (pv 3) (fun _ _ => rfl)) (pe_op op_add (pv 3) pe_int) rfl)) pss_nil)
        (pss_one (ps_expr (pe_bm PySem.F.plainAttrs_list PySem.F.slot_list_append PySem.F.type_list_append mt_append (pv 2) (pa_cons (pv 4) pa_nil)))))))
      (pss_one (ps_ret (Ka.pe_listRev rfl (by rfl) N.list (by rfl) N.reversed (pv 2))))), ?_⟩
    have lenZ : ((zs.map V.str).length : Nat) = zs.length := List.length_map _
    refine fun D nD => ⟨smallE (show 1 ≤ 1000000 by decide), fun p np => ?_⟩
    have s1 : Same H (upd (upd H D (.dK [])) p (.lst [V.ref D])) := (same_new nD).trans (same_new np)
    have npH : H p = none := (same_new (o := .dK []) nD).free np
    have ep : upd (upd H D (.dK [])) p (.lst [V.ref D]) p = some (.lst ([D].map V.ref)) := upd_same
    have hDp : D ≠ p := ne_of_none upd_same np
    have eD : upd (upd H D (.dK [])) p (.lst [V.ref D]) D = some (.dK []) := by
      rw [upd_ne hDp]
      exact upd_same
    generalize upd (upd H D (.dK [])) p (.lst [V.ref D]) = H1 at s1 ep eD ⊢
    refine ⟨.ref a, rfl, a, _, rfl, .inr (Same.sqT s1 hA), _, rfl, by decide, by decide, by omega, by rw [lenZ]; omega, ?_⟩
    refine for_it (walk_rr (m := zs.length) rfl (by rw [lenZ])) (fun t σ H' => ∃ (ls : List Addr) (d3 d4 : Option V), σ = [some (.ref a), some (.ref b), some (.ref p), d3, d4] ∧ Same H H' ∧ H' p = some (.lst (ls.map V.ref)) ∧ ls.length = t + 1 ∧ (∀ (k : Nat) (c : Addr), ls[k]? = some c → TabAt H' S zs c (zs.length - k)) ∧ ∀ c ∈ ls, c ≠ p)
      ⟨[D], none, none, rfl, s1, ep, rfl, fun k c hk => ?_, fun c hc => ?_⟩ (fun _ _ _ _ _ => True.intro) (fun t x σ H9 H' ht hPv yy => ?_) (fun σ H' hPv => ?_)
    · cases k with
      | zero =>
        cases hk
        refine ⟨[], eD, ?_, fun d _ => ?_⟩
        · show 0 + _ ≤ _
          omega
        · rw [Nat.sub_zero, nxt_end (Nat.le_refl _)]
          rfl
      | succ k => cases hk
    · rw [List.mem_singleton.mp hc]
      exact hDp
    · obtain ⟨ls, d3, d4, rfl, sm, e2, hl, hT, hp⟩ := hPv
      obtain ⟨e9, rfl⟩ := yy
      subst e9
      obtain ⟨q0, hq0⟩ : ∃ q0, ls[t]? = some q0 := ⟨ls[t]'(by omega), List.getElem?_eq_getElem _⟩
      obtain ⟨kvs, eq0, hkl, hkv⟩ := hT t q0 hq0
      have hm1 : atI (ls.map V.ref) (-1) = some (.ref q0) := atI_m1 (k := t) (by rw [List.length_map, hl]) (by rw [List.getElem?_map, hq0]; rfl)
      refine ⟨.ref p, rfl, _, rfl, p, _, _, _, rfl, rfl, sqL_new e2, hm1, q0, kvs, rfl, .inl eq0, fun m nm => ?_⟩
      obtain ⟨i, hi⟩ : ∃ i, i = zs.length - 1 - t := ⟨_, rfl⟩
      rw [← hi]
      have hiz : i < zs.length := by omega
      have hit : zs.length - t = i + 1 := by omega
      rw [hit] at hkl hkv
      have nmH : H m = none := sm.free nm
      have s2 := same_new (o := .dK kvs) nm
      have em : upd H' m (.dK kvs) m = some (.dK kvs) := upd_same
      have hpm : p ≠ m := ne_of_none e2 nm
      have hlm : ∀ c ∈ ls, c ≠ m := fun c hc => by
        obtain ⟨k, hk⟩ := List.mem_iff_getElem?.mp hc
        obtain ⟨_, h1, _⟩ := hT k c hk
        exact ne_of_none h1 nm
      have e3 := s2 _ _ e2
      have hT3 : ∀ (k : Nat) (c : Addr), ls[k]? = some c → TabAt (upd H' m (.dK kvs)) S zs c (zs.length - k) := fun k c hk => (hT k c hk).mono fun u e => s2 _ _ e
      have smB := sm.trans s2
      generalize upd H' m (.dK kvs) = H2 at s2 em e3 hT3 smB ⊢
      have hzg : zs[i]? = some zs[i] := List.getElem?_eq_getElem hiz
      have hz' : (zs.map V.str)[i]? = some (.str zs[i]) := by
        rw [List.getElem?_map, hzg]
        rfl
      have hstep := fun d => nxt_step hzg d
      have fin : ∀ (H3 : Hp) (kvs' : List (L2.Key × V)), (∀ c u, c ≠ m → H2 c = some u → H3 c = some u) → H3 m = some (.dK kvs') → kvs'.length ≤ kvs.length + 1 → (∀ d, S d = true → valV kvs' (.inr d) = (nxt zs i d).map fun m => V.int ((m : Nat) : Int)) →
          ∃ (ls' : List Addr) (d3 d4 : Option V), [some (V.ref a), some (.ref b), some (.ref p), some (.int (i : Nat)), some (.ref m)] = [some (V.ref a), some (.ref b), some (.ref p), d3, d4] ∧ Same H (upd H3 p (.lst (ls.map V.ref ++ [.ref m]))) ∧ upd H3 p (.lst (ls.map V.ref ++ [.ref m])) p = some (.lst (ls'.map V.ref)) ∧ ls'.length = t + 1 + 1 ∧ (∀ (k : Nat) (c : Addr), ls'[k]? = some c → TabAt (upd H3 p (.lst (ls.map V.ref ++ [.ref m]))) S zs c (zs.length - k)) ∧ ∀ c ∈ ls', c ≠ p := fun H3 kvs' k3 em3 hl3 hv3 => by
        refine ⟨ls ++ [m], _, _, rfl, fun c u e => ?_, ?_, by rw [List.length_append, hl]; rfl, fun k c hk => ?_, fun c hc => ?_⟩
        · rw [upd_ne (ne_of_none e npH)]
          exact k3 _ _ (ne_of_none e nmH) (smB _ _ e)
        · rw [upd_same, List.map_append]
          rfl
        · by_cases hk1 : k < ls.length
          · rw [List.getElem?_append_left hk1] at hk
            have hcm := List.mem_of_getElem? hk
            refine (hT3 k c hk).mono fun u e => ?_
            rw [upd_ne (hp c hcm)]
            exact k3 _ _ (hlm c hcm) e
          · have hlt := (List.getElem?_eq_some_iff.mp hk).1
            rw [List.length_append] at hlt
            have ek : k = ls.length := by
              have : [m].length = 1 := rfl
              omega
            subst ek
            rw [List.getElem?_append_right (Nat.le_refl _), Nat.sub_self] at hk
            cases hk
            rw [hl, show zs.length - (t + 1) = i by omega]
            refine ⟨kvs', ?_, by omega, hv3⟩
            rw [upd_ne hpm.symm]
            exact em3
        · rcases List.mem_append.mp hc with h | h
          · exact hp c h
          · rw [List.mem_singleton.mp h]
            exact hpm.symm
      refine ⟨.ref a, rfl, .int (i : Nat), rfl, a, _, _, _, rfl, rfl, Same.sqT smB hA, atI_nat hz', .ref b, rfl, b, _, rfl, DGet.k (k := .inr zs[i]) (smB _ _ hB), ?_⟩
      rw [hS]
      cases eS : S zs[i] with
      | false =>
        refine ⟨_, rfl, iteF ⟨.ref p, rfl, .inl ⟨rfl, _, sqL_new e3⟩, .ref m, rfl, p, _, _, rfl, rfl, e3, by rw [List.length_map, hl]; exact small (by omega), ?_⟩⟩
        refine fin H2 kvs (fun c u _ e => e) em (by omega) fun d hd => ?_
        rw [hstep, if_neg (fun z => by rw [z, hd] at eS; cases eS)]
        exact hkv d hd
      | true =>
        refine ⟨_, rfl, iteT ?_⟩
        refine ⟨.int (i : Nat), rfl, _, _, rfl, rfl, .ref m, rfl, .ref a, rfl, .int (i : Nat), rfl, a, _, _, _, rfl, rfl, Same.sqT smB hA, atI_nat hz', m, _, rfl, DPut.k (k := .inr zs[i]) em (small (by omega)), ?_⟩
        have e4 : upd H2 m (.dK (putK kvs (.inr zs[i]) (.int (((i : Nat) : Int) + 1)))) p = some (.lst (ls.map V.ref)) := by
          rw [upd_ne hpm]
          exact e3
        refine ⟨.ref p, rfl, .inl ⟨rfl, _, sqL_new e4⟩, .ref m, rfl, p, _, _, rfl, rfl, e4, by rw [List.length_map, hl]; exact small (by omega), ?_⟩
        refine fin _ _ (fun c u hc e => by rw [upd_ne hc]; exact e) upd_same (length_putK _ _ _) fun d hd => ?_
        rw [valV_put, hstep]
        by_cases ed : zs[i] = d
        · rw [if_pos (by rw [ed]), if_pos ed]
          show some (V.int _) = some (V.int _)
          congr 2
        · rw [if_neg (fun z => ed (Sum.inr.inj z).symm), if_neg ed]
          exact hkv d hd
    · obtain ⟨ls, d3, d4, rfl, sm, e2, hl, hT, hp⟩ := hPv
      refine ⟨.ref p, rfl, p, _, rfl, sqL_new e2, fun r nr => ?_⟩
      have s2 := same_new (o := .lst (ls.map V.ref).reverse) nr
      refine q _ r ls.reverse (sm.trans s2) (sm.free nr) ?_ ?_ ?_
      · rw [upd_same, List.map_reverse]
      · rw [List.length_reverse, hl]
      · intro k c hk
        have hk2 := (List.getElem?_eq_some_iff.mp hk).1
        rw [List.length_reverse, hl] at hk2
        rw [List.getElem?_reverse (by omega), hl] at hk
        have h := hT _ c hk
        rw [show zs.length - (zs.length + 1 - 1 - k) = k by omega] at h
        exact h.mono fun u e => s2 _ _ e
end
end Kb
namespace Kb
open PySem PySem.Spec PyProof.Rows L2
/-! ### dicts with rows as keys, whatever they hold -/
def kvF (f : List Str → V) (L : List (List Str)) : List (List L2.Key × V) := L.map fun x => (x.map Sum.inr, f x)
theorem kvF_len (f : List Str → V) (L : List (List Str)) : (kvF f L).length = L.length := by
  unfold kvF
  rw [List.length_map]
theorem valV_kvF (f : List Str → V) (x : List Str) : ∀ L : List (List Str), valV (kvF f L) (x.map Sum.inr) = if x ∈ L then some (f x) else none
  | [] => by
    rw [if_neg (by simp)]
    rfl
  | y :: L => by
    show valV ((y.map Sum.inr, f y) :: kvF f L) _ = _
    by_cases e : y = x
    · subst e
      rw [valV_pos (p := (y.map Sum.inr, f y)) rfl, if_pos List.mem_cons_self]
    · rw [valV_neg (p := (y.map Sum.inr, f y)) (fun z => e (inr_inj.mp z)), valV_kvF f x L]
      by_cases h : x ∈ L
      · rw [if_pos h, if_pos (List.mem_cons_of_mem _ h)]
      · rw [if_neg h, if_neg (fun z => (List.mem_cons.mp z).elim (fun q => e q.symm) h)]
theorem put_kvF (f : List Str → V) {L : List (List Str)} {x : List Str} (h : x ∉ L) : putK (kvF f L) (x.map Sum.inr) (f x) = kvF f (L ++ [x]) := by
  rw [putK_new _ (by rw [valV_kvF, if_neg h])]
  unfold kvF
  rw [List.map_append]
  rfl
theorem isKeysF {f : List Str → V} {H : Hp} : ∀ {L : List (List Str)} {bs : List Addr}, IsKeys H (kvF f L) bs → ∃ ts : List Ka.Row, ts.map (·.1) = bs ∧ ts.map (·.2) = L ∧ Rows H ts
  | [], _, h => by
    cases h
    exact ⟨[], rfl, rfl, fun r hr => by cases hr⟩
  | r :: L, bs, h => by
    have h : Paired (fun p b => H b = some (.tup (p.1.map kV))) ((r.map Sum.inr, f r) :: kvF f L) bs := h
    cases h with
    | @cons _ b1 _ bs1 h1 h2 =>
      obtain ⟨ts, e1, e2, e3⟩ := isKeysF (L := L) h2
      refine ⟨(b1, r) :: ts, by rw [List.map_cons, e1], by rw [List.map_cons, e2], fun g hg => ?_⟩
      rcases List.mem_cons.mp hg with rfl | hg
      · rw [kV_rows] at h1
        exact h1
      · exact e3 g hg
theorem adV_of {ts : List Ka.Row} {bs : List Addr} (h : ts.map (·.1) = bs) : adV ts = bs.map V.ref := by
  rw [← h]
  unfold adV
  rw [List.map_map]
  rfl
theorem slA_init {K : PySem.W.Frag} {H : Hp} {a : Addr} {xs : List V} {Q : VK} (hA : SqT K H a xs) (h0 : xs ≠ []) (q1 : ∀ p, H p = none → Q (.ref p) (upd H p (.tup xs.dropLast))) : rSlA K (.ref a) none (some (-1)) H Q := by
  have hl : 0 < xs.length := List.length_pos_iff.mpr h0
  have e1 : HT.sIx xs.length xs.length (some (-1)) = xs.length - 1 := by
    show (if (-1 : Int) < 0 then ((-1 : Int) + ((xs.length : Nat) : Int)).toNat else min (-1 : Int).toNat xs.length) = _
    rw [if_pos (by decide)]
    omega
  refine ⟨a, xs, rfl, hA, fun hw => ?_, fun _ p np => ?_⟩
  · rw [e1] at hw
    omega
  · have e : cutV xs none (some (-1)) = xs.dropLast := by
      unfold cutV
      rw [e1, HT.sIx_none, List.drop_zero, Nat.sub_zero, List.dropLast_eq_take]
    rw [e]
    exact q1 p np
/-- the rows that lie within zs -/
def wOk (zs : List Str) (x : List Str) : Bool := !x.isEmpty && (run zs x).isSome
/-- beginnings stand ahead -/
def Ahead (xs : List (List Str)) : Prop := ∀ (i : Nat) (x : List Str), xs[i]? = some x → x ≠ [] → x.dropLast ∈ xs.take i
def plc (zs x : List Str) : V := V.int (((run zs x).getD 0 : Nat) : Int)
section
variable {P : Program} {w : World} {K : PySem.W.Frag} {mg : Str → Option Value} {base : Heap}
theorem scThose : FnScope ["rows", "behind", "reached", "one", "place"] ["rows", "behind"] (defScope sThose) := ⟨rfl, rfl, rfl, by decide +kernel, rfl, by decide +kernel, by decide +kernel⟩
def spThose (K : PySem.W.Frag) : Sp := fun vs H Q _ => ∃ (a b : Addr) (rs : List Ka.Row) (zs : List Str) (S : Str → Bool) (ls : List Addr), vs = [.ref a, .ref b] ∧ H a = some (.lst (adV rs)) ∧ Rows H rs ∧ rs.length ≤ 5000 ∧
  H b = some (.lst (ls.map V.ref)) ∧ ls.length = zs.length + 1 ∧ (∀ (k : Nat) (t : Addr), ls[k]? = some t → TabAt H S zs t k) ∧ (∀ r ∈ rs, ∀ d ∈ r.2, S d = true) ∧ (rs.map (·.2)).Nodup ∧ Ahead (rs.map (·.2)) ∧
  ∀ (H' : Hp) (p : Addr) (ts : List Ka.Row), Same H H' → H p = none → H' p = some (.lst (adV ts)) → ts.map (·.2) = [] :: (rs.map (·.2)).filter (wOk zs) → Rows H' ts → Q (.ref p) H'
theorem ok_those {f : Addr} {fd : FuncData} (F : Fun K "those_within" "those_within" sThose f fd) (N : Nones mg) : FnOk P w K mg base CX0 1 f fd ["rows", "behind"] (spThose K) := by
  refine F.ok scThose (fun vs H Q E h => ?_) (fun cdv A outer s H vs Q E hr h => ?_)
  · obtain ⟨a, b, rs, zs, S, ls, rfl, _⟩ := h
    rfl
  · obtain ⟨a, b, rs, zs, S, ls, rfl, hA, hR, hz, hB, hl, hT, hS, hN, hH, q⟩ := h
    refine ⟨_, pss_cons (ps_set (i := 2) scThose.nd rfl (.inl rfl) (Ka.pe_disp1T (hu_of hr) (pe_tup pa_nil) pe_int))
      (pss_cons (ps_for PassesOwn.never rfl (pi_list (pv 0)) (pg_name (i := 3) scThose.nd rfl (.inl rfl))
        (pss_one (ps_if (PW.pt (pw_and (pt_truth (pv 3) (by intro _; rfl)) (pw_and1 (pt_cmp (pc_din (hu_of hr) (pe_slice sl_tupA (pv 3) po_none (po_some (pe_un un_neg pe_int))) (pv 2))))))
          (pss_cons (ps_set (i := 4) scThose.nd rfl (.inl rfl) (pe_dget1 (hu_of hr) (pe_ix ix_list (pv 1) (pe_dget (hu_of hr) (pv 2) (pe_slice sl_tupA (pv 3) po_none (po_some (pe_un un_neg pe_int))) (fun _ _ => rfl)) (fun _ _ => rfl)) (pe_ix ix_tup (pv 3) (pe_un un_neg pe_int) (fun _ _ => rfl)) ⟨rfl, rfl, rfl, rfl⟩))
          (pss_one (ps_if (pt_cmp (pc_notN (pv 4))) (pss_one (ps_dput (hu_of hr) (pv 2) (pv 3) (pv 4) rfl)) pss_nil)))
          pss_nil)))
      (pss_one (ps_ret (pe_callTy (call_list_dT rfl) (by rfl) N.list (by decide +kernel) (pa_cons (pv 2) pa_nil))))), ?_⟩
    refine fun D nD => ⟨smallE (by decide), fun t nt => ⟨t, [], rfl, upd_same, ?_, ?_⟩⟩
    · rw [upd_ne (ne_of_none upd_same nt)]
      exact upd_same
    · have sA : Same H (upd (upd (upd H D (.dT [])) t (.tup [])) D (.dT [([], V.int 0)])) := fun c u e => by
        have h1 : c ≠ D := ne_of_none e nD
        have h2 : c ≠ t := fun z => by
          subst z
          rw [upd_ne h1] at nt
          rw [nt] at e
          cases e
        rw [upd_ne h1, upd_ne h2, upd_ne h1]
        exact e
      have eA : upd (upd (upd H D (.dT [])) t (.tup [])) D (.dT [([], V.int 0)]) D = some (.dT (kvF (plc zs) ([] :: ((rs.map (·.2)).take 0).filter (wOk zs)))) := upd_same
      generalize upd (upd (upd H D (.dT [])) t (.tup [])) D (.dT [([], V.int 0)]) = HA at sA eA ⊢
      refine ⟨.ref a, rfl, a, rfl, ⟨_, sqL_new (sA _ _ hA)⟩, for_list (K := K) (a := a) (xs := adV rs) (fun i σ H' => ∃ d3 d4, σ = [some (.ref a), some (.ref b), some (.ref D), d3, d4] ∧ Same H H' ∧ H' D = some (.dT (kvF (plc zs) ([] :: ((rs.map (·.2)).take i).filter (wOk zs)))))
        ⟨none, none, rfl, sA, eA⟩ (fun i σ H' _ ⟨_, _, _, sm, _⟩ => sqL_new (sm _ _ hA)) ?_ ?_⟩
      · rintro i x σ H' hx ⟨d3, d4, rfl, sm, eD⟩
        obtain ⟨r, hr, rfl⟩ := get_map hx
        have hrm := List.mem_of_getElem? hr
        have hi := lt_of_get hr
        have hr2 : (rs.map (·.2))[i]? = some r.2 := by
          rw [List.getElem?_map, hr]
          rfl
        have er := sm _ _ (hR r hrm)
        have hS2 := hS r hrm
        have hAh := hH i r.2 hr2
        have hNo : r.2 ∉ [] :: ((rs.map (·.2)).take i).filter (wOk zs) ∨ r.2 = [] := by
          by_cases e : r.2 = []
          · exact .inr e
          · refine .inl fun z => ?_
            rcases List.mem_cons.mp z with z | z
            · exact e z
            · have z := (List.mem_filter.mp z).1
              obtain ⟨j, hj⟩ := List.mem_iff_getElem?.mp z
              have hjl := lt_of_get hj
              rw [List.length_take] at hjl
              rw [List.getElem?_take_of_lt (by omega)] at hj
              have := (List.getElem?_inj (lt_of_get hj) hN).mp (hj.trans hr2.symm)
              omega
        have hLl : ([] :: ((rs.map (·.2)).take i).filter (wOk zs)).length ≤ 5001 := by
          rw [List.length_cons]
          have h1 := List.length_filter_le (wOk zs) ((rs.map (·.2)).take i)
          have h2 := List.length_take_le i (rs.map (·.2))
          omega
        rw [take_of_get hr2, List.filter_append]
        generalize hL : [] :: ((rs.map (·.2)).take i).filter (wOk zs) = L at eD hNo hLl
        have eLx : [] :: (((rs.map (·.2)).take i).filter (wOk zs) ++ [r.2].filter (wOk zs)) = L ++ [r.2].filter (wOk zs) := by rw [← hL]; rfl
        rw [eLx]
        by_cases ey : r.2 = []
        · refine ⟨.ref r.1, rfl, false, .inr (.inl ⟨_, sqT_new er, by rw [ey]; rfl⟩), iteF (iteF ⟨_, _, rfl, sm, ?_⟩)⟩
          rw [ey]
          show _ = some (HO.dT (kvF (plc zs) (L ++ [])))
          rw [List.append_nil]
          exact eD
        · have hNo := hNo.resolve_right ey
          obtain ⟨p, d, hy⟩ : ∃ p d, r.2 = p ++ [d] := ⟨_, _, (List.dropLast_concat_getLast ey).symm⟩
          have hdp : r.2.dropLast = p := by rw [hy, List.dropLast_concat]
          have hAh := hAh ey
          rw [hdp] at hAh
          have hpL : p ∈ L ↔ (run zs p).isSome = true := by
            rw [← hL]
            constructor
            · intro z
              rcases List.mem_cons.mp z with z | z
              · rw [z]
                rfl
              · have z := (List.mem_filter.mp z).2
                unfold wOk at z
                exact (Bool.and_eq_true_iff.mp z).2
            · intro z
              by_cases e : p = []
              · rw [e]
                exact List.mem_cons_self
              · refine List.mem_cons_of_mem _ (List.mem_filter.mpr ⟨hAh, ?_⟩)
                unfold wOk
                rw [z, Bool.and_true]
                cases p with
                | nil => exact absurd rfl e
                | cons _ _ => rfl
          have hrun := run_snoc zs p d
          rw [← hy] at hrun
          have hlast : atI (r.2.map V.str) (-1) = some (.str d) := by
            rw [hy, List.map_append]
            exact atI_last _ _
          have hdl : (r.2.map V.str).dropLast = p.map V.str := by rw [← List.map_dropLast, hdp]
          have hSd : S d = true := hS2 _ (by rw [hy]; exact List.mem_append_right _ List.mem_cons_self)
          have hwf : [r.2].filter (wOk zs) = if (run zs r.2).isSome = true then [r.2] else [] := by
            have e : wOk zs r.2 = (run zs r.2).isSome := by
              unfold wOk
              cases hd : r.2 with
              | nil => exact absurd hd ey
              | cons _ _ => rfl
            by_cases c : (run zs r.2).isSome = true
            · rw [List.filter_cons_of_pos (by rw [e]; exact c), if_pos c]
              rfl
            · rw [List.filter_cons_of_neg (by rw [e]; exact c), if_neg c]
              rfl
          have hne : r.2.map V.str ≠ [] := fun z => ey (List.map_eq_nil_iff.mp z)
          refine ⟨.ref r.1, rfl, true, .inr (.inl ⟨_, sqT_new er, ?_⟩), iteT ?_⟩
          · cases hd : r.2 with
            | nil => exact absurd hd ey
            | cons _ _ => rfl
          · refine ⟨.ref r.1, rfl, ?_⟩
            dsimp only [tNoPart]
            refine ⟨_, rfl, _, rfl, slA_init (sqT_new er) hne fun t1 n1 => ?_⟩
            have st1 := same_new (o := .tup (r.2.map V.str).dropLast) n1
            have e1 : upd H' t1 (.tup (r.2.map V.str).dropLast) t1 = some (.tup ((p.map Sum.inr).map kV)) := by
              rw [upd_same, kV_rows, hdl]
            have sm1 := sm.trans st1
            have eD1 := st1 _ _ eD
            have er1 := st1 _ _ er
            generalize upd H' t1 (.tup (r.2.map V.str).dropLast) = H1 at st1 e1 sm1 eD1 er1 ⊢
            refine ⟨.ref D, rfl, D, _, rfl, DGet.t eD1 e1, _, rfl, ?_⟩
            rw [valV_kvF]
            by_cases hp : p ∈ L
            · rw [if_pos hp]
              refine iteT ?_
              obtain ⟨m, hm⟩ := Option.isSome_iff_exists.mp (hpL.mp hp)
              have hml := run_le hm
              rw [hm] at hrun
              have hrun : run zs r.2 = nxt zs m d := hrun
              obtain ⟨tl, htl⟩ : ∃ tl, ls[m]? = some tl := ⟨ls[m]'(by omega), List.getElem?_eq_getElem _⟩
              obtain ⟨kvs, ek, _, hkv⟩ := hT m tl htl
              have hkv := hkv d hSd
              refine ⟨.ref b, rfl, .ref D, rfl, .ref r.1, rfl, ?_⟩
              dsimp only [tNoPart]
              refine ⟨_, rfl, _, rfl, slA_init (sqT_new er1) hne fun t2 n2 => ?_⟩
              have st2 := same_new (o := .tup (r.2.map V.str).dropLast) n2
              have e2 : upd H1 t2 (.tup (r.2.map V.str).dropLast) t2 = some (.tup ((p.map Sum.inr).map kV)) := by
                rw [upd_same, kV_rows, hdl]
              have sm2 := sm1.trans st2
              have eD2 := st2 _ _ eD1
              have er2 := st2 _ _ er1
              generalize upd H1 t2 (.tup (r.2.map V.str).dropLast) = H2 at st2 e2 sm2 eD2 er2 ⊢
              have hg : valV (kvF (plc zs) L) (p.map Sum.inr) = some (.int ((m : Nat) : Int)) := by
                rw [valV_kvF, if_pos hp]
                unfold plc
                rw [hm]
                rfl
              have hix : atI (ls.map V.ref) ((m : Nat) : Int) = some (.ref tl) := atI_nat (by rw [List.getElem?_map, htl]; rfl)
              refine ⟨D, .int ((m : Nat) : Int), rfl, hg ▸ DGet.t eD2 e2, b, _, _, _, rfl, rfl, sqL_new (sm2 _ _ hB), hix, tl, rfl, .inl ⟨kvs, .inl (sm2 _ _ ek)⟩, .ref r.1, rfl, _, rfl, r.1, _, _, _, rfl, rfl, sqT_new er2, hlast, _, DGet.k (k := .inr d) (sm2 _ _ ek), ?_⟩
              rw [hkv]
              cases hx : nxt zs m d with
              | none =>
                rw [hx] at hrun
                refine ⟨.non, rfl, _, rfl, iteF ⟨_, _, rfl, sm2, ?_⟩⟩
                rw [hwf, hrun]
                show _ = some (HO.dT (kvF (plc zs) (L ++ [])))
                rw [List.append_nil]
                exact eD2
              | some m2 =>
                rw [hx] at hrun
                refine ⟨_, rfl, _, rfl, iteT ⟨_, rfl, .ref D, rfl, .ref r.1, rfl, D, _, rfl, DPut.t (k := r.2.map Sum.inr) eD2 ?_ ?_, _, _, rfl, fun c u e => ?_, ?_⟩⟩
                · rw [kV_rows]
                  exact er2
                · rw [kvF_len]
                  exact small (by omega)
                · rw [upd_ne (ne_of_none e nD)]
                  exact sm2 c u e
                · rw [upd_same, hwf, hrun]
                  have := put_kvF (plc zs) hNo
                  unfold plc at this
                  rw [hrun] at this
                  show some (HO.dT (putK _ _ (V.int ((m2 : Nat) : Int)))) = some (HO.dT (kvF (plc zs) (L ++ [r.2])))
                  unfold plc
                  rw [← this]
                  rfl
            · rw [if_neg hp]
              have hn : run zs p = none := by
                cases h : run zs p with
                | none => rfl
                | some m => exact absurd (hpL.mpr (by rw [h]; rfl)) hp
              rw [hn] at hrun
              have hrun : run zs r.2 = none := hrun
              refine iteF ⟨_, _, rfl, sm1, ?_⟩
              rw [hwf, hrun]
              show _ = some (HO.dT (kvF (plc zs) (L ++ [])))
              rw [List.append_nil]
              exact eD1
      · rintro σ H' ⟨d3, d4, rfl, sm, eD⟩
        rw [adV_len, List.take_of_length_le (by rw [List.length_map]; exact Nat.le_refl _)] at eD
        refine ⟨.ref D, rfl, D, _, rfl, .inl eD, fun l bs nl hk => ?_⟩
        obtain ⟨ts, e1, e2, e3⟩ := isKeysF hk
        have sl := same_new (o := .lst (bs.map V.ref)) nl
        refine q _ l ts (sm.trans sl) (sm.free nl) ?_ e2 fun g hg => sl _ _ (e3 g hg)
        rw [adV_of e1]
        exact upd_same
end
end Kb
namespace Kb
open PySem PySem.Spec PyProof.Rows L2
/-- a row without one of its deeds -/
def delR (y : List Str) (k : Nat) : List Str := y.take k ++ y.drop (k + 1)
def delsR (y : List Str) : List (List Str) := (List.range y.length).map (delR y)
theorem delsR_len (y : List Str) : (delsR y).length = y.length := by
  unfold delsR
  rw [List.length_map, List.length_range]
theorem delsR_get {y : List Str} {k : Nat} (h : k < y.length) : (delsR y)[k]? = some (delR y k) := by
  unfold delsR
  rw [List.getElem?_map, List.getElem?_range h]
  rfl
def addL (l : List (List Str)) : List (List Str) := l.foldl addR []
theorem addL_snoc (l : List (List Str)) (s : List Str) : addL (l ++ [s]) = addR (addL l) s := by
  unfold addL
  rw [List.foldl_append]
  rfl
theorem mem_addL {x : List Str} (l : List (List Str)) : x ∈ addL l ↔ x ∈ l := by
  refine Ka.snoc_ind (P := fun l => x ∈ addL l ↔ x ∈ l) Iff.rfl (fun l s ih => ?_) l
  rw [addL_snoc, mem_addR, ih, List.mem_append, List.mem_singleton]
theorem len_addL (l : List (List Str)) : (addL l).length ≤ l.length :=
  Ka.snoc_ind (P := fun l => (addL l).length ≤ l.length) (Nat.le_refl _) (fun l s ih => by
    rw [addL_snoc, List.length_append, List.length_singleton]
    have := len_addR (addL l) s
    omega) l
/-- the rows that are none of the others without one deed -/
def topR1 (xs : List (List Str)) : List (List Str) := xs.filter fun x => decide (x ∉ xs.flatMap delsR)
theorem flat_len (l : List (List Str)) (m : Nat) (h : ∀ y ∈ l, y.length ≤ m) : (l.flatMap delsR).length ≤ l.length * m := by
  induction l with
  | nil => exact Nat.zero_le _
  | cons y l ih =>
    rw [List.flatMap_cons, List.length_append, delsR_len, List.length_cons, Nat.succ_mul]
    have h1 := h y List.mem_cons_self
    have h2 := ih fun z hz => h z (List.mem_cons_of_mem _ hz)
    omega
section
variable {K : PySem.W.Frag}
theorem slT_take {H : Hp} {a : Addr} {xs : List V} {j : Nat} {Q : VK} (hA : H a = some (.tup xs)) (q : ∀ H' p, Same H H' → H' p = some (.tup (xs.take j)) → Q (.ref p) H') : rSlA K (.ref a) none (some (j : Int)) H Q :=
  slA_take (sqT_new hA) (fun e => q H a (fun _ _ h => h) (by rw [e]; exact hA)) fun p np => q _ p (same_new np) upd_same
theorem slT_drop {H : Hp} {a : Addr} {xs : List V} {j : Nat} {Q : VK} (hA : H a = some (.tup xs)) (q : ∀ H' p, Same H H' → H' p = some (.tup (xs.drop j)) → Q (.ref p) H') : rSlA K (.ref a) (some (j : Int)) none H Q :=
  slA_drop (sqT_new hA) (fun e => q H a (fun _ _ h => h) (by rw [e]; exact hA)) fun p np => q _ p (same_new np) upd_same
theorem catT {H : Hp} {a b : Addr} {xs ys : List V} {Q : VK} (hx : H a = some (.tup xs)) (hy : H b = some (.tup ys)) (hl : xs.length + ys.length ≤ 100000) (q : ∀ H' p, Same H H' → H' p = some (.tup (xs ++ ys)) → Q (.ref p) H') : rCatA K (.ref a) (.ref b) H Q := by
  refine ⟨a, b, xs, ys, rfl, rfl, sqT_new hx, sqT_new hy, smallE (by omega), fun e => ?_, fun _ e => ?_, fun _ _ p np => ?_⟩
  · exact q H b (fun _ _ h => h) (by rw [e]; exact hy)
  · exact q H a (fun _ _ h => h) (by rw [e, List.append_nil]; exact hx)
  · exact q _ p (same_new np) upd_same
end
section
variable {P : Program} {w : World} {K : PySem.W.Frag} {mg : Str → Option Value} {base : Heap}
theorem scGreatA : FnScope ["rows", "inner", "row", "at"] ["rows"] (defScope sGreatAll) := ⟨rfl, rfl, rfl, by decide +kernel, rfl, by decide +kernel, by decide +kernel⟩
def spGreatA (K : PySem.W.Frag) : Sp := fun vs H Q _ => ∃ (a : Addr) (rs : List Ka.Row), vs = [.ref a] ∧ H a = some (.lst (adV rs)) ∧ Rows H rs ∧ rs.length ≤ 5000 ∧ (∀ r ∈ rs, r.2.length ≤ 12) ∧
  ∀ (H' : Hp) (p : Addr) (ts : List Ka.Row), Same H H' → H p = none → H' p = some (.tup (adV ts)) → ts.map (·.2) = topR1 (rs.map (·.2)) → Rows H' ts → Q (.ref p) H'
theorem ok_greatA {f : Addr} {fd : FuncData} (F : Fun K "greatest_of_all" "greatest_of_all" sGreatAll f fd) (N : Nones mg) : FnOk P w K mg base CX0 1 f fd ["rows"] (spGreatA K) := by
  refine F.ok scGreatA (fun vs H Q E h => ?_) (fun cdv A outer s H vs Q E hr h => ?_)
  · obtain ⟨a, rs, rfl, _⟩ := h
    rfl
  · obtain ⟨a, rs, rfl, hA, hR, hz, h12, q⟩ := h
    refine ⟨_, pss_cons (ps_set (i := 1) scGreatA.nd rfl (.inr rfl) pe_dnewT)
      (pss_cons (ps_for PassesOwn.never rfl (pi_list (pv 0)) (pg_name (i := 2) scGreatA.nd rfl (.inl rfl))
        (pss_one (ps_for PassesOwn.never rfl (pi_range1 (by rfl) N.range (pa_cons (pe_callB call_len_seq (by rfl) N.len PySem.boot_len (pa_cons (pv 2) pa_nil)) pa_nil)) (pg_name (i := 3) scGreatA.nd rfl (.inl rfl))
          (pss_one (ps_dput (hu_of hr) (pv 1) (pe_op op_catA (pe_slice sl_tupA (pv 2) po_none (po_some (pv 3))) (pe_slice sl_tupA (pv 2) (po_some (pe_op op_add (pv 3) pe_int)) po_none)) pe_bl rfl)))))
      (pss_one (ps_ret (pe_callTy call_tuple_of (by rfl) N.tuple (by decide +kernel) (pa_cons
        (pe_lc (own := [("row", 2)]) (g := gName 2) rfl scGreatA.nd (pi_list (pv 0)) (blkOk_by (own := [("row", 2)]) (N := ["rows", "inner", "row", "at"]) (sc := defScope sGreatAll) (by decide +kernel)) (fun _ _ _ _ _ => pg_name (i := 2) scGreatA.nd rfl (Or.inl rfl)) (fun _ _ _ _ _ => pts_one (pt_cmp (pc_dnotin (hu_of hr) (pv 2) (pv 1))))
          (fun _ _ _ _ _ => pv 2)) pa_nil))))), ?_⟩
    have aL : ∀ r ∈ rs, ∀ (k : Nat), H r.1 = some (.tup (r.2.map V.str)) := fun r hr _ => hR r hr
    refine fun D nD => ?_
    have s0 := same_new (o := .dT []) nD
    have e0 : upd H D (.dT []) D = some (.dT (kvsN (addL ((((rs.map (·.2)).take 0)).flatMap delsR)))) := upd_same
    have hm : (rs.map (·.2)).length = rs.length := List.length_map _
    have hfl : ∀ i, (((rs.map (·.2)).take i).flatMap delsR).length ≤ 60000 := fun i => by
      have h1 := flat_len ((rs.map (·.2)).take i) 12 (fun y hy => by
        obtain ⟨r, hr, rfl⟩ := List.mem_map.mp (List.mem_of_mem_take hy)
        exact h12 r hr)
      have h2 := List.length_take_le' i (rs.map (·.2))
      rw [hm] at h2
      have h3 := Nat.mul_le_mul_right 12 h2
      omega
    generalize upd H D (.dT []) = HA at s0 e0 ⊢
    refine ⟨.ref a, rfl, a, rfl, ⟨_, sqL_new (s0 _ _ hA)⟩, for_list (K := K) (a := a) (xs := adV rs) (fun i σ H' => ∃ d2 d3, σ = [some (.ref a), some (.ref D), d2, d3] ∧ Same H H' ∧ H' D = some (.dT (kvsN (addL (((rs.map (·.2)).take i).flatMap delsR)))))
      ⟨none, none, rfl, s0, e0⟩ (fun i σ H' _ ⟨_, _, _, sm, _⟩ => sqL_new (sm _ _ hA)) ?_ ?_⟩
    · rintro i x σ H' hx ⟨d2, d3, rfl, sm, eD⟩
      obtain ⟨r, hr, rfl⟩ := get_map hx
      have hrm := List.mem_of_getElem? hr
      have hr2 : (rs.map (·.2))[i]? = some r.2 := by
        rw [List.getElem?_map, hr]
        rfl
      have er := sm _ _ (hR r hrm)
      have h12r := h12 r hrm
      have hfi := hfl i
      rw [take_of_get hr2, List.flatMap_append]
      have eF : ([r.2].flatMap delsR) = delsR r.2 := by
        rw [List.flatMap_cons, List.flatMap_nil, List.append_nil]
      rw [eF]
      generalize ((rs.map (·.2)).take i).flatMap delsR = G at eD hfi ⊢
      have lenR : (r.2.map V.str).length = r.2.length := List.length_map _
      have hrD : r.1 ≠ D := fun z => by
        rw [z, eD] at er
        cases er
      refine ⟨.ref r.1, rfl, r.1, _, rfl, .inr (sqT_new er), _, rfl, by omega, by rw [lenR]; omega, ?_⟩
      refine for_range (lo := 0) (n := (r.2.map V.str).length) (fun j σ H3 => ∃ d3, σ = [some (.ref a), some (.ref D), some (.ref r.1), d3] ∧ (∀ c u, c ≠ D → H' c = some u → H3 c = some u) ∧ H3 D = some (.dT (kvsN (addL (G ++ (delsR r.2).take j)))))
        ⟨d3, rfl, (fun c u _ e => e), by rw [List.take_zero, List.append_nil]; exact eD⟩ ?_ ?_
      · rintro j σ H3 hj ⟨d3, rfl, k, e3⟩
        rw [lenR] at hj
        rw [Int.zero_add]
        have er3 := k _ _ hrD er
        refine ⟨.ref D, rfl, .ref r.1, rfl, ?_⟩
        dsimp only [tNoPart]
        refine ⟨_, rfl, _, rfl, slT_take er3 fun H4 p4 s4 e4 => ?_⟩
        refine ⟨.ref r.1, rfl, _, rfl, _, _, rfl, rfl, _, rfl, ?_⟩
        rw [show (((j : Nat) : Int) + 1) = ((j + 1 : Nat) : Int) by omega]
        dsimp only [tNoPart]
        refine slT_drop (s4 _ _ er3) fun H5 p5 s5 e5 => ?_
        refine catT (s5 _ _ e4) e5 (by rw [List.length_take, List.length_drop, lenR]; omega) fun H6 p6 s6 e6 => ?_
        have s46 := (s4.trans s5).trans s6
        refine ⟨D, _, rfl, DPut.t (k := (delR r.2 j).map Sum.inr) (s46 _ _ e3) ?_ ?_, ?_⟩
        · rw [kV_rows, e6]
          unfold delR
          rw [List.map_append, List.map_take, List.map_drop]
        · rw [kvsN_len]
          have h1 := len_addL (G ++ (delsR r.2).take j)
          have h2 := List.length_take_le j (delsR r.2)
          rw [List.length_append] at h1
          exact small (by omega)
        · refine ⟨_, rfl, fun c u hc e => ?_, ?_⟩
          · rw [upd_ne hc]
            exact s46 _ _ (k c u hc e)
          · rw [upd_same, kvs_add, take_of_get (delsR_get hj), ← List.append_assoc, addL_snoc]
      · rintro σ H3 ⟨d3, rfl, k, e3⟩
        rw [lenR, List.take_of_length_le (Nat.le_of_eq (delsR_len _))] at e3
        exact ⟨_, _, rfl, fun c u e => k c u (ne_of_none e nD) (sm _ _ e), e3⟩
    · rintro σ H' ⟨d2, d3, rfl, sm, eD⟩
      rw [adV_len, List.take_of_length_le (Nat.le_of_eq hm)] at eD
      refine ⟨.ref a, rfl, a, rfl, ⟨_, sqL_new (sm _ _ hA)⟩, fun D2 nD2 => ?_⟩
      have s2 := same_new (o := .lst []) nD2
      refine lc_it (walk_list (K := K) (a := a) (xs := adV rs)) (fun i H2 => Same H' H2 ∧ ∃ ts : List Ka.Row, H2 D2 = some (.lst (adV ts)) ∧ ts.map (·.2) = ((rs.map (·.2)).take i).filter (fun x => decide (x ∉ (rs.map (·.2)).flatMap delsR)) ∧ Rows H' ts ∧ ts.length ≤ i)
        ⟨s2, [], upd_same, rfl, (fun r hr => by cases hr), Nat.le_refl _⟩ (fun i H2 _ h2 => sqL_new (h2.1 _ _ (sm _ _ hA))) (fun i z H2 H3 hi h2 y => ?_) (fun H2 h2 => ?_)
      · obtain ⟨rfl, hz2⟩ := y
        obtain ⟨s3, ts, eT, e1, e2, e3⟩ := h2
        obtain ⟨r, hr, rfl⟩ := get_map hz2
        have hil := lt_of_get hr
        have hr2 : (rs.map (·.2))[i]? = some r.2 := by
          rw [List.getElem?_map, hr]
          rfl
        have er := s3 _ _ (sm _ _ (hR r (List.mem_of_getElem? hr)))
        refine ⟨rfl, ?_⟩
        refine ⟨.ref r.1, rfl, .ref D, rfl, D, _, rfl, DGet.t (k := r.2.map Sum.inr) (s3 _ _ eD) (by rw [kV_rows]; exact er), _, rfl, ?_⟩
        have hv : valV (kvsN (addL ((rs.map (·.2)).flatMap delsR))) (r.2.map Sum.inr) = if r.2 ∈ addL ((rs.map (·.2)).flatMap delsR) then some (V.bl true) else none := valV_kvF (fun _ => V.bl true) r.2 _
        rw [hv, take_of_get hr2, List.filter_append]
        by_cases hx : r.2 ∈ (rs.map (·.2)).flatMap delsR
        · rw [if_pos ((mem_addL _).mpr hx)]
          refine iteF ⟨s3, ts, eT, ?_, e2, by omega⟩
          rw [List.filter_cons_of_neg (by simpa using hx)]
          rw [e1]
          exact (List.append_nil _).symm
        · rw [if_neg (fun z => hx ((mem_addL _).mp z))]
          refine iteT ⟨_, rfl, _, eT, by rw [adV_len]; exact small (by omega), fun c u e => ?_, ts ++ [r], ?_, ?_, fun g hg => ?_, ?_⟩
          · rw [upd_ne (ne_of_none e nD2)]
            exact s3 _ _ e
          · rw [upd_same]
            unfold adV
            rw [List.map_append]
            rfl
          · rw [List.map_append, e1, List.filter_cons_of_pos (by simpa using hx)]
            rfl
          · rcases List.mem_append.mp hg with h | h
            · exact e2 g h
            · rw [List.mem_singleton.mp h]
              exact sm _ _ (hR r (List.mem_of_getElem? hr))
          · rw [List.length_append]
            show ts.length + 1 ≤ i + 1
            omega
      · obtain ⟨s3, ts, eT, e1, e2, e3⟩ := h2
        rw [adV_len, List.take_of_length_le (Nat.le_of_eq hm)] at e1
        refine ⟨D2, _, rfl, .inl ⟨sqL_new eT, fun l nl => ?_⟩⟩
        have sl := same_new (o := .tup (adV ts)) nl
        have sA := (sm.trans s3).trans sl
        exact q _ l ts sA ((sm.trans s3).free nl) upd_same e1 fun g hg => sl _ _ (s3 _ _ (e2 g hg))
end
end Kb
/-! min(t, key=len), t a tuple of tuples. -/
namespace Ka
open PySem PySem.Spec PyProof.Rows L2
def lenAt (ls : List (Addr × Nat)) (i : Nat) : Int := match ls[i]? with
  | some p => (p.2 : Int)
  | none => 0
/-- the first shortest -/
def tMinLen (K : PySem.W.Frag) (te : TE) : TE := fun σ H Q => te σ H fun v H1 => ∃ (a : Addr) (ls : List (Addr × Nat)), v = .ref a ∧ SqT K H1 a (ls.map fun p => V.ref p.1) ∧ (∀ p ∈ ls, ∃ ys, SqT K H1 p.1 ys ∧ ys.length = p.2) ∧ 0 < ls.length ∧
  ∀ (i : Nat) (p : Addr × Nat), ls[i]? = some p → (∀ q ∈ ls, p.2 ≤ q.2) → Q (.ref p.1) H1
theorem refs_at : ∀ {ls : List (Addr × Nat)} {its : List Value}, Vals (ls.map fun p => V.ref p.1) its → ∀ (i : Nat) (v : Value), its[i]? = some v → ∃ p, ls[i]? = some p ∧ v = .ref p.1
  | [], _, r, i, v, h => by
    cases r
    cases h
  | p :: ls, _, r, i, v, h => by
    rw [List.map_cons] at r
    cases r with
    | cons r1 r2 =>
      cases i with
      | zero =>
        have e := Option.some.inj h
        subst e
        exact ⟨p, rfl, r1⟩
      | succ i => exact refs_at r2 i v h
theorem pe_minLen {X : Cx} {e : Expr} {te : TE} {p p1 kpos pos : Pos} (hc : X.calm = true) (hg : Gl X "min") (hm : X.mg "min" = none) (hgl : Gl X "len") (hml : X.mg "len" = none) (he : PE X e te)
    (h1 : backTo pos (starEach [e] X.env) = (false, eval e X.env) :: backTo pos (starEach [] X.env) := by rfl) :
    PE X (.Call (.Name "min" p) [e] [⟨some "key", .Name "len" p1, kpos⟩] pos) (tMinLen X.K te) := by
  refine ⟨fun pins s σ H Q I h => ?_⟩
  refine wpAny_Call_Name_kw (ld_blt (u := .builtin "min") I hg hm (by decide +kernel) ?_ (by decide) (by decide))
  refine PyProof.Rows.callWith_kw ?_ h1 (by rw [h1]; rfl) (by rfl) (by rfl)
  rw [h1]
  refine Calls.spliced_cons (thn (he.run pins s σ H _ I h) fun u s1 ⟨v, H1, I1, r1, a, ls, ev, ht, hls, hn, q⟩ => Calls.spliced_nil ?_)
  subst ev
  obtain rfl : u = Value.ref a := r1
  show wpAny _ _ (evalAll [do let v ← eval (.Name "len" p1) X.env; standAt pos; pure v]) _ _ s1
  refine wpAny_evalAll_cons (wpAny_bind (ld_blt (u := .builtin "len") I1 hgl hml PySem.boot_len (wpAny_bind (wpAny_standAt (wpAny_pure (wpAny_evalAll_nil ?_))))))
  obtain ⟨its, rv, hl, hsz⟩ := I1.tuple ht
  have elen : its.length = ls.length := by rw [← rv.length, List.length_map]
  refine call_min_walkKB (PySem.W.iter_tupleW (A := X.A.in1) (I1.ok.hd hc) hl fun s2 e2 W hst hfp hw hk => ?_)
  refine ⟨_, _, _, _, _, _, _, fun s' => ∃ h' tk, s' = { s1 with heap := h', toks := tk } ∧ ∀ b o, s1.heap.get? b = some o → h'.get? b = some o, fun i k _ => ∃ t, k = .int (lenAt ls i) t, fun i j => decide (lenAt ls i < lenAt ls j), rfl, W, hst, hfp, by rw [List.size_toArray, elen]; exact hn, ?_, ⟨s2.heap, s2.toks, by rw [e2], hk⟩, fun v s' hv hJ => ?_⟩
  · have s2n : s1.heap.objs.size < s2.heap.objs.size := hfp _ List.mem_cons_self
    refine ⟨fun s s' hJ hm => ?_, fun _ _ _ _ hV _ => hV, fun i v s o Q' E' hi hp hJ hst hS q' => ?_, fun i j ki kj s Q' E' hJ hi hj q' => ?_⟩
    · obtain ⟨h', tk, rfl, k'⟩ := hJ
      refine ⟨s'.heap, s'.toks, ?_, fun b o eb => hm.heap b o (fun hb => ?_) (k' b o eb)⟩
      · obtain ⟨hp, g, d, tk2, os⟩ := s'
        have h1 : g = s1.gens := hm.gens
        have h2 : d = s1.drawn := hm.drawn
        have h3 : os = s1.os := hm.os
        subst h1
        subst h2
        subst h3
        rfl
      · have lt := Heap.lt_size eb
        rcases List.mem_cons.mp hb with e | hb
        · exact absurd (e ▸ lt) (Nat.not_lt.mpr (Nat.le_of_lt s2n))
        · exact absurd (List.mem_singleton.mp hb ▸ lt) (Nat.lt_irrefl _)
    · obtain ⟨h', tk, rfl, k'⟩ := hJ
      have hp' : its[i]? = some v := by simpa using hp
      obtain ⟨p, hpl, rfl⟩ := refs_at rv i v hp'
      obtain ⟨ys, hy, hyl⟩ := hls p (List.mem_of_getElem? hpl)
      obtain ⟨its2, rv2, pl2, hz2⟩ := (I1.kept (t' := tk) k').tuple hy
      have hlen := rv2.length
      have l63 := line63
      refine len_tuple pl2 (by simp only [List.size_toArray] <;> omega) (q' _ _ ⟨h', _, rfl, k'⟩ hst hS ?_ fun _ _ hV => hV)
      have el : lenAt ls i = ((its2.toArray.size : Nat) : Int) := by
        rw [List.size_toArray, ← hlen, hyl]
        unfold lenAt
        rw [hpl]
      rw [el]
      exact ⟨_, rfl⟩
    · obtain ⟨t1, rfl⟩ := hi
      obtain ⟨t2, rfl⟩ := hj
      exact (PyProof.Rows.lt_int q' : wpAny (model X.prog X.w) X.A.in1 (compareOp .Lt (.int (lenAt ls i) t1) (.int (lenAt ls j) t2)) Q' E' s)
  · obtain ⟨h', tk, rfl, k'⟩ := hJ
    have hb := argBest_lt (fun i => lenAt ls i) (its.toArray.size - 1)
    have hsz2 : its.toArray.size = ls.length := by rw [List.size_toArray, elen]
    generalize argBest (fun i j => decide (lenAt ls i < lenAt ls j)) (its.toArray.size - 1) = m at hv hb
    have hv' : its[m]? = some v := by simpa using hv
    obtain ⟨p, hpl, rfl⟩ := refs_at rv m v hv'
    refine ⟨.ref p.1, H1, I1.kept k', rfl, q m p hpl fun r hr => ?_⟩
    obtain ⟨j, hj⟩ := List.mem_iff_getElem?.mp hr
    have hjl := (List.getElem?_eq_some_iff.mp hj).1
    have := hb.2 j (by omega)
    unfold lenAt at this
    rw [hj, hpl] at this
    dsimp only at this
    omega
end Ka
/-! y = {k: v for ..} on one line. -/
namespace Ka
open PySem PySem.Spec PyProof.Rows L2
theorem sw_dc {kx vx : Expr} {gs : List Comprehension} {scope : Scope} {pos py : Pos} {y : Str} {l : Nat} {env : Env} (hk : env.scope.kind = .function) (hy : env.scope.names.lookup y = some .local) (hl : (py.line == pos.line) = true)
    (ha : (scope.names.any fun (n, k) => n == y && (k == .local || k == .cell)) = false) : swapsWith (.DictComp kx vx gs scope pos) (some (.Name y py)) l env = pure true := by
  have ky : env.kindOf y = some .local := hy
  have hb : env.blockKind = .function := by unfold Env.blockKind; rw [hk]; rfl
  unfold swapsWith
  simp only [hb, ky, ha, Expr.pos, hl]
  rfl
theorem ps_setDc {X : Cx} {i : Nat} {y : Str} {py : Pos} {kx vx tg iter : Expr} {ifs : List Expr} {scope : Scope} {own : List (Str × Nat)} {pos spos : Pos} {wi : TI} {g : TG} {tt : TT} {tk tv : TE} (hc : X.calm = true) (hN : X.N.Nodup) (hy : X.N[i]? = some y) (hyl : X.env.scope.names.lookup y = some .local)
    (hsw : swapsWith (.DictComp kx vx [⟨tg, iter, ifs, 0⟩] scope pos) (some (.Name y py)) spos.line X.env = pure true) (hi : PI X tg iter wi) (ok : BlkOk X.N X.env.scope scope own)
    (hg : ∀ (s : Shared) (H : Hp) (C : Addr) (cl : List (Str × Addr)) (fp : List Addr), PG (X.blk s H scope (compEnvC scope cl C X.env) fp) tg g) (ht : ∀ (s : Shared) (H : Hp) (C : Addr) (cl : List (Str × Addr)) (fp : List Addr), PTs (X.blk s H scope (compEnvC scope cl C X.env) fp) ifs tt)
    (hk : ∀ (s : Shared) (H : Hp) (C : Addr) (cl : List (Str × Addr)) (fp : List Addr), PE (X.blk s H scope (compEnvC scope cl C X.env) fp) kx tk)
    (he : ∀ (s : Shared) (H : Hp) (C : Addr) (cl : List (Str × Addr)) (fp : List Addr), PE (X.blk s H scope (compEnvC scope cl C X.env) fp) vx tv) (hs : ∀ x, foldedSetIterable iter X.env x = pure x := by intro _; rfl) :
    PS X (.Assign [.Name y py] (.DictComp kx vx [⟨tg, iter, ifs, 0⟩] scope pos) spos) (tAsg (tDc wi g tt tk tv (own.map (·.2))) (gName i)) := by
  refine ⟨fun pins s σ H D I h => ?_⟩
  rw [exec_Assign_Name_used _ _ _ _ hsw]
  refine wpAny_bind (wpAny_standAt (wpAny_bind ?_))
  show wpAny _ X.A (do let _ ← comprehension (.DictComp kx vx [⟨tg, iter, ifs, 0⟩] scope pos) scope X.env (firstIterPos [⟨tg, iter, ifs, 0⟩] pos) newDict false (eval iter X.env) (some (assign (.Name y py) X.env))) _ _ s
  have h : tDc wi g tt tk tv (own.map (·.2)) σ H (fun x H1 => gName i x σ H1 D.nx) := h
  refine wpAny_bind (thn (dc_core (Qf := fun _ s' => SP X pins D .next s') hc hN I hi ok hg ht hk he hs h fun L C s' m H' I' q hn f => ?_) fun _ s' hq => wpAny_pure (wpAny_pure hq))
  show wpAny _ _ (assign (.Name y py) X.env (.ref L)) _ _ _
  refine wpAny_assign_Name (store_ok2 (v := V.ref L) I' hN hy (.inl hyl) rfl (fun s2 I2 ⟨a, sb, ha⟩ => ?_) (.inr hyl))
  obtain ⟨f0, f1, f2, f3, f4, f5⟩ := f
  have haC : C ≠ a := by
    rcases ha with z | z
    · rw [z]; exact f1
    · exact fun e => f4 y a z e.symm
  refine ⟨m, hn.sameBut sb haC, fun h3 sb3 => ?_⟩
  exact ⟨_, H', I2.turned (t' := s2.toks) (fun b o hb e => (sb3.2 b hb).trans e) f0 f1 f3 f4 f5, q⟩
end Ka
namespace Kb
open PySem PySem.Spec PyProof.Rows L2
/-! ### what is kept -/
theorem ahead_of {xs : List (List Str)} (hs : xs.Pairwise fun a b => Ka.rowLe a b = true) (hp : ∀ x ∈ xs, x.dropLast ∈ xs) : Ahead xs := fun i x hx hne => by
  obtain ⟨j, hj⟩ := List.mem_iff_getElem?.mp (hp x (List.mem_of_getElem? hx))
  have hl : x.dropLast.length < x.length := by
    rw [List.length_dropLast]
    have := List.length_pos_iff.mpr hne
    omega
  have hji : j < i := by
    apply Decidable.byContradiction
    intro h
    rcases Nat.lt_or_eq_of_le (Nat.le_of_not_lt h) with h | h
    · obtain ⟨h1, h1'⟩ := List.getElem?_eq_some_iff.mp hx
      obtain ⟨h2, h2'⟩ := List.getElem?_eq_some_iff.mp hj
      have := List.pairwise_iff_getElem.mp hs i j h1 h2 h
      rw [h1', h2', le_len hl] at this
      cases this
    · subst h
      rw [hx] at hj
      have := congrArg List.length (Option.some.inj hj)
      omega
  exact List.mem_of_getElem? (i := j) (by rw [List.getElem?_take_of_lt hji]; exact hj)
/-- what is kept of the rows within the shortest one: those within all of l -/
structure Kept (s : List Str) (l : List (List Str)) (xs : List (List Str)) : Prop where
  mem : ∀ x, x ∈ xs ↔ x.Sublist s ∧ ∀ r ∈ l, x.Sublist r
  nd : xs.Nodup
  so : xs.Pairwise fun a b => Ka.rowLe a b = true
theorem Kept.ahead {s : List Str} {l xs : List (List Str)} (h : Kept s l xs) : Ahead xs := ahead_of h.so fun x hx => (h.mem _).mpr ⟨(List.dropLast_sublist x).trans ((h.mem _).mp hx).1, fun r hr => (List.dropLast_sublist x).trans (((h.mem _).mp hx).2 r hr)⟩
theorem kept_0 (s : List Str) : Kept s [] ((subsR s).mergeSort Ka.rowLe) where
  mem x := by rw [(List.mergeSort_perm _ _).mem_iff, mem_subsR]; exact ⟨fun h => ⟨h, fun r hr => by cases hr⟩, fun h => h.1⟩
  nd := (List.mergeSort_perm _ _).nodup_iff.mpr (nd_subsR s)
  so := PySem.W.sort_pairwise le_total _
theorem Kept.snoc {s : List Str} {l xs : List (List Str)} (h : Kept s l xs) (r : List Str) : Kept s (l ++ [r]) ([] :: xs.filter (wOk r)) where
  mem x := by
    have e : x ∈ [] :: xs.filter (wOk r) ↔ x ∈ xs ∧ x.Sublist r := by
      rw [List.mem_cons, List.mem_filter]
      unfold wOk
      rw [Bool.and_eq_true, run_spec]
      constructor
      · rintro (rfl | ⟨h1, h2, h3⟩)
        · exact ⟨(h.mem _).mpr ⟨List.nil_sublist _, fun r _ => List.nil_sublist _⟩, List.nil_sublist _⟩
        · exact ⟨h1, h3⟩
      · rintro ⟨h1, h2⟩
        cases x with
        | nil => exact .inl rfl
        | cons a x => exact .inr ⟨h1, rfl, h2⟩
    rw [e, h.mem]
    constructor
    · rintro ⟨⟨h1, h2⟩, h3⟩
      refine ⟨h1, fun t ht => ?_⟩
      rcases List.mem_append.mp ht with ht | ht
      · exact h2 t ht
      · rw [List.mem_singleton.mp ht]
        exact h3
    · rintro ⟨h1, h2⟩
      exact ⟨⟨h1, fun t ht => h2 t (List.mem_append_left _ ht)⟩, h2 r (List.mem_append_right _ List.mem_cons_self)⟩
  nd := by
    refine List.nodup_cons.mpr ⟨fun z => ?_, h.nd.filter _⟩
    have := (List.mem_filter.mp z).2
    cases this
  so := by
    refine List.pairwise_cons.mpr ⟨fun x hx => ?_, h.so.filter _⟩
    have hx := (List.mem_filter.mp hx).2
    rcases le_total.total [] x with z | z
    · exact z
    · cases x with
      | nil => exact z
      | cons a x =>
        rw [le_len (by show 0 < x.length + 1; omega)] at z
        cases z
theorem Kept.same {s : List Str} {l xs : List (List Str)} (h : Kept s l xs) : Kept s (l ++ [s]) xs where
  mem x := by
    rw [h.mem]
    refine ⟨fun z => ⟨z.1, fun t ht => ?_⟩, fun z => ⟨z.1, fun t ht => z.2 t (List.mem_append_left _ ht)⟩⟩
    rcases List.mem_append.mp ht with ht | ht
    · exact z.2 t ht
    · rw [List.mem_singleton.mp ht]
      exact z.1
  nd := h.nd
  so := h.so
end Kb
namespace Kb
open PySem PySem.Spec PyProof.Rows L2
/-! ### the error Refused -/
section
variable {P : Program} {w : World} {K : PySem.W.Frag} {mg : Str → Option Value} {base : Heap}
/-- what the written part says of the class -/
structure RefC (K : PySem.W.Frag) (mg : Str → Option Value) (C fI : Addr) (fd : FuncData) : Prop where
  oex : OexC K C
  iC : PySem.W.findIn K (.ref C) "__init__" = some (some (.ref fI))
  tI : PySem.W.typeIn K (.ref fI) = some (.type "function")
  no : PySem.W.findIn K (.ref C) "word" = some none
  gC : mg "Refused" = some (.ref C)
  F : Fun K "__init__" "Refused.__init__" sRefInit fI fd
  b : Binds K fd ["self", "word"] []
theorem scRInit : FnScope ["self", "word"] ["self", "word"] (defScope sRefInit) := ⟨rfl, rfl, rfl, by decide +kernel, rfl, by decide +kernel, by decide +kernel⟩
def spRInit (C : Addr) : Sp := fun vs H Q _ => ∃ (a : Addr) (v : V), vs = [.ref a, v] ∧ H a = some (exo a C none) ∧ ∀ dx, H dx = none → dx ≠ a → Q .non (upd (upd H dx (exd dx [("word", v)])) a (exo a C (some dx)))
theorem ok_rinit {C f : Addr} {fd : FuncData} (R : RefC K mg C f fd) : FnOk P w K mg base CX0 1 f fd ["self", "word"] (spRInit C) := by
  refine R.F.ok scRInit (fun vs H Q E h => ?_) (fun cdv A outer s H vs Q E hr h => ?_)
  · obtain ⟨a, v, rfl, _⟩ := h
    rfl
  · obtain ⟨a, v, rfl, e, q⟩ := h
    refine ⟨_, pss_one (ps_ost (pv 0) (pv 1)), ?_⟩
    exact ⟨v, rfl, .ref a, rfl, a, C, rfl, R.oex, R.no, .inl ⟨e, fun dx n1 n2 => q dx n1 n2⟩⟩
/-- the error Refused(z) -/
def RefuseW (C : Addr) (E : XK) (H : Hp) (z : Str) : Prop := ∀ H' d, Same H H' → H d = none → H' d = some (.xd [("word", .str z)]) → E (.ref C) (some d) H'
theorem RefuseW.mono {C : Addr} {E : XK} {H H1 : Hp} {z : Str} (h : RefuseW C E H z) (s : Same H H1) : RefuseW C E H1 z := fun H' d s2 nd e => h H' d (s.trans s2) (s.free nd) e
theorem refuseW_mk {C : Addr} {E : XK} {H : Hp} {z : Str} (h : RefuseW C E H z) : [V.str z].length ≤ 1000 ∧ ∀ a, H a = none → spRInit C (.ref a :: ([.str z] ++ [])) (upd H a (exo a C none))
    (fun v H2 => v = .non ∧ ∃ (d : Addr) (fs : List (Str × V)), H2 a = some (exo a C (some d)) ∧ H2 d = some (exd d fs) ∧ H d = none ∧ E (.ref C) (some d) (upd (del H2 a) d (.xd fs))) (fun _ _ _ => False) := by
  refine ⟨by show 1 ≤ 1000; decide, fun a na => ⟨a, .str z, rfl, upd_same, fun dx n1 n2 => ?_⟩⟩
  have n1' : H dx = none := by
    rw [upd_ne n2] at n1
    exact n1
  refine ⟨rfl, dx, [("word", .str z)], upd_same, ?_, n1', h _ dx (fun c o e => ?_) n1' upd_same⟩
  · rw [upd_ne n2, upd_same]
  · have ca : c ≠ a := ne_of_none e na
    have cd : c ≠ dx := ne_of_none e n1'
    rw [upd_ne cd, del_ne ca, upd_ne ca, upd_ne cd, upd_ne ca]
    exact e
end
/-! ### the greatest common rows -/
/-- all rows within all of some rows -/
def commR (l : List (List Str)) : List (List Str) := match l with
  | [] => []
  | s :: l => ((subsR s).mergeSort Ka.rowLe).filter fun x => l.all fun r => sub x r
theorem commR_mem {s : List Str} {l : List (List Str)} {x : List Str} : x ∈ commR (s :: l) ↔ ∀ r ∈ s :: l, x.Sublist r := by
  unfold commR
  rw [List.mem_filter, (List.mergeSort_perm _ _).mem_iff, mem_subsR, List.all_eq_true]
  constructor
  · rintro ⟨h1, h2⟩ r hr
    rcases List.mem_cons.mp hr with rfl | hr
    · exact h1
    · exact sub_iff.mp (h2 r hr)
  · intro h
    exact ⟨h s List.mem_cons_self, fun r hr => sub_iff.mpr (h r (List.mem_cons_of_mem _ hr))⟩
theorem comm_nd (l : List (List Str)) : (commR l).Nodup := by
  cases l with
  | nil => exact List.nodup_nil
  | cons s l => exact ((List.mergeSort_perm _ _).nodup_iff.mpr (nd_subsR s)).filter _
theorem comm_so (l : List (List Str)) : (commR l).Pairwise fun a b => Ka.rowLe a b = true := by
  cases l with
  | nil => exact List.Pairwise.nil
  | cons s l => exact (PySem.W.sort_pairwise le_total _).filter _
/-- two ordered lists of the same rows are one -/
theorem so_eq : ∀ {xs ys : List (List Str)}, xs.Nodup → ys.Nodup → xs.Pairwise (fun a b => Ka.rowLe a b = true) → ys.Pairwise (fun a b => Ka.rowLe a b = true) → (∀ x, x ∈ xs ↔ x ∈ ys) → xs = ys
  | [], [], _, _, _, _, _ => rfl
  | [], y :: ys, _, _, _, _, h => absurd ((h y).mpr List.mem_cons_self) (by simp)
  | x :: xs, [], _, _, _, _, h => absurd ((h x).mp List.mem_cons_self) (by simp)
  | x :: xs, y :: ys, n1, n2, s1, s2, h => by
    have n1' := List.nodup_cons.mp n1
    have n2' := List.nodup_cons.mp n2
    have s1' := List.pairwise_cons.mp s1
    have s2' := List.pairwise_cons.mp s2
    have e : x = y := by
      rcases List.mem_cons.mp ((h x).mp List.mem_cons_self) with e | hx
      · exact e
      · rcases List.mem_cons.mp ((h y).mpr List.mem_cons_self) with e | hy
        · exact e.symm
        · exact le_anti (s1'.1 y hy) (s2'.1 x hx)
    subst e
    congr 1
    refine so_eq n1'.2 n2'.2 s1'.2 s2'.2 fun z => ?_
    constructor
    · intro hz
      rcases List.mem_cons.mp ((h z).mp (List.mem_cons_of_mem _ hz)) with e | h2
      · exact absurd (e ▸ hz) n1'.1
      · exact h2
    · intro hz
      rcases List.mem_cons.mp ((h z).mpr (List.mem_cons_of_mem _ hz)) with e | h2
      · exact absurd (e ▸ hz) n2'.1
      · exact h2
/-- the greatest of the common rows -/
def comA (l : List (List Str)) : List (List Str) := topR1 (commR l)
theorem comm_congr {l m : List (List Str)} (h0 : l ≠ []) (h1 : m ≠ []) (h : ∀ r, r ∈ l ↔ r ∈ m) : commR l = commR m := by
  cases l with
  | nil => exact absurd rfl h0
  | cons s l =>
    cases m with
    | nil => exact absurd rfl h1
    | cons t m =>
      refine so_eq (comm_nd _) (comm_nd _) (comm_so _) (comm_so _) fun x => ?_
      rw [commR_mem, commR_mem]
      exact ⟨fun z r hr => z r ((h r).mpr hr), fun z r hr => z r ((h r).mp hr)⟩
theorem comA_congr {l m : List (List Str)} (h0 : l ≠ []) (h1 : m ≠ []) (h : ∀ r, r ∈ l ↔ r ∈ m) : comA l = comA m := by
  unfold comA
  rw [comm_congr h0 h1 h]
/-- what is kept in the end -/
theorem kept_comm {s : List Str} {l m xs : List (List Str)} (h : Kept s l xs) (hl : ∀ r, r ∈ l ↔ r ∈ m) (hs : s ∈ m) : xs = commR m := by
  cases m with
  | nil => cases hs
  | cons t m =>
    refine so_eq h.nd (comm_nd _) h.so (comm_so _) fun x => ?_
    rw [h.mem, commR_mem]
    exact ⟨fun z r hr => z.2 r ((hl r).mpr hr), fun z => ⟨z s hs, fun r hr => z r ((hl r).mp hr)⟩⟩
/-! ### rows without one deed -/
theorem delR_sub (y : List Str) (k : Nat) : (delR y k).Sublist y := by
  have h : y.take k ++ y.drop k = y := List.take_append_drop k y
  unfold delR
  refine (List.Sublist.append (List.Sublist.refl (y.take k)) ?_).trans (by rw [h]; exact List.Sublist.refl y)
  rw [show k + 1 = k + 1 from rfl, ← List.drop_drop]
  exact List.drop_sublist 1 _
theorem delR_len {y : List Str} {k : Nat} (h : k < y.length) : (delR y k).length + 1 = y.length := by
  unfold delR
  rw [List.length_append, List.length_take, List.length_drop]
  omega
theorem sub_del : ∀ {x y : List Str}, x.Sublist y → x ≠ y → ∃ k, k < y.length ∧ x.Sublist (delR y k)
  | _, _, .slnil, h => absurd rfl h
  | _, _, .cons a h, _ => ⟨0, Nat.succ_pos _, h⟩
  | _, _, .cons₂ (l₁ := x) (l₂ := y) a h, hne => by
    have hne' : x ≠ y := fun e => hne (by rw [e])
    obtain ⟨k, hk, h2⟩ := sub_del h hne'
    refine ⟨k + 1, Nat.succ_lt_succ hk, ?_⟩
    show (a :: x).Sublist ((a :: y).take (k + 1) ++ (a :: y).drop (k + 1 + 1))
    rw [List.take_succ_cons, List.drop_succ_cons, List.cons_append]
    exact h2.cons₂ a
theorem up_one {X : List (List Str)} (hX : ∀ x y : List Str, y ∈ X → x.Sublist y → x ∈ X) (x : List Str) : ∀ (n : Nat) (y : List Str), y.length ≤ n → y ∈ X → x.Sublist y → x ≠ y → x ∈ X.flatMap delsR
  | 0, y, hn, _, hs, hne => by
    have : y = [] := List.eq_nil_of_length_eq_zero (by omega)
    subst this
    exact absurd (List.sublist_nil.mp hs) hne
  | n + 1, y, hn, hy, hs, hne => by
    obtain ⟨k, hk, hd⟩ := sub_del hs hne
    by_cases e : x = delR y k
    · refine List.mem_flatMap.mpr ⟨y, hy, ?_⟩
      unfold delsR
      exact List.mem_map.mpr ⟨k, List.mem_range.mpr hk, e.symm⟩
    · have := delR_len hk
      exact up_one hX x n (delR y k) (by omega) (hX _ _ hy (delR_sub y k)) hd e
/-- of rows with all that lie within them: those that lie within no other one -/
theorem topR1_great {X : List (List Str)} (hX : ∀ x y : List Str, y ∈ X → x.Sublist y → x ∈ X) {x : List Str} : x ∈ topR1 X ↔ x ∈ X ∧ ∀ y ∈ X, x.Sublist y → x = y := by
  unfold topR1
  rw [List.mem_filter, decide_eq_true_eq]
  constructor
  · rintro ⟨h1, h2⟩
    exact ⟨h1, fun y hy hs => Decidable.byContradiction fun hne => h2 (up_one hX x _ y (Nat.le_refl _) hy hs hne)⟩
  · rintro ⟨h1, h2⟩
    refine ⟨h1, fun z => ?_⟩
    obtain ⟨y, hy, hw⟩ := List.mem_flatMap.mp z
    unfold delsR at hw
    obtain ⟨k, hk, rfl⟩ := List.mem_map.mp hw
    have hk := List.mem_range.mp hk
    have e := h2 y hy (delR_sub y k)
    have := delR_len hk
    rw [e] at this
    omega
theorem comm_down {l : List (List Str)} (x y : List Str) (hy : y ∈ commR l) (h : x.Sublist y) : x ∈ commR l := by
  cases l with
  | nil => cases hy
  | cons s l => exact commR_mem.mpr fun r hr => h.trans (commR_mem.mp hy r hr)
theorem comA_mem {s : List Str} {l : List (List Str)} {x : List Str} : x ∈ comA (s :: l) ↔ (∀ r ∈ s :: l, x.Sublist r) ∧ ∀ y : List Str, (∀ r ∈ s :: l, y.Sublist r) → x.Sublist y → x = y := by
  unfold comA
  rw [topR1_great comm_down, commR_mem]
  exact ⟨fun ⟨a, b⟩ => ⟨a, fun y hy => b y (commR_mem.mpr hy)⟩, fun ⟨a, b⟩ => ⟨a, fun y hy => b y (commR_mem.mp hy)⟩⟩
theorem comA_so (l : List (List Str)) : (comA l).Pairwise fun a b => Ka.rowLe a b = true := (comm_so l).filter _
theorem comA_nd (l : List (List Str)) : (comA l).Nodup := (comm_nd l).filter _
/-- these rows and no others, in order: the told ones -/
theorem comA_is {s : List Str} {l xs : List (List Str)} (n : xs.Nodup) (so : xs.Pairwise fun a b => Ka.rowLe a b = true) (h : ∀ x, x ∈ xs ↔ (∀ r ∈ s :: l, x.Sublist r) ∧ ∀ y : List Str, (∀ r ∈ s :: l, y.Sublist r) → x.Sublist y → x = y) : comA (s :: l) = xs :=
  so_eq (comA_nd _) n (comA_so _) so fun x => by rw [comA_mem, h]
/-- each common row lies within a told one -/
theorem up_top {X : List (List Str)} (hl : ∃ m, ∀ y ∈ X, y.length ≤ m) {x : List Str} (hx : x ∈ X) (hX : ∀ x y : List Str, y ∈ X → x.Sublist y → x ∈ X) : ∃ y ∈ topR1 X, x.Sublist y := by
  obtain ⟨m, hm⟩ := hl
  suffices h : ∀ (n : Nat) (x : List Str), x ∈ X → m ≤ x.length + n → ∃ y ∈ topR1 X, x.Sublist y from h m x hx (by omega)
  intro n
  induction n with
  | zero =>
    intro x hx h
    refine ⟨x, (topR1_great hX).mpr ⟨hx, fun y hy hs => ?_⟩, List.Sublist.refl _⟩
    have := hm y hy
    exact hs.eq_of_length_le (by omega)
  | succ n ih =>
    intro x hx h
    by_cases e : ∃ y ∈ X, x.Sublist y ∧ x ≠ y
    · obtain ⟨y, hy, hs, hne⟩ := e
      have h1 : x.length < y.length := by
        rcases Nat.lt_or_eq_of_le hs.length_le with h1 | h1
        · exact h1
        · exact absurd (hs.eq_of_length h1) hne
      obtain ⟨z, hz, hyz⟩ := ih y hy (by omega)
      exact ⟨z, hz, hs.trans hyz⟩
    · exact ⟨x, (topR1_great hX).mpr ⟨hx, fun y hy hs => Decidable.byContradiction fun hne => e ⟨y, hy, hs, hne⟩⟩, List.Sublist.refl _⟩
theorem comA_some {s : List Str} {l : List (List Str)} {x : List Str} (h : ∀ r ∈ s :: l, x.Sublist r) : ∃ y ∈ comA (s :: l), x.Sublist y :=
  up_top (X := commR (s :: l)) ⟨s.length, fun y hy => (commR_mem.mp hy s List.mem_cons_self).length_le⟩ (commR_mem.mpr h) comm_down
end Kb
/-! min(l, key=len), l a list of tuples; a reading of two kinds. -/
namespace Ka
open PySem PySem.Spec PyProof.Rows L2
theorem pe_orE {X : Cx} {e : Expr} {t1 t2 : TE} (h1 : PE X e t1) (h2 : PE X e t2) : PE X e (fun σ H Q => t1 σ H Q ∨ t2 σ H Q) :=
  ⟨fun pins s σ H Q I h => h.elim (fun h => h1.run pins s σ H Q I h) (fun h => h2.run pins s σ H Q I h)⟩
/-- the first shortest, of a list -/
def tMinLenL (K : PySem.W.Frag) (te : TE) : TE := fun σ H Q => te σ H fun v H1 => ∃ (a : Addr) (ls : List (Addr × Nat)), v = .ref a ∧ SqL K H1 a (ls.map fun p => V.ref p.1) ∧ (∀ p ∈ ls, ∃ ys, SqT K H1 p.1 ys ∧ ys.length = p.2) ∧ 0 < ls.length ∧
  ∀ (i : Nat) (p : Addr × Nat), ls[i]? = some p → (∀ q ∈ ls, p.2 ≤ q.2) → Q (.ref p.1) H1
theorem pe_minLenL {X : Cx} {e : Expr} {te : TE} {p p1 kpos pos : Pos} (hc : X.calm = true) (hg : Gl X "min") (hm : X.mg "min" = none) (hgl : Gl X "len") (hml : X.mg "len" = none) (he : PE X e te)
    (h1 : backTo pos (starEach [e] X.env) = (false, eval e X.env) :: backTo pos (starEach [] X.env) := by rfl) :
    PE X (.Call (.Name "min" p) [e] [⟨some "key", .Name "len" p1, kpos⟩] pos) (tMinLenL X.K te) := by
  refine ⟨fun pins s σ H Q I h => ?_⟩
  refine wpAny_Call_Name_kw (ld_blt (u := .builtin "min") I hg hm (by decide +kernel) ?_ (by decide) (by decide))
  refine PyProof.Rows.callWith_kw ?_ h1 (by rw [h1]; rfl) (by rfl) (by rfl)
  rw [h1]
  refine Calls.spliced_cons (thn (he.run pins s σ H _ I h) fun u s1 ⟨v, H1, I1, r1, a, ls, ev, ht, hls, hn, q⟩ => Calls.spliced_nil ?_)
  subst ev
  obtain rfl : u = Value.ref a := r1
  show wpAny _ _ (evalAll [do let v ← eval (.Name "len" p1) X.env; standAt pos; pure v]) _ _ s1
  refine wpAny_evalAll_cons (wpAny_bind (ld_blt (u := .builtin "len") I1 hgl hml PySem.boot_len (wpAny_bind (wpAny_standAt (wpAny_pure (wpAny_evalAll_nil ?_))))))
  obtain ⟨its, rv, hl, hsz⟩ := I1.list ht
  have elen : its.length = ls.length := by rw [← rv.length, List.length_map]
  refine call_min_walkKB (PySem.W.iter_listW (A := X.A.in1) (I1.ok.hd hc) hl.isList fun s2 e2 W hst hfp hw hk => ?_)
  refine ⟨_, _, _, _, _, _, _, fun s' => ∃ h' tk, s' = { s1 with heap := h', toks := tk } ∧ ∀ b o, s1.heap.get? b = some o → h'.get? b = some o, fun i k _ => ∃ t, k = .int (lenAt ls i) t, fun i j => decide (lenAt ls i < lenAt ls j), rfl, W, hst, hfp, by rw [List.size_toArray, elen]; exact hn, ?_, ⟨s2.heap, s2.toks, by rw [e2], hk⟩, fun v s' hv hJ => ?_⟩
  · have s2n : s1.heap.objs.size < s2.heap.objs.size := hfp _ List.mem_cons_self
    refine ⟨fun s s' hJ hm => ?_, fun _ _ _ _ hV _ => hV, fun i v s o Q' E' hi hp hJ hst hS q' => ?_, fun i j ki kj s Q' E' hJ hi hj q' => ?_⟩
    · obtain ⟨h', tk, rfl, k'⟩ := hJ
      refine ⟨s'.heap, s'.toks, ?_, fun b o eb => hm.heap b o (fun hb => ?_) (k' b o eb)⟩
      · obtain ⟨hp, g, d, tk2, os⟩ := s'
        have h1 : g = s1.gens := hm.gens
        have h2 : d = s1.drawn := hm.drawn
        have h3 : os = s1.os := hm.os
        subst h1
        subst h2
        subst h3
        rfl
      · have lt := Heap.lt_size eb
        rcases List.mem_cons.mp hb with e | hb
        · exact absurd (e ▸ lt) (Nat.not_lt.mpr (Nat.le_of_lt s2n))
        · exact absurd (List.mem_singleton.mp hb ▸ lt) (Nat.lt_irrefl _)
    · obtain ⟨h', tk, rfl, k'⟩ := hJ
      have hp' : its[i]? = some v := by simpa using hp
      obtain ⟨p, hpl, rfl⟩ := refs_at rv i v hp'
      obtain ⟨ys, hy, hyl⟩ := hls p (List.mem_of_getElem? hpl)
      obtain ⟨its2, rv2, pl2, hz2⟩ := (I1.kept (t' := tk) k').tuple hy
      have hlen := rv2.length
      have l63 := line63
      refine len_tuple pl2 (by simp only [List.size_toArray] <;> omega) (q' _ _ ⟨h', _, rfl, k'⟩ hst hS ?_ fun _ _ hV => hV)
      have el : lenAt ls i = ((its2.toArray.size : Nat) : Int) := by
        rw [List.size_toArray, ← hlen, hyl]
        unfold lenAt
        rw [hpl]
      rw [el]
      exact ⟨_, rfl⟩
    · obtain ⟨t1, rfl⟩ := hi
      obtain ⟨t2, rfl⟩ := hj
      exact (PyProof.Rows.lt_int q' : wpAny (model X.prog X.w) X.A.in1 (compareOp .Lt (.int (lenAt ls i) t1) (.int (lenAt ls j) t2)) Q' E' s)
  · obtain ⟨h', tk, rfl, k'⟩ := hJ
    have hb := argBest_lt (fun i => lenAt ls i) (its.toArray.size - 1)
    have hsz2 : its.toArray.size = ls.length := by rw [List.size_toArray, elen]
    generalize argBest (fun i j => decide (lenAt ls i < lenAt ls j)) (its.toArray.size - 1) = m at hv hb
    have hv' : its[m]? = some v := by simpa using hv
    obtain ⟨p, hpl, rfl⟩ := refs_at rv m v hv'
    refine ⟨.ref p.1, H1, I1.kept k', rfl, q m p hpl fun r hr => ?_⟩
    obtain ⟨j, hj⟩ := List.mem_iff_getElem?.mp hr
    have hjl := (List.getElem?_eq_some_iff.mp hj).1
    have := hb.2 j (by omega)
    unfold lenAt at this
    rw [hj, hpl] at this
    dsimp only at this
    omega
end Ka
namespace Kb
open PySem PySem.Spec PyProof.Rows L2
theorem Same.sqL {K : PySem.W.Frag} {H H' : Hp} {a : Addr} {xs : List V} (e : Same H H') (h : SqL K H a xs) : SqL K H' a xs := by
  rcases h with (h | ⟨o, h⟩) | h
  · exact .inl (.inl (e _ _ h))
  · exact .inl (.inr ⟨o, e _ _ h⟩)
  · exact .inr h
theorem Same.sqA {K : PySem.W.Frag} {H H' : Hp} {a : Addr} {xs : List V} (e : Same H H') (h : SqL K H a xs ∨ SqT K H a xs) : SqL K H' a xs ∨ SqT K H' a xs := h.elim (fun h => .inl (Same.sqL e h)) (fun h => .inr (Same.sqT e h))
theorem minL_or {K : PySem.W.Frag} {σ : L2.St} {H : Hp} {Q : VK} {i : Nat} {a : Addr} (ls : List (Addr × Nat)) (h0 : σ[i]? = some (some (V.ref a))) (hA : SqL K H a (ls.map fun p => V.ref p.1) ∨ SqT K H a (ls.map fun p => V.ref p.1)) (h1 : ∀ p ∈ ls, ∃ ys, SqT K H p.1 ys ∧ ys.length = p.2) (h2 : 0 < ls.length)
    (q : ∀ (i : Nat) (p : Addr × Nat), ls[i]? = some p → (∀ q ∈ ls, p.2 ≤ q.2) → Q (.ref p.1) H) : Ka.tMinLenL K (tVar i) σ H Q ∨ Ka.tMinLen K (tVar i) σ H Q := by
  rcases hA with hA | hA
  · exact .inl ⟨.ref a, h0, a, ls, rfl, hA, h1, h2, q⟩
  · exact .inr ⟨.ref a, h0, a, ls, rfl, hA, h1, h2, q⟩
section
variable {P : Program} {w : World} {K : PySem.W.Frag} {mg : Str → Option Value} {base : Heap}
theorem scAll : FnScope ["rows", "shortest", "kept", "deeds", "row", "deed"] ["rows"] (defScope sCommonAll) := ⟨rfl, rfl, rfl, by decide +kernel, rfl, by decide +kernel, by decide +kernel⟩
def spAll (K : PySem.W.Frag) (C : Addr) : Sp := fun vs H Q E => ∃ (a : Addr) (rs : List Ka.Row), vs = [.ref a] ∧ (SqL K H a (adV rs) ∨ SqT K H a (adV rs)) ∧ Rows H rs ∧ 0 < rs.length ∧ rs.length ≤ 100 ∧ (∀ r ∈ rs, r.2.length ≤ 400 ∧ ∀ z ∈ r.2, isName z = true) ∧
  ((∀ r ∈ rs, 12 < r.2.length) → RefuseW C E H "long") ∧
  ((∃ r ∈ rs, r.2.length ≤ 12) → ∀ (H' : Hp) (p : Addr) (ts : List Ka.Row), Same H H' → H p = none → H' p = some (.tup (adV ts)) → ts.map (·.2) = comA (rs.map (·.2)) → Rows H' ts → ts.length ≤ 5000 → Q (.ref p) H')
theorem ok_all {f fI fO fR fT fP fG : Addr} {fd fdI fdO fdR fdT fdP fdG : FuncData} {t12 : Nat} {C fE : Addr} {fdE : FuncData} (R : RefC K mg C fE fdE) (F : Fun K "common_all" "common_all" sCommonAll f fd) (FI : Fun K "in_order" "in_order" sInOrder fI fdI) (bI : Binds K fdI ["rows"] []) (gI : mg "in_order" = some (.ref fI)) (FO : Fun K "row_order" "row_order" sOrder fO fdO) (gO : mg "row_order" = some (.ref fO))
    (FR : Fun K "rows_within" "rows_within" sRowsWithin fR fdR) (bR : Binds K fdR ["row"] []) (gR : mg "rows_within" = some (.ref fR)) (FT : Fun K "those_within" "those_within" sThose fT fdT) (bT : Binds K fdT ["rows", "behind"] []) (gT : mg "those_within" = some (.ref fT))
    (FP : Fun K "places_behind" "places_behind" sPlaces fP fdP) (bP : Binds K fdP ["row", "deeds"] []) (gP : mg "places_behind" = some (.ref fP)) (FG : Fun K "greatest_of_all" "greatest_of_all" sGreatAll fG fdG) (bG : Binds K fdG ["rows"] []) (gG : mg "greatest_of_all" = some (.ref fG))
    (g12 : mg "LONGEST_COMMON" = some (.int 12 t12)) (N : Nones mg) (md : mg "dict" = none) : FnOk P w K mg base (L2.CX P w) 3 f fd ["rows"] (spAll K C) := by
  have GE : FnOk P w K mg base CX0 1 fE fdE ["self", "word"] (spRInit C) := ok_rinit R
  have GI : FnOk P w K mg base CX0 1 fI fdI ["rows"] (spInO K) := ok_inO FI FO gO N.len N.tuple N.sorted
  have GR : FnOk P w K mg base CX0 1 fR fdR ["row"] (spRowsW K) := ok_rowsW FR FO gO N
  have GT : FnOk P w K mg base CX0 1 fT fdT ["rows", "behind"] (spThose K) := ok_those FT N
  have GP : FnOk P w K mg base CX0 1 fP fdP ["row", "deeds"] (spPlaces K) := ok_places FP N md
  have GG : FnOk P w K mg base CX0 1 fG fdG ["rows"] (spGreatA K) := ok_greatA FG N
  refine F.okX scAll (fun vs H Q E h => ?_) (fun cdv A outer s H vs Q E hr h => ?_)
  · obtain ⟨a, rs, rfl, _⟩ := h
    rfl
  · obtain ⟨a, rs, rfl, hA, hR, h0, hz, hN, hlong, q⟩ := h
    have hr1 := hr.mono (show 1 ≤ 2 by decide)
    refine ⟨_, pss_cons (ps_set (i := 1) scAll.nd rfl (.inl rfl) (Ka.pe_orE (Ka.pe_minLenL rfl (by rfl) N.min (by rfl) N.len (pv 0)) (Ka.pe_minLen rfl (by rfl) N.min (by rfl) N.len (pv 0))))
      (pss_cons (ps_if (pt_cmpR op_gt (pe_callB call_len_seq (by rfl) N.len PySem.boot_len (pa_cons (pv 1) pa_nil)) (pe_glob (v := .int 12) rfl g12 ⟨_, rfl⟩) (nomark _)) (pss_one (ps_raise rfl (takes_of rfl rfl rfl rfl) (pmk_oex R.oex R.iC R.tI GE hr R.b .nil pass0 (by rfl) R.gC (pa_cons pe_str pa_nil)))) pss_nil)
      (pss_cons (ps_set (i := 2) scAll.nd rfl (.inl rfl) (pe_call GR hr1 (by rfl) gR FR.kp bR .nil pass0 (pa_cons (pv 1) pa_nil)))
      (pss_cons (Ka.ps_setDc (i := 3) (own := [("deed", 5)]) (g := gName 5) (tt := tYes) rfl scAll.nd rfl rfl (Ka.sw_dc rfl rfl rfl (by decide +kernel)) (pi_tup (pv 1)) (blkOk_by (own := [("deed", 5)]) (N := ["rows", "shortest", "kept", "deeds", "row", "deed"]) (sc := defScope sCommonAll) (by decide +kernel)) (fun _ _ _ _ _ => pg_name (i := 5) scAll.nd rfl (Or.inl rfl)) (fun _ _ _ _ _ => pts_nil) (fun _ _ _ _ _ => pv 5) (fun _ _ _ _ _ => pe_bl))
      (pss_cons (ps_for (passes_of rfl) rfl (pi_tup (pe_call GI hr1 (by rfl) gI FI.kp bI .nil pass0 (pa_cons (pv 0) pa_nil))) (pg_name (i := 4) scAll.nd rfl (.inl rfl))
        (pss_one (ps_if (pt_cmpR (op_neD hr.units) (pv 4) (pv 1) (nomark _))
          (pss_one (ps_set (i := 2) scAll.nd rfl (.inl rfl) (pe_call GT hr1 (by rfl) gT FT.kp bT .nil pass0 (pa_cons (pv 2) (pa_cons (pe_call GP hr1 (by rfl) gP FP.kp bP .nil pass0 (pa_cons (pv 4) (pa_cons (pv 3) pa_nil))) pa_nil))))) pss_nil)))
      (pss_one (ps_ret (pe_call GG hr1 (by rfl) gG FG.kp bG .nil pass0 (pa_cons (pv 2) pa_nil)))))))), ?_⟩
    refine minL_or (rs.map (fun r => (r.1, r.2.length))) rfl ?_ (fun p hp => ?_) (by rw [List.length_map]; exact h0) (fun i p hp hmin => ?_)
    · rw [List.map_map]
      exact hA
    · obtain ⟨r, hr, rfl⟩ := List.mem_map.mp hp
      exact ⟨_, sqT_new (hR r hr), List.length_map _⟩
    obtain ⟨r0, hr0, rfl⟩ := get_map hp
    have hr0m := List.mem_of_getElem? hr0
    have e0 := hR r0 hr0m
    have hmin' : ∀ r ∈ rs, r0.2.length ≤ r.2.length := fun r hr => hmin (r.1, r.2.length) (List.mem_map_of_mem hr)
    have hs0 : r0.2 ∈ rs.map (·.2) := List.mem_map_of_mem hr0m
    refine ⟨.ref r0.1, rfl, r0.1, _, rfl, .inr (sqT_new e0), _, _, rfl, rfl, _, rfl, ite2 (fun c => ?_) (fun c => ?_)⟩
    · have c := of_decide_eq_true c
      rw [List.length_map] at c
      exact refuseW_mk (hlong fun r hr => by
        have := hmin' r hr
        omega)
    have h12' : r0.2.length ≤ 12 := by
      rw [List.length_map] at c
      have c : ¬ ((12 : Int) < ((r0.2.length : Nat) : Int)) := fun z => c (decide_eq_true z)
      omega
    have q := q ⟨r0, hr0m, h12'⟩
    refine ⟨.ref r0.1, rfl, r0.1, r0.2, rfl, sqT_new e0, h12', fun H1 kp ks s1 nk ek hk hRk => ?_⟩
    refine ⟨.ref r0.1, rfl, r0.1, rfl, ⟨_, sqT_new (s1 _ _ e0)⟩, fun D nD => ?_⟩
    refine dc_tup (K := K) (a := r0.1) (xs := r0.2.map V.str) (fun i H2 => Same H1 H2 ∧ ∃ ds : List (L2.Key × V), H2 D = some (.dK ds) ∧ ds.length ≤ i ∧ ∀ d : Str, (valV ds (.inr d)).isSome = decide (d ∈ r0.2.take i)) ⟨same_new nD, [], upd_same, Nat.le_refl _, fun d => by rw [List.take_zero]; rfl⟩ (fun i H2 _ h2 => sqT_new (h2.1 _ _ (s1 _ _ e0))) (fun i x H2 hx h2 => ?_) (fun H2 h2 => ?_)
    · obtain ⟨d, hd, rfl⟩ := get_map hx
      obtain ⟨s2, ds, eD, hl, hv⟩ := h2
      have hil := lt_of_get hd
      refine ⟨rfl, .str d, rfl, ds, .inr d, rfl, eD, small (by omega), fun c u e => ?_, _, upd_same, ?_, fun d' => ?_⟩
      · rw [upd_ne (ne_of_none e nD)]
        exact s2 _ _ e
      · have := length_putK ds (.inr d) (V.bl true)
        omega
      · rw [valV_put, take_of_get hd]
        by_cases e : d' = d
        · rw [if_pos (by rw [e]), e, decide_eq_true (List.mem_append_right _ List.mem_cons_self)]
          rfl
        · rw [if_neg (fun z => e (Sum.inr.inj z)), hv]
          have : (d' ∈ r0.2.take i ++ [d]) ↔ d' ∈ r0.2.take i := by
            rw [List.mem_append, List.mem_singleton]
            exact ⟨fun z => z.elim id fun z => absurd z e, .inl⟩
          exact (decide_eq_decide.mpr this).symm
    · obtain ⟨s2, ds, eD, hl, hv⟩ := h2
      rw [List.length_map, List.take_length] at hv
      have s12 := s1.trans s2
      refine ⟨.ref a, rfl, a, rs, rfl, Same.sqA s12 hA, hR.mono s12, by omega, fun H3 tp ts s3 ntp etp hts hRt => ?_⟩
      have s13 := s12.trans s3
      have eD3 := s3 _ _ eD
      have hTl : ts.length ≤ 100 := by
        have h1 := congrArg List.length hts
        rw [List.length_map] at h1
        unfold ordR at h1
        rw [List.length_mergeSort] at h1
        have h2 := nub_len (rs.map (·.2))
        rw [List.length_map] at h2
        omega
      have hks0 : ks.length ≤ 4096 := by
        have h1 := congrArg List.length hk
        rw [List.length_map, List.length_mergeSort] at h1
        have h2 := len_subsR r0.2
        have h3 := Nat.pow_le_pow_right (n := 2) (by decide) h12'
        have h4 : 2 ^ 12 = 4096 := by decide
        omega
      refine ⟨tp, rfl, ⟨_, sqT_new etp⟩, for_tup (K := K) (a := tp) (xs := adV ts) (fun i σ H' => ∃ (kp : Addr) (ks : List Ka.Row) (d4 : Option V), σ = [some (.ref a), some (.ref r0.1), some (.ref kp), some (.ref D), d4, none] ∧ Same H3 H' ∧ H' kp = some (.lst (adV ks)) ∧ Rows H' ks ∧ Kept r0.2 ((ts.map (·.2)).take i) (ks.map (·.2)) ∧ ks.length ≤ 4096 + i)
        ⟨kp, ks, none, rfl, (fun _ _ e => e), s3 _ _ (s2 _ _ ek), (hRk.mono s2).mono s3, by rw [hk, List.take_zero]; exact kept_0 _, hks0⟩ (fun i σ H' _ ⟨_, _, _, _, sm, _⟩ => sqT_new (sm _ _ etp)) ?_ ?_⟩
      · rintro i x σ H' hx ⟨kp, ks, d4, rfl, sm, ek, hRk, hK, hkl⟩
        obtain ⟨r, hr, rfl⟩ := get_map hx
        have hrm := List.mem_of_getElem? hr
        have hil := lt_of_get hr
        have hr2 : (ts.map (·.2))[i]? = some r.2 := by
          rw [List.getElem?_map, hr]
          rfl
        have er := sm _ _ (hRt r hrm)
        have hrr : r.2 ∈ rs.map (·.2) := by
          have : r.2 ∈ ts.map (·.2) := List.mem_map_of_mem hrm
          rw [hts] at this
          exact mem_ordR.mp this
        obtain ⟨r', hr', er'⟩ := List.mem_map.mp hrr
        obtain ⟨hl4, hnm⟩ := hN r' hr'
        have er' : r'.2 = r.2 := er'
        rw [er'] at hl4 hnm
        have e00 := sm _ _ (s13 _ _ e0)
        refine ⟨.ref r.1, rfl, .ref r0.1, rfl, Ka.rowD r.2, Ka.rowD r0.2, .tup (sqT_new er) (dpRs _), .tup (sqT_new e00) (dpRs _), shR hnm, shR (hN r0 hr0m).2, ?_⟩
        rw [eqR, take_of_get hr2]
        refine ⟨_, rfl, ?_⟩
        by_cases e : r.2 = r0.2
        · rw [decide_eq_true e]
          refine iteF ⟨kp, ks, _, rfl, sm, ek, hRk, ?_, by omega⟩
          rw [e]
          exact hK.same
        · rw [decide_eq_false e]
          refine iteT ⟨.ref kp, rfl, .ref r.1, rfl, .ref D, rfl, r.1, D, r.2, ds, fun d => decide (d ∈ r0.2), rfl, sqT_new er, sm _ _ eD3, hv, by omega, fun H4 pl ls s4 n4 e4 hl4' hT4 => ?_⟩
          refine ⟨kp, pl, ks, r.2, fun d => decide (d ∈ r0.2), ls, rfl, s4 _ _ ek, hRk.mono s4, by omega, e4, hl4', hT4, fun g hg d hd => ?_, hK.nd, hK.ahead, fun H5 p5 us s5 n5 e5 hu hR5 => ?_⟩
          · have := ((hK.mem g.2).mp (List.mem_map_of_mem hg)).1
            exact decide_eq_true (this.subset hd)
          · refine ⟨p5, us, _, rfl, (sm.trans s4).trans s5, e5, hR5, by rw [hu]; exact hK.snoc r.2, ?_⟩
            have h1 := congrArg List.length hu
            rw [List.length_map, List.length_cons] at h1
            have h2 := List.length_filter_le (wOk r.2) (ks.map (·.2))
            rw [List.length_map] at h2
            omega
      · rintro σ H' ⟨kp, ks, d4, rfl, sm, ek, hRk, hK, hkl⟩
        rw [adV_len, List.take_of_length_le (by rw [List.length_map]; exact Nat.le_refl _), hts] at hK
        rw [adV_len] at hkl
        refine ⟨.ref kp, rfl, kp, ks, rfl, ek, hRk, by omega, fun g hg => ?_, fun H4 p4 us s4 n4 e4 hu hR4 => ?_⟩
        · have := ((hK.mem g.2).mp (List.mem_map_of_mem hg)).1.length_le
          omega
        · have sA := (s13.trans sm).trans s4
          refine q H4 p4 us sA ((s13.trans sm).free n4) e4 (by rw [hu, kept_comm hK (fun r => mem_ordR) hs0]; rfl) hR4 ?_
          have h1 := congrArg List.length hu
          unfold topR1 at h1
          have h2 := List.length_filter_le (fun x => decide (x ∉ (ks.map (·.2)).flatMap delsR)) (ks.map (·.2))
          rw [List.length_map] at h1 h2
          omega
end
end Kb
namespace Kb
open PySem PySem.Spec PyProof.Rows L2
structure AllC (K : PySem.W.Frag) (mg : Str → Option Value) where
  (f fI fO fR fT fP fG C fE : Addr)
  (fd fdI fdO fdR fdT fdP fdG fdE : FuncData)
  (t12 : Nat)
  R : RefC K mg C fE fdE
  F : Fun K "common_all" "common_all" sCommonAll f fd
  FI : Fun K "in_order" "in_order" sInOrder fI fdI
  bI : Binds K fdI ["rows"] []
  gI : mg "in_order" = some (.ref fI)
  FO : Fun K "row_order" "row_order" sOrder fO fdO
  gO : mg "row_order" = some (.ref fO)
  FR : Fun K "rows_within" "rows_within" sRowsWithin fR fdR
  bR : Binds K fdR ["row"] []
  gR : mg "rows_within" = some (.ref fR)
  FT : Fun K "those_within" "those_within" sThose fT fdT
  bT : Binds K fdT ["rows", "behind"] []
  gT : mg "those_within" = some (.ref fT)
  FP : Fun K "places_behind" "places_behind" sPlaces fP fdP
  bP : Binds K fdP ["row", "deeds"] []
  gP : mg "places_behind" = some (.ref fP)
  FG : Fun K "greatest_of_all" "greatest_of_all" sGreatAll fG fdG
  bG : Binds K fdG ["rows"] []
  gG : mg "greatest_of_all" = some (.ref fG)
  g12 : mg "LONGEST_COMMON" = some (.int 12 t12)
  N : Nones mg
  md : mg "dict" = none
section
variable {P : Program} {w : World} {K : PySem.W.Frag} {mg : Str → Option Value} {base : Heap}
theorem AllC.ok (C : AllC K mg) : FnOk P w K mg base (L2.CX P w) 3 C.f C.fd ["rows"] (spAll K C.C) := ok_all C.R C.F C.FI C.bI C.gI C.FO C.gO C.FR C.bR C.gR C.FT C.bT C.gT C.FP C.bP C.gP C.FG C.bG C.gG C.g12 C.N C.md
theorem scCommon : FnScope ["u", "v"] ["u", "v"] (defScope sCommon) := ⟨rfl, rfl, rfl, by decide +kernel, rfl, by decide +kernel, by decide +kernel⟩
def spCommon (K : PySem.W.Frag) (C : Addr) : Sp := fun vs H Q E => ∃ (a b : Addr) (us zs : List Str), vs = [.ref a, .ref b] ∧ H a = some (.tup (us.map V.str)) ∧ H b = some (.tup (zs.map V.str)) ∧ us.length ≤ 400 ∧ zs.length ≤ 400 ∧ (∀ z ∈ us, isName z = true) ∧ (∀ z ∈ zs, isName z = true) ∧
  (12 < us.length → 12 < zs.length → RefuseW C E H "long") ∧
  (us.length ≤ 12 ∨ zs.length ≤ 12 → ∀ (H' : Hp) (p : Addr) (ts : List Ka.Row), Same H H' → H p = none → H' p = some (.tup (adV ts)) → ts.map (·.2) = comA [us, zs] → Rows H' ts → ts.length ≤ 5000 → Q (.ref p) H')
theorem ok_common {f : Addr} {fd : FuncData} (F : Fun K "common" "common" sCommon f fd) (C : AllC K mg) (bC : Binds K C.fd ["rows"] []) (gC : mg "common_all" = some (.ref C.f)) : FnOk P w K mg base (L2.CX P w) 4 f fd ["u", "v"] (spCommon K C.C) := by
  have GC : FnOk P w K mg base (L2.CX P w) 3 C.f C.fd ["rows"] (spAll K C.C) := C.ok
  refine F.okX scCommon (fun vs H Q E h => ?_) (fun cdv A outer s H vs Q E hr h => ?_)
  · obtain ⟨a, b, us, zs, rfl, _⟩ := h
    rfl
  · obtain ⟨a, b, us, zs, rfl, hA, hB, hu, hz, nu, nz, hlong, q⟩ := h
    refine ⟨_, pss_one (ps_ret (pe_call GC hr (by rfl) gC C.F.kp bC .nil (passes_call (takes_of rfl rfl rfl rfl) (fun _ _ _ _ h => h)) (pa_cons (pe_tup (pa_cons (pv 0) (pa_cons (pv 1) pa_nil))) pa_nil))), ?_⟩
    refine ⟨.ref a, rfl, .ref b, rfl, smallE (show 2 ≤ 1000000 by decide), fun t nt => ?_⟩
    have st := same_new (o := .tup [V.ref a, .ref b]) nt
    refine ⟨t, [(a, us), (b, zs)], rfl, .inr (sqT_new upd_same), fun r hr => ?_, (show 0 < 2 by decide), (show 2 ≤ 100 by decide), fun r hr => ?_, fun h => ?_, fun h H' p ts s2 np ep ht hR hl => ?_⟩
    · rcases List.mem_cons.mp hr with rfl | hr
      · exact st _ _ hA
      · rw [List.mem_singleton.mp hr]
        exact st _ _ hB
    · rcases List.mem_cons.mp hr with rfl | hr
      · exact ⟨hu, nu⟩
      · rw [List.mem_singleton.mp hr]
        exact ⟨hz, nz⟩
    · exact (hlong (h (a, us) List.mem_cons_self) (h (b, zs) (List.mem_cons_of_mem _ List.mem_cons_self))).mono st
    · refine q ?_ H' p ts (st.trans s2) (st.free np) ep ht hR hl
      obtain ⟨r, hr, h⟩ := h
      rcases List.mem_cons.mp hr with rfl | hr
      · exact .inl h
      · rw [List.mem_singleton.mp hr] at h
        exact .inr h
end
end Kb
namespace Kb
open PySem PySem.Spec PyProof.Rows L2
/-! ### _law_lies_in, matched from the right -/
theorem sub_eq (u z : List Str) : sub u z = decide (u.Sublist z) := by
  rw [Bool.eq_iff_iff, sub_iff, decide_eq_true_eq]
/-- how many deeds of u are left -/
def leftR (u : List Str) : List Str → Nat
  | [] => u.length
  | e :: z => let n := leftR u z
    if 0 < n ∧ u[n - 1]? = some e then n - 1 else n
theorem leftR_le (u : List Str) : ∀ z, leftR u z ≤ u.length
  | [] => Nat.le_refl _
  | e :: z => by
    have := leftR_le u z
    unfold leftR
    dsimp only
    split <;> omega
theorem leftR_sub (u : List Str) : ∀ (z : List Str) (k : Nat), k ≤ u.length → ((u.drop k).Sublist z ↔ leftR u z ≤ k)
  | [], k, hk => by
    unfold leftR
    rw [List.sublist_nil, List.drop_eq_nil_iff]
  | e :: z, k, hk => by
    have ih := leftR_sub u z
    unfold leftR
    dsimp only
    have hle := leftR_le u z
    by_cases hk' : k = u.length
    · subst hk'
      rw [List.drop_length]
      refine ⟨fun _ => ?_, fun _ => List.nil_sublist _⟩
      split <;> omega
    · have hlt : k < u.length := by omega
      rw [List.drop_eq_getElem_cons hlt]
      have ihk := ih k hk
      have ihk1 := ih (k + 1) (by omega)
      rw [List.drop_eq_getElem_cons hlt] at ihk
      by_cases he : u[k] = e
      · subst he
        rw [List.cons_sublist_cons, ihk1]
        constructor
        · intro h
          by_cases h2 : leftR u z = k + 1
          · rw [if_pos ⟨by omega, by rw [h2, Nat.add_sub_cancel, List.getElem?_eq_getElem hlt]⟩]
            omega
          · split <;> omega
        · intro h
          split at h <;> omega
      · have h1 : (u[k] :: u.drop (k + 1)).Sublist (e :: z) ↔ (u[k] :: u.drop (k + 1)).Sublist z := by
          constructor
          · intro h
            cases h with
            | cons _ h => exact h
            | cons_cons _ h => exact absurd rfl he
          · exact fun h => h.cons _
        rw [h1, ihk]
        constructor
        · intro h
          split <;> omega
        · intro h
          split at h
          · rename_i hc
            by_cases h2 : leftR u z = k + 1
            · rw [h2, Nat.add_sub_cancel, List.getElem?_eq_getElem hlt] at hc
              exact absurd (Option.some.inj hc.2) he
            · omega
          · exact h
theorem leftR_0 (u z : List Str) : sub u z = decide (leftR u z = 0) := by
  rw [sub_eq]
  have := leftR_sub u z 0 (Nat.zero_le _)
  rw [List.drop_zero] at this
  exact decide_eq_decide.mpr (this.trans Nat.le_zero)
section
variable {P : Program} {w : World} {K : PySem.W.Frag} {mg : Str → Option Value} {base : Heap}
theorem scLies : FnScope ["u", "v", "left", "at"] ["u", "v"] (defScope sLiesIn) := ⟨rfl, rfl, rfl, by decide +kernel, rfl, by decide +kernel, by decide +kernel⟩
def spLies (K : PySem.W.Frag) : Sp := fun vs H Q _ => ∃ (a b : Addr) (us zs : List Str), vs = [.ref a, .ref b] ∧ SqT K H a (us.map V.str) ∧ SqT K H b (zs.map V.str) ∧ us.length ≤ 1000 ∧ zs.length ≤ 1000 ∧ Q (.bl (sub us zs)) H
theorem ok_lies {f : Addr} {fd : FuncData} (F : Fun K "_law_lies_in" "_law_lies_in" sLiesIn f fd) (N : Nones mg) : FnOk P w K mg base CX0 1 f fd ["u", "v"] (spLies K) := by
  refine F.ok scLies (fun vs H Q E h => ?_) (fun cdv A outer s H vs Q E hr h => ?_)
  · obtain ⟨a, b, us, zs, rfl, _⟩ := h
    rfl
  · obtain ⟨a, b, us, zs, rfl, hA, hB, hu, hz, q⟩ := h
    refine ⟨_, pss_cons (ps_set (i := 2) scLies.nd rfl (.inl rfl) (pe_callB call_len_seq (by rfl) N.len PySem.boot_len (pa_cons (pv 0) pa_nil)))
      (pss_cons (ps_for PassesOwn.never rfl (pi_range3 (by rfl) N.range (pa_cons (pe_op op_sub (pe_callB call_len_seq (by rfl) N.len PySem.boot_len (pa_cons (pv 1) pa_nil)) pe_int) (pa_cons (pe_op op_sub pe_int pe_int) (pa_cons (pe_op op_sub pe_int pe_int) pa_nil)))) (pg_name (i := 3) scLies.nd rfl (.inl rfl))
        (pss_one (ps_if (PW.pt (pw_and (pt_cmpR op_gt (pv 2) pe_int (nomark _)) (pw_and1 (pt_cmpR op_eq (pe_ix ix_tup (pv 0) (pe_op op_sub (pv 2) pe_int) (fun _ _ => rfl)) (pe_ix ix_tup (pv 1) (pv 3) (fun _ _ => rfl)) (nomark _)))))
          (pss_one (ps_set (i := 2) scLies.nd rfl (.inl rfl) (pe_op op_sub (pv 2) pe_int))) pss_nil)))
      (pss_one (ps_ret (pe_cmpR op_eq (pv 2) pe_int (nomark _))))), ?_⟩
    have lenU : (us.map V.str).length = us.length := List.length_map _
    have lenZ : (zs.map V.str).length = zs.length := List.length_map _
    refine ⟨.ref a, rfl, a, _, rfl, .inr hA, ?_⟩
    refine ⟨.ref b, rfl, b, _, rfl, .inr hB, _, _, rfl, rfl, _, _, rfl, rfl, _, _, rfl, rfl, (zs.length : Int) - 1, -1, -1, zs.length, by rw [lenZ]; rfl, ?_, ?_⟩
    · have h := RgC.neg (i := (zs.length : Int) - 1) (j := -1) (by omega) (by omega) (by omega) (by omega)
      rw [show ((zs.length : Int) - 1 - -1).toNat = zs.length by omega] at h
      exact h
    refine for_it walk_rangeC (fun t σ H' => ∃ d3, σ = [some (.ref a), some (.ref b), some (.int ((leftR us (zs.drop (zs.length - t)) : Nat) : Int)), d3] ∧ H' = H) ⟨_, by rw [Nat.sub_zero, List.drop_length, lenU]; rfl, rfl⟩ (fun _ _ _ _ _ => trivial) ?_ ?_
    · rintro t x σ H' H2 ht ⟨d3, rfl, rfl⟩ ⟨rfl, rfl⟩
      have hjn : zs.length - (t + 1) < zs.length := by omega
      generalize hj : zs.length - (t + 1) = j at hjn
      have ej : (zs.length : Int) - 1 + (t : Nat) * (-1) = (j : Nat) := by omega
      rw [show zs.length - t = j + 1 by omega]
      have hzg : zs[j]? = some zs[j] := List.getElem?_eq_getElem hjn
      have hz' : (zs.map V.str)[j]? = some (.str zs[j]) := by
        rw [List.getElem?_map, hzg]
        rfl
      have hle := leftR_le us (zs.drop (j + 1))
      have est : leftR us (zs.drop j) = if 0 < leftR us (zs.drop (j + 1)) ∧ us[leftR us (zs.drop (j + 1)) - 1]? = some zs[j] then leftR us (zs.drop (j + 1)) - 1 else leftR us (zs.drop (j + 1)) := by
        rw [List.drop_eq_getElem_cons hjn, leftR]
      generalize leftR us (zs.drop (j + 1)) = n at hle est ⊢
      show gName 3 (V.int ((zs.length : Int) - 1 + ((t : Nat) : Int) * (-1))) _ _ _
      rw [ej, est]
      refine ⟨.int (n : Nat), rfl, _, _, rfl, rfl, _, rfl, ite2 (fun c => ?_) (fun c => ?_)⟩
      · have c : 0 < n := by
          have := of_decide_eq_true c
          omega
        have hug : us[n - 1]? = some (us[n - 1]'(by omega)) := List.getElem?_eq_getElem (by omega)
        have hu' : (us.map V.str)[n - 1]? = some (.str (us[n - 1]'(by omega))) := by
          rw [List.getElem?_map, hug]
          rfl
        have hix : atI (us.map V.str) ((n : Int) - 1) = some (.str (us[n - 1]'(by omega))) := by
          have := atI_nat hu'
          rw [show ((n - 1 : Nat) : Int) = (n : Int) - 1 by omega] at this
          exact this
        refine ⟨.ref a, rfl, .int (n : Nat), rfl, _, _, rfl, rfl, a, _, _, _, rfl, rfl, hA, hix, .ref b, rfl, .int (j : Nat), rfl, b, _, _, _, rfl, rfl, hB, atI_nat hz', rfl, _, rfl, ite2 (fun c2 => ?_) (fun c2 => ?_)⟩
        · have ed := V.str.inj (of_decide_eq_true c2)
          rw [if_pos ⟨c, by rw [hug, ed]⟩]
          refine ⟨.int (n : Nat), rfl, _, _, rfl, rfl, some (.int (j : Nat)), ?_, rfl⟩
          show [_, _, some (V.int ((n : Int) - 1)), _] = _
          rw [show ((n - 1 : Nat) : Int) = (n : Int) - 1 by omega]
        · rw [if_neg (fun z => by
            rw [hug] at z
            exact c2 (decide_eq_true (by rw [Option.some.inj z.2])))]
          exact ⟨_, rfl, rfl⟩
      · rw [if_neg (fun z => c (decide_eq_true (by have := z.1; omega)))]
        exact ⟨_, rfl, rfl⟩
    · rintro σ H' ⟨d3, rfl, rfl⟩
      rw [Nat.sub_self, List.drop_zero]
      refine ⟨.int ((leftR us zs : Nat) : Int), rfl, rfl, ?_⟩
      rw [leftR_0] at q
      have e : decide (V.int ((leftR us zs : Nat) : Int) = V.int 0) = decide (leftR us zs = 0) := decide_eq_decide.mpr ⟨fun h => by
        have := V.int.inj h
        omega, fun h => by rw [h]; rfl⟩
      rw [e]
      exact q
end
end Kb
namespace Kb
open PySem PySem.Spec PyProof.Rows L2
section
variable {P : Program} {w : World} {K : PySem.W.Frag} {mg : Str → Option Value} {base : Heap}
theorem scInAll : FnScope ["row", "rows", "other"] ["row", "rows"] (defScope sInAll) := ⟨rfl, rfl, rfl, by decide +kernel, rfl, by decide +kernel, by decide +kernel⟩
def inAll (rs : List (List Str)) (u : List Str) : Bool := rs.all fun r => sub u r
def spInAll (K : PySem.W.Frag) : Sp := fun vs H Q _ => ∃ (a b : Addr) (us : List Str) (rs : List Ka.Row), vs = [.ref a, .ref b] ∧ H a = some (.tup (us.map V.str)) ∧ H b = some (.lst (adV rs)) ∧ Rows H rs ∧ us.length ≤ 1000 ∧ rs.length ≤ 1000 ∧ (∀ r ∈ rs, r.2.length ≤ 1000) ∧
  ∀ H', Same H H' → Q (.bl (inAll (rs.map (·.2)) us)) H'
theorem ok_inAll {f fL : Addr} {fd fdL : FuncData} (F : Fun K "_law_in_all" "_law_in_all" sInAll f fd) (FL : Fun K "_law_lies_in" "_law_lies_in" sLiesIn fL fdL) (bL : Binds K fdL ["u", "v"] []) (gL : mg "_law_lies_in" = some (.ref fL)) (N : Nones mg) : FnOk P w K mg base CX0 2 f fd ["row", "rows"] (spInAll K) := by
  have GL : FnOk P w K mg base CX0 1 fL fdL ["u", "v"] (spLies K) := ok_lies FL N
  refine F.ok scInAll (fun vs H Q E h => ?_) (fun cdv A outer s H vs Q E hr h => ?_)
  · obtain ⟨a, b, us, rs, rfl, _⟩ := h
    rfl
  · obtain ⟨a, b, us, rs, rfl, hA, hB, hR, hu, hz, hl, q⟩ := h
    refine ⟨_, pss_one (ps_ret (pe_callB (cr_all rfl) (by rfl) N.all (by decide +kernel) (pa_cons
        (pe_lc (own := [("other", 2)]) (g := gName 2) (tt := tYes) rfl scInAll.nd (pi_list (pv 1)) (blkOk_by (own := [("other", 2)]) (N := ["row", "rows", "other"]) (sc := defScope sInAll) (by decide +kernel)) (fun _ _ _ _ _ => pg_name (i := 2) scInAll.nd rfl (Or.inl rfl)) (fun _ _ _ _ _ => pts_nil)
          (fun _ _ _ _ _ => pe_call GL hr (by rfl) gL FL.kp bL .nil pass0 (pa_cons (pv 0) (pa_cons (pv 2) pa_nil)))) pa_nil))), ?_⟩
    refine ⟨.ref b, rfl, b, rfl, ⟨_, sqL_new hB⟩, fun D nD => ?_⟩
    refine lc_it (walk_list (K := K) (a := b) (xs := adV rs)) (fun i H2 => Same H H2 ∧ H2 D = some (.lst (((rs.take i).map fun r => sub us r.2).map V.bl))) ⟨same_new nD, upd_same⟩ (fun i H2 _ h2 => sqL_new (h2.1 _ _ hB)) (fun i x H2 H3 hi h2 y => ?_) (fun H2 h2 => ?_)
    · obtain ⟨rfl, hx⟩ := y
      obtain ⟨sm, eD⟩ := h2
      obtain ⟨r, hr, rfl⟩ := get_map hx
      have hrm := List.mem_of_getElem? hr
      have hil := lt_of_get hr
      refine ⟨rfl, .ref a, rfl, .ref r.1, rfl, a, r.1, us, r.2, rfl, sqT_new (sm _ _ hA), sqT_new (sm _ _ (hR r hrm)), hu, hl r hrm, _, eD, ?_, fun c o e => ?_, ?_⟩
      · rw [List.length_map, List.length_map]
        exact small (Nat.le_trans (List.length_take_le _ _) (by omega))
      · rw [upd_ne (ne_of_none e nD)]
        exact sm _ _ e
      · rw [upd_same, take_of_get hr, List.map_append, List.map_append]
        rfl
    · obtain ⟨sm, eD⟩ := h2
      rw [adV_len, List.take_length] at eD
      refine ⟨D, _, rfl, sqL_new eD, ?_⟩
      have e : (rs.map fun r => sub us r.2).all id = inAll (rs.map (·.2)) us := by
        unfold inAll
        rw [List.all_map, List.all_map]
        rfl
      rw [e]
      exact q H2 sm
end
end Kb
/-! sorted(l), l a list of tuples of texts, the first of them empty: some order of them. -/
namespace Ka
open PySem PySem.Spec PyProof.Rows L2
theorem vals_str_get : ∀ {zs : List Str} {us : List Value}, Vals (zs.map V.str) us → ∀ (j : Nat) (h : j < us.length), ∃ t, us[j] = .str (zs.getD j ("" : Str)) t
  | [], _, r, j, h => by
    cases r
    exact absurd h (Nat.not_lt_zero _)
  | z :: zs, _, r, j, h => by
    rw [List.map_cons] at r
    cases r with
    | cons r1 r2 =>
      cases j with
      | zero =>
        obtain ⟨t, e⟩ := r1
        exact ⟨t, e⟩
      | succ j => exact vals_str_get r2 j (Nat.lt_of_succ_lt_succ h)
section
variable {prog : Program} {w : World} {A : Around} {E : Value → Shared → Prop} {s : Shared}
theorem oneLt_rows {a b : Addr} {xs ys : List Str} {us ws : List Value} (hx : Vals (xs.map V.str) us) (hy : Vals (ys.map V.str) ws) (ta : IsTup s.heap a us.toArray) (tb : IsTup s.heap b ws.toArray) (hu : A.units < cLine) :
    ∃ c : Bool, wpAny (model prog w) A (oneLt' true (.ref a) (.ref b)) (fun r s' => s' = s ∧ r = c) (fun _ _ => False) s := by
  obtain ⟨⟨cls, dd, data, sl⟩, ho, hc, n, hd⟩ := ta
  obtain ⟨⟨cls2, dd2, data2, sl2⟩, ho2, hc2, n2, hd2⟩ := tb
  simp only at hc hd hc2 hd2
  subst hc hd hc2 hd2
  refine ⟨Ob.lexAt (fun j => xs.getD j ("" : Str) == ys.getD j ("" : Str)) (fun j => decide ((xs.getD j ("" : Str)).cps.toList < (ys.getD j ("" : Str)).cps.toList)) (decide (us.toArray.size < ws.toArray.size)) 0 (min us.toArray.size ws.toArray.size), ?_⟩
  rw [oneLt'_eq]
  simp only [if_true]
  refine wpAny_bind (wpAny_cRoomFor hu ?_)
  refine wpAny_bind (wpAny_callSpecialIfBound?_slot (T := "tuple") ⟨_, ho, rfl⟩ PySem.F.slot_tuple_lt (call_meets PySem.F.slot_tuple_lt ⟨_, ho, rfl⟩ PySem.F.entry_tuple_lt (PySem.F.args_tuple_lt_2 _ _)
    (Ob.tuple_ltAt a b us.toArray ws.toArray n n2 dd dd2 sl sl2 _ _) ⟨ho, ho2, fun j h1 h2 => ?_, fun j h1 h2 _ => ?_, wpAny_truthy_bool ⟨rfl, rfl⟩⟩))
  · obtain ⟨t, e1⟩ := vals_str_get hx j (by simpa using h1)
    obtain ⟨u, e2⟩ := vals_str_get hy j (by simpa using h2)
    have e1' : us.toArray[j] = _ := (by simpa using e1)
    have e2' : ws.toArray[j] = _ := (by simpa using e2)
    rw [e1', e2']
    exact SeqAt.EqAt.str_str _ t _ u
  · obtain ⟨t, e1⟩ := vals_str_get hx j (by simpa using h1)
    obtain ⟨u, e2⟩ := vals_str_get hy j (by simpa using h2)
    have e1' : us.toArray[j] = _ := (by simpa using e1)
    have e2' : ws.toArray[j] = _ := (by simpa using e2)
    rw [e1', e2']
    exact fun _ _ _ _ h => PyProof.Rows.lt_str h
/-- a tuple at this value -/
def TupV (h : Heap) (v : Value) : Prop := ∃ a o xs n, v = .ref a ∧ h.get? a = some o ∧ o.cls = .type "tuple" ∧ o.data = .seq xs n
theorem firsts_any {M : Model} : ∀ (vs : List Value) {Q : List (Option Value) → Shared → Prop}, (∀ v ∈ vs, TupV s.heap v) → (∀ fs, Q fs s) → wpAny M A (vs.mapM firstOfTuple') Q E s
  | [], _, _, h => by
    rw [List.mapM_nil]
    exact wpAny_pure (h _)
  | v :: vs, Q, t, h => by
    obtain ⟨a, o, xs, n, rfl, ho, hc, hd⟩ := t v List.mem_cons_self
    rw [List.mapM_cons]
    refine wpAny_bind ?_
    rw [PySem.W.kas_first_eq]
    refine wpAny_bind (PySem.W.Looks.here (show PySem.W.Looks M s.heap (typeOf (.ref a)) o.cls from (PySem.W.Looks.ld ho).andThen .now) ?_)
    rw [hc, if_neg (by first | decide | simp)]
    refine wpAny_bind (listItems_at ho hd (wpAny_pure ?_))
    exact wpAny_bind (firsts_any vs (Q := fun bs s' => wpAny M A (pure (xs[0]? :: bs)) Q E s') (fun v hv => t v (List.mem_cons_of_mem _ hv)) fun fs => wpAny_pure (h _))
theorem rows_kind {M : Model} {a : Addr} {o : Obj} {n : Nat} {vs : List Value} {Q : SortKind → Shared → Prop} (ho : s.heap.get? a = some o) (hc : o.cls = .type "tuple") (hd : o.data = .seq #[] n) (t : ∀ v ∈ vs, TupV s.heap v) (h : Q oneType' s) :
    wpAny M A (keyKind' (Value.ref a :: vs).toArray) Q E s := by
  rw [kat_kind_eq, List.mapM_toArray, map_eq_pure_bind]
  refine wpAny_bind (wpAny_bind ?_)
  rw [List.mapM_cons]
  refine wpAny_bind ?_
  rw [PySem.W.kas_first_eq]
  refine wpAny_bind (PySem.W.Looks.here (show PySem.W.Looks M s.heap (typeOf (.ref a)) o.cls from (PySem.W.Looks.ld ho).andThen .now) ?_)
  rw [hc, if_neg (by first | decide | simp)]
  refine wpAny_bind (listItems_at ho hd (wpAny_pure ?_))
  refine wpAny_bind (firsts_any vs t fun fs => wpAny_pure (wpAny_pure ?_))
  rw [if_neg (by simp), if_neg (by simp)]
  have hT : ∀ v ∈ Value.ref a :: vs, PySem.W.Looks M s.heap (typeOf v) (.type "tuple") := fun v hv => by
    rcases List.mem_cons.mp hv with rfl | hv
    · rw [← hc]
      exact (PySem.W.Looks.ld ho).andThen .now
    · obtain ⟨a', o', xs, n', rfl, ho', hc', _⟩ := t v hv
      rw [← hc']
      exact (PySem.W.Looks.ld ho').andThen .now
  rw [oneTypeOnly'_eq, List.mapM_toArray, map_eq_pure_bind]
  refine wpAny_bind (wpAny_bind (wpAny_bind (PySem.W.kas_mapM (r := Value.type "tuple") _ (fun v hv Q' hq => (hT v hv).here hq) (wpAny_pure ?_))))
  have hall2 : ((List.map (fun _ => Value.type "tuple") (Value.ref a :: vs)).toArray.all fun x => x == Value.type "tuple") = true := by
    simp only [List.all_toArray, List.all_map, List.all_eq_true]
    intro _ _
    rfl
  have h0 : (List.map (fun _ => Value.type "tuple") (Value.ref a :: vs)).toArray[0]? = some (Value.type "tuple") := by simp
  rw [h0]
  simp only [hall2, if_true]
  exact wpAny_pure (wpAny_pure h)
end
theorem perm_of_map {α β : Type} {f : α → β} {l l' : List β} (h : l.Perm l') : ∀ m : List α, l' = m.map f → ∃ m' : List α, m'.Perm m ∧ l = m'.map f := by
  induction h with
  | nil =>
    intro m e
    cases m with
    | nil => exact ⟨[], .nil, rfl⟩
    | cons => cases e
  | cons x h ih =>
    intro m e
    cases m with
    | nil => cases e
    | cons y m =>
      rw [List.map_cons, List.cons.injEq] at e
      obtain ⟨m', h1, h2⟩ := ih m e.2
      exact ⟨y :: m', .cons y h1, by rw [List.map_cons, e.1, h2]⟩
  | swap x y l =>
    intro m e
    match m, e with
    | a :: b :: m, e =>
      rw [List.map_cons, List.map_cons, List.cons.injEq, List.cons.injEq] at e
      exact ⟨b :: a :: m, .swap a b m, by rw [List.map_cons, List.map_cons, e.1, e.2.1, e.2.2]⟩
  | trans h1 h2 ih1 ih2 =>
    intro m e
    obtain ⟨m2, p2, e2⟩ := ih2 m e
    obtain ⟨m1, p1, e1⟩ := ih1 m2 e2
    exact ⟨m1, p1.trans p2, e1⟩
def rSortedR (K : PySem.W.Frag) : List V → Hp → VK → Prop := fun vs H Q => ∃ (a a0 : Addr) (rs : List Row), vs = [V.ref a] ∧ SqL K H a (((a0, []) :: rs).map fun r => V.ref r.1) ∧ (∀ r ∈ (a0, []) :: rs, SqT K H r.1 (r.2.map V.str)) ∧
  ∀ (rs' : List Row) (p : Addr), rs'.Perm ((a0, []) :: rs) → H p = none → Q (.ref p) (upd H p (.lst (rs'.map fun r => V.ref r.1)))
theorem cr_sortedR {X : Cx} (hu : X.A.units + 64 < cLine) : CallR X (.builtin "sorted") (rSortedR X.K) := by
  intro pins s σ H vs us Q I r h
  obtain ⟨a, a0, rs, rfl, hs, hr, q⟩ := h
  obtain ⟨its, rv, hl, hz⟩ := I.list hs
  rw [Vals.ref1 r]
  have hlen0 := rv.length
  rw [List.length_map] at hlen0
  have eits : its = ((a0, []) :: rs).map fun r : Row => Value.ref r.1 := by
    have : ∀ {l : List Row} {us : List Value}, Vals (l.map fun r => V.ref r.1) us → us = l.map fun r => Value.ref r.1 := fun {l} => by
      induction l with
      | nil => intro us r; cases r; rfl
      | cons x l ih =>
        intro us r
        rw [List.map_cons] at r
        cases r with
        | cons r1 r2 =>
          rw [List.map_cons, ← ih r2]
          exact congrArg (· :: _) r1
    exact this rv
  have row : ∀ v ∈ its, ∃ (b : Addr) (xs : List Str) (us : List Value), v = .ref b ∧ Vals (xs.map V.str) us ∧ IsTup s.heap b us.toArray := fun v hv => by
    rw [eits] at hv
    obtain ⟨g, hg, rfl⟩ := List.mem_map.mp hv
    obtain ⟨us, r1, t1, _⟩ := I.tuple (hr g hg)
    exact ⟨g.1, g.2, us, rfl, r1, t1⟩
  refine Srt.sorted_any hl.isList (by rw [← rv.length]; exact hz) (fun h2 h₁ a' ha' k1 => ?_) fun out hp => ?_
  · intro h' k2
    have kk : ∀ b o, s.heap.get? b = some o → h'.get? b = some o := fun b o e => k2 b o (k1 b o e).1 (k1 b o e).2
    have row' : ∀ v ∈ its, ∃ (b : Addr) (xs : List Str) (us : List Value), v = .ref b ∧ Vals (xs.map V.str) us ∧ IsTup h' b us.toArray := fun v hv => by
      obtain ⟨b, xs, us, e, r1, o, ho, t1⟩ := row v hv
      exact ⟨b, xs, us, e, r1, o, kk _ _ ho, t1⟩
    refine ⟨oneType', fun Q E hq => ?_, fun p p' hp hp' => ?_⟩
    · obtain ⟨us0, r0, t0, _⟩ := I.tuple (hr (a0, []) List.mem_cons_self)
      obtain ⟨o, ho, hc, n, hd⟩ := t0
      cases r0
      rw [eits, List.map_cons]
      refine rows_kind (s := { s with heap := h' }) (kk _ _ ho) hc hd (fun v hv => ?_) hq
      obtain ⟨b, xs, us, e, _, o', ho', hc', n', hd'⟩ := row' v (by rw [eits, List.map_cons]; exact List.mem_cons_of_mem _ hv)
      exact ⟨b, o', us.toArray, n', e, ho', hc', hd'⟩
    · obtain ⟨b, xs, us, e, r1, t1⟩ := row' _ hp
      obtain ⟨b', xs', us', e', r1', t1'⟩ := row' _ hp'
      rw [e, e', keyLt'_oneType]
      exact oneLt_rows r1 r1' t1 t1' (by show X.A.units + 1 + 1 < cLine; omega)
  · obtain ⟨rs', h1, h2⟩ := perm_of_map hp _ eits
    obtain ⟨ep, he'⟩ := PyProof.Rows.sortedAll_at s.heap its out.toArray
    have hlen : (rs'.map fun r : Row => V.ref r.1).length ≤ sizeLine := by
      rw [List.length_map, h1.length_eq]
      rw [List.length_map] at hz
      exact hz
    have vout : ∀ l : List Row, Vals (l.map fun r => V.ref r.1) (l.map fun r => Value.ref r.1) := fun l => by
      induction l with
      | nil => exact .nil
      | cons x l ih => exact .cons rfl ih
    refine ⟨.ref _, upd H (s.heap.objs.size + 1) (.lst (rs'.map fun r => V.ref r.1)), I.laid (t' := s.toks) (fun _ _ => PyProof.Rows.sortedAll_old) (Nat.le_succ _) ⟨hlen, out, ep, ?_, he'⟩, rfl, q _ _ h1 (I.hok.fresh (Nat.le_succ _))⟩
    rw [h2]
    exact vout rs'
end Ka
namespace Kb
open PySem PySem.Spec PyProof.Rows L2
theorem catA_at {X : Cx} {K : PySem.W.Frag} (h : X.K = K) : OpR X (binaryOp .Add) (rCatA K) := by
  subst h
  exact op_catA
section
variable {P : Program} {w : World} {K : PySem.W.Frag} {mg : Str → Option Value} {base : Heap}
abbrev nStruck : List Str := ["row", "found", "deed", "one", "unlike"]
theorem scAllStruck : FnScope nStruck ["row"] (defScope sStruckAll) := ⟨rfl, rfl, rfl, by decide +kernel, rfl, by decide +kernel, by decide +kernel⟩
def spAllStruck (K : PySem.W.Frag) : Sp := fun vs H Q _ => ∃ (a : Addr) (us : List Str), vs = [.ref a] ∧ H a = some (.tup (us.map V.str)) ∧ us.length ≤ 8 ∧ (∀ z ∈ us, isName z = true) ∧
  ∀ (H' : Hp) (p : Addr) (rs : List Ka.Row), Same H H' → H p = none → H' p = some (.lst (adV rs)) → Rows H' rs → (∀ r ∈ rs, r.2.Sublist us) → rs.length ≤ 256 → Q (.ref p) H'
theorem ok_allStruck {f : Addr} {fd : FuncData} (F : Fun K "_law_all_struck" "_law_all_struck" sStruckAll f fd) (N : Nones mg) : FnOk P w K mg base CX0 1 f fd ["row"] (spAllStruck K) := by
  refine F.ok scAllStruck (fun vs H Q E h => ?_) (fun cdv A outer s H vs Q E hr h => ?_)
  · obtain ⟨a, us, rfl, _⟩ := h
    rfl
  · obtain ⟨a, us, rfl, hA, hu, nu, q⟩ := h
    refine ⟨_, pss_cons (ps_set (i := 1) scAllStruck.nd rfl (.inl rfl) (pe_lst (pa_cons (pe_tup pa_nil) pa_nil)))
      (pss_cons (ps_for PassesOwn.never rfl (pi_tup (pv 0)) (pg_name (i := 2) scAllStruck.nd rfl (.inr rfl))
        (pss_one (ps_set (i := 1) scAllStruck.nd rfl (.inl rfl) (pe_op op_cat (pv 1)
          (pe_lc (own := [("one", 3)]) (g := gName 3) (tt := tYes) rfl scAllStruck.nd (pi_list (pv 1)) (blkOk_by (own := [("one", 3)]) (N := nStruck) (sc := defScope sStruckAll) (by decide +kernel)) (fun _ _ _ _ _ => pg_name (i := 3) scAllStruck.nd rfl (Or.inl rfl)) (fun _ _ _ _ _ => pts_nil)
            (fun _ _ _ _ _ => pe_op (catA_at (K := K) rfl) (pv 3) (pe_tup (pa_cons (pv 2) pa_nil))))))))
      (pss_cons (ps_set (i := 4) scAllStruck.nd rfl (.inl rfl) (pe_lst pa_nil))
      (pss_cons (ps_for PassesOwn.never rfl (pi_list (pe_callB (Ka.cr_sortedR hr.units) (by rfl) N.sorted (by decide +kernel) (pa_cons (pv 1) pa_nil))) (pg_name (i := 3) scAllStruck.nd rfl (.inl rfl))
        (pss_one (ps_if (PW.pt (pw_or (pt_cmpR (op_eqD hr.units) (pv 4) (pe_lst pa_nil) (nomark _)) (pw_or1 (pt_cmpR (op_neD hr.units) (pe_ix ix_list (pv 4) (pe_op op_sub (pe_callB call_len_seq (by rfl) N.len PySem.boot_len (pa_cons (pv 4) pa_nil)) pe_int) (fun _ _ => rfl)) (pv 3) (nomark _)))))
          (pss_one (ps_expr (pe_bm PySem.F.plainAttrs_list PySem.F.slot_list_append PySem.F.type_list_append mt_append (pv 4) (pa_cons (pv 3) pa_nil)))) pss_nil)))
      (pss_one (ps_ret (pv 4)))))), ?_⟩
    refine ⟨smallE (by decide), fun a0 n0 => ⟨smallE (show 1 ≤ 1000000 by decide), fun fl nf => ?_⟩⟩
    have s0 := same_new (o := .tup []) n0
    have s1 := s0.trans (same_new (o := .lst [V.ref a0]) nf)
    have e0 : upd (upd H a0 (.tup [])) fl (.lst [V.ref a0]) a0 = some (.tup []) := by
      rw [upd_ne (ne_of_none (upd_same (H := H) (a := a0) (o := .tup [])) nf)]
      exact upd_same
    have ef : upd (upd H a0 (.tup [])) fl (.lst [V.ref a0]) fl = some (.lst [V.ref a0]) := upd_same
    generalize upd (upd H a0 (.tup [])) fl (.lst [V.ref a0]) = H1 at s1 e0 ef ⊢
    refine ⟨.ref a, rfl, a, rfl, ⟨_, sqT_new (s1 _ _ hA)⟩, ?_⟩
    refine for_tup (K := K) (a := a) (xs := us.map V.str) (fun i σ H' => ∃ (fl : Addr) (fs : List Ka.Row) (d2 : Option V), σ = [some (.ref a), some (.ref fl), d2, none, none] ∧ Same H1 H' ∧ H' fl = some (.lst (adV ((a0, []) :: fs))) ∧ Rows H' ((a0, []) :: fs) ∧ (∀ r ∈ (a0, []) :: fs, r.2.Sublist (us.take i)) ∧ fs.length + 1 = 2 ^ i)
      ⟨fl, [], none, rfl, (fun _ _ e => e), ef, (fun r hr => by rw [List.mem_singleton.mp hr]; exact e0), (fun r hr => by rw [List.mem_singleton.mp hr]; exact List.nil_sublist _), rfl⟩ (fun i σ H' _ ⟨_, _, _, _, sm, _⟩ => sqT_new (sm _ _ (s1 _ _ hA))) ?_ ?_
    · rintro i x σ H2 hx ⟨fl, fs, d2, rfl, s2, ef, hR, hS, hl⟩
      obtain ⟨d, hd, rfl⟩ := get_map hx
      have hi := lt_of_get hd
      have h2 : 2 ^ i ≤ 256 := Nat.le_trans (Nat.pow_le_pow_right (n := 2) (by decide) (show i ≤ 8 by omega)) (by decide)
      generalize hfs : (a0, ([] : List Str)) :: fs = F at ef hR hS
      have hF : F.length = 2 ^ i := by rw [← hfs, List.length_cons]; exact hl
      refine ⟨.ref fl, rfl, .ref fl, rfl, fl, rfl, ⟨_, sqL_new ef⟩, fun D nD => ?_⟩
      refine lc_it (walk_list (K := K) (a := fl) (xs := adV F)) (fun j H3 => Same H2 H3 ∧ ∃ gs : List Ka.Row, H3 D = some (.lst (adV gs)) ∧ Rows H3 gs ∧ gs.length = j ∧ ∀ r ∈ gs, r.2.Sublist (us.take (i + 1))) ⟨same_new nD, [], upd_same, (fun r hr => by cases hr), rfl, fun r hr => by cases hr⟩ (fun j H3 _ h => sqL_new (h.1 _ _ ef)) (fun j y H3 H4 hj h yy => ?_) (fun H3 h => ?_)
      · obtain ⟨rfl, hy⟩ := yy
        obtain ⟨s3, gs, eD, hG, hgl, hgs⟩ := h
        obtain ⟨r, hr, rfl⟩ := get_map hy
        have hrm := List.mem_of_getElem? hr
        have hjl := lt_of_get hr
        refine ⟨rfl, .ref r.1, rfl, .str d, rfl, smallE (show 1 ≤ 1000000 by decide), fun t nt => ?_⟩
        have st := same_new (o := .tup [V.str d]) nt
        have her := st _ _ (s3 _ _ (hR r hrm))
        have hsub := hS r hrm
        have hrl : r.2.length ≤ 8 := Nat.le_trans hsub.length_le (Nat.le_trans (List.length_take_le' i us) hu)
        refine catN (sqT_new her) upd_same (by simp) (by rw [List.length_map]; show _ + 1 ≤ _; omega) fun H5 p s5 ep => ?_
        have s35 := st.trans s5
        have eD5 := s35 _ _ eD
        have hDp : D ≠ p ∨ True := .inr trivial
        refine ⟨_, eD5, ?_, fun c u e => ?_, gs ++ [(p, r.2 ++ [d])], ?_, fun g hg => ?_, by rw [List.length_append, hgl]; rfl, fun g hg => ?_⟩
        · unfold adV
          rw [List.length_map]
          exact small (by omega)
        · rw [upd_ne (ne_of_none e nD)]
          exact s35 _ _ (s3 _ _ e)
        · rw [upd_same]
          unfold adV
          rw [List.map_append]
          rfl
        · have hne : ∀ (c : Addr) (xs : List V), H5 c = some (.tup xs) → c ≠ D := fun c xs e z => by
            rw [z, eD5] at e
            cases e
          rcases List.mem_append.mp hg with h | h
          · have e := s35 _ _ (hG g h)
            rw [upd_ne (hne _ _ e)]
            exact e
          · rw [List.mem_singleton.mp h, upd_ne (hne _ _ ep), ep, List.map_append]
            rfl
        · rcases List.mem_append.mp hg with h | h
          · exact hgs g h
          · rw [List.mem_singleton.mp h, take_of_get hd]
            exact hsub.append (List.Sublist.refl _)
      · obtain ⟨s3, gs, eD, hG, hgl, hgs⟩ := h
        rw [adV_len] at hgl
        refine ⟨fl, D, _, _, rfl, rfl, s3 _ _ ef, eD, ?_, fun p np => ?_⟩
        · rw [adV_len, adV_len]
          exact smallE (by omega)
        · have s4 := same_new (o := .lst (adV F ++ adV gs)) np
          have s34 := s3.trans s4
          refine ⟨p, fs ++ gs, _, rfl, s2.trans s34, ?_, fun g hg => ?_, fun g hg => ?_, ?_⟩
          · rw [upd_same, ← hfs]
            unfold adV
            rw [List.map_cons, List.map_cons, List.map_append]
            rfl
          · have hg : g ∈ F ++ gs := by rw [← hfs]; exact hg
            rcases List.mem_append.mp hg with h | h
            · exact s34 _ _ (hR g h)
            · exact s4 _ _ (hG g h)
          · have hg : g ∈ F ++ gs := by rw [← hfs]; exact hg
            rcases List.mem_append.mp hg with h | h
            · exact (hS g h).trans (List.take_sublist_take_left (Nat.le_succ i))
            · exact hgs g h
          · rw [List.length_append, Nat.pow_succ]
            omega
    · rintro σ H2 ⟨fl, fs, d2, rfl, s2, ef, hR, hS, hl⟩
      rw [List.length_map] at hl
      have h2 : 2 ^ us.length ≤ 256 := Nat.le_trans (Nat.pow_le_pow_right (n := 2) (by decide) hu) (by decide)
      refine ⟨Nat.zero_le _, fun D nD => ?_⟩
      have s3 := same_new (o := .lst []) nD
      have eD : upd H2 D (.lst []) D = some (.lst []) := upd_same
      generalize upd H2 D (.lst []) = H3 at s3 eD ⊢
      refine ⟨.ref fl, rfl, fl, a0, fs, rfl, sqL_new (s3 _ _ ef), fun r hr => sqT_new (s3 _ _ (hR r hr)), fun rs p hp np => ?_⟩
      have s4 := same_new (o := .lst (rs.map fun r => V.ref r.1)) np
      have ep : upd H3 p (.lst (rs.map fun r => V.ref r.1)) p = some (.lst (adV rs)) := upd_same
      have eD4 := s4 _ _ eD
      have hpD : p ≠ D := fun z => by
        rw [z, eD] at np
        cases np
      have s14 := (s2.trans s3).trans s4
      have hR4 : Rows (upd H3 p (.lst (rs.map fun r => V.ref r.1))) rs := fun r hr => s4 _ _ (s3 _ _ (hR r (hp.mem_iff.mp hr)))
      have hS4 : ∀ r ∈ rs, r.2.Sublist us := fun r hr => (hS r (hp.mem_iff.mp hr)).trans (List.take_sublist _ _)
      have hl4 : rs.length ≤ 256 := by
        rw [hp.length_eq, List.length_cons, hl]
        exact h2
      have nDH : H D = none := (s1.trans s2).free nD
      show ∃ _, _
      refine ⟨p, rfl, ⟨_, sqL_new ep⟩, ?_⟩
      generalize upd H3 p (.lst (rs.map fun r => V.ref r.1)) = H4 at ep eD4 s14 hR4 ⊢
      have nm : ∀ r ∈ rs, ∀ z ∈ r.2, isName z = true := fun r hr z hz => nu z ((hS4 r hr).subset hz)
      have hrD : ∀ r ∈ rs, r.1 ≠ D := fun r hr z => by
        have := hR4 r hr
        rw [z, eD4] at this
        cases this
      refine for_list (K := K) (a := p) (xs := adV rs) (fun i σ H' => ∃ (d3 : Option V) (qs : List Ka.Row), σ = [some (.ref a), some (.ref fl), d2, d3, some (.ref D)] ∧ (∀ c u, c ≠ D → H4 c = some u → H' c = some u) ∧ H' D = some (.lst (adV qs)) ∧ (∀ r ∈ qs, r ∈ rs) ∧ qs.length ≤ i)
        ⟨_, [], rfl, (fun _ _ _ e => e), eD4, (fun r hr => by cases hr), Nat.le_refl _⟩ (fun i σ H' _ ⟨_, _, _, k, _⟩ => sqL_new (k _ _ hpD ep)) ?_ ?_
      · rintro i x σ H5 hx ⟨d3, qs, rfl, k, eD5, hq, hql⟩
        obtain ⟨r, hr, rfl⟩ := get_map hx
        have hrm := List.mem_of_getElem? hr
        have hil := lt_of_get hr
        have app : ∀ G : Hp, Same H5 G → (∃ (d3 : Option V) (qs' : List Ka.Row), [some (V.ref a), some (.ref fl), d2, some (.ref r.1), some (.ref D)] = [some (.ref a), some (.ref fl), d2, d3, some (.ref D)] ∧ (∀ c u, c ≠ D → H4 c = some u → upd G D (.lst (adV qs ++ [.ref r.1])) c = some u) ∧ upd G D (.lst (adV qs ++ [.ref r.1])) D = some (.lst (adV qs')) ∧ (∀ r ∈ qs', r ∈ rs) ∧ qs'.length ≤ i + 1) := fun G sG => by
          refine ⟨_, qs ++ [r], rfl, fun c u hc e => ?_, ?_, fun g hg => ?_, ?_⟩
          · rw [upd_ne hc]
            exact sG _ _ (k _ _ hc e)
          · rw [upd_same]
            unfold adV
            rw [List.map_append]
            rfl
          · rcases List.mem_append.mp hg with h | h
            · exact hq g h
            · rw [List.mem_singleton.mp h]
              exact hrm
          · rw [List.length_append]
            show _ + 1 ≤ _
            omega
        have hRq : ∀ G : Hp, Same H5 G → Rows G qs := fun G sG g hg => sG _ _ (k _ _ (hrD g (hq g hg)) (hR4 g (hq g hg)))
        have hsz : (adV qs).length < sizeLine := by
          rw [adV_len]
          exact small (by omega)
        refine ⟨.ref D, rfl, Nat.zero_le _, fun t nt => ?_⟩
        have s6 := same_new (o := .lst []) nt
        refine ⟨.list ((qs.map (·.2)).map Ka.rowD), .list [], .lst (sqL_new (s6 _ _ eD5)) (dpRows (hRq _ s6)), .lst (sqL_new upd_same) .nil, (shRows (fun q hq' z hz => by
          obtain ⟨g, hg, rfl⟩ := List.mem_map.mp hq'
          exact nm g (hq g hg) z hz)).1, (shRows (l := []) (fun r hr => by cases hr)).1, ?_⟩
        refine ⟨_, rfl, ite2 (fun c => ?_) (fun c => ?_)⟩
        · exact ⟨.ref D, rfl, .inl ⟨rfl, _, sqL_new (s6 _ _ eD5)⟩, .ref r.1, rfl, D, _, _, rfl, rfl, s6 _ _ eD5, hsz, app _ s6⟩
        · have hne : qs ≠ [] := fun e => c (by
            subst e
            rfl)
          obtain ⟨qi, ql, rfl⟩ : ∃ qi ql, qs = qi ++ [ql] := ⟨qs.dropLast, qs.getLast hne, (List.dropLast_concat_getLast hne).symm⟩
          have hix : atI (adV (qi ++ [ql])) (((adV (qi ++ [ql])).length : Nat) - 1 : Int) = some (.ref ql.1) := by
            have h := atI_nat (xs := adV (qi ++ [ql])) (j := qi.length) (v := V.ref ql.1) (by unfold adV; rw [List.map_append, List.getElem?_append_right (by rw [List.length_map]; exact Nat.le_refl _), List.length_map, Nat.sub_self]; rfl)
            rw [show ((qi.length : Nat) : Int) = (((adV (qi ++ [ql])).length : Nat) - 1 : Int) by rw [adV_len, List.length_append]; show _ = ((qi.length + 1 : Nat) : Int) - 1; omega] at h
            exact h
          have hqlm : ql ∈ rs := hq ql (List.mem_append_right _ List.mem_cons_self)
          refine ⟨.ref D, rfl, .ref D, rfl, D, _, rfl, .inl (sqL_new (s6 _ _ eD5)), _, _, rfl, rfl, D, _, _, _, rfl, rfl, sqL_new (s6 _ _ eD5), hix, .ref r.1, rfl, Ka.rowD ql.2, Ka.rowD r.2, dpR (hRq _ s6 ql (List.mem_append_right _ List.mem_cons_self)), dpR (s6 _ _ (k _ _ (hrD r hrm) (hR4 r hrm))), shR (nm ql hqlm), shR (nm r hrm), _, rfl, ite2 (fun c => ?_) (fun c => ?_)⟩
          · exact ⟨.ref D, rfl, .inl ⟨rfl, _, sqL_new (s6 _ _ eD5)⟩, .ref r.1, rfl, D, _, _, rfl, rfl, s6 _ _ eD5, hsz, app _ s6⟩
          · exact ⟨_, qi ++ [ql], rfl, fun c u hc e => s6 _ _ (k _ _ hc e), s6 _ _ eD5, hq, by omega⟩
      · rintro σ H5 ⟨d3, qs, rfl, k, eD5, hq, hql⟩
        rw [adV_len] at hql
        refine ⟨.ref D, rfl, q H5 D qs (fun c u e => k _ _ (ne_of_none e nDH) (s14 _ _ (s1 _ _ e))) nDH eD5 (fun g hg => k _ _ (hrD g (hq g hg)) (hR4 g (hq g hg))) (fun g hg => hS4 g (hq g hg)) (by omega)⟩
end
end Kb
/-! sorted(t, key=lambda ..), t a tuple of rows. -/
namespace Ka
open PySem PySem.Spec PyProof.Rows L2 PySem.W
section
variable {X : Cx} {pins : List (Addr × Obj)} {σ : L2.St} {H : Hp} {s : Shared}
theorem sorted_tup {a f : Addr} {rs : List Row} {Q : VK} (I : Inv X pins σ H s) (hu : X.A.units + 64 < cLine) (hs : SqT X.K H a (rs.map fun r => V.ref r.1)) (hr : ∀ r ∈ rs, SqT X.K H r.1 (r.2.map V.str)) (hf : KeyAt X s f)
    (q : ∀ p, H p = none → Q (.ref p) (upd H p (.lst ((rs.mergeSort leRow).map fun r => V.ref r.1)))) : wpAny (model X.prog X.w) X.A (call (.builtin "sorted") [.ref a] [(Str.ofString "key", .ref f)]) (EP X pins σ Q) X.xe s := by
  obtain ⟨its, rv, ht, hz⟩ := I.tuple hs
  rw [List.length_map] at hz
  have each := rows_each rv
  have hlen := rv.length
  rw [List.length_map] at hlen
  obtain ⟨o, ho, hcl, n, hd⟩ := ht
  refine call_function_entry_kw PyProof.Rows.kind_sorted PyProof.Rows.plain_sorted PyProof.Rows.entry_sorted (ksk_s1 _ _) ?_
  unfold Builtin.«sorted»
  refine wpAny_bind (m := checkCount "sorted" 1 1 _) (wpAny_pure ?_)
  refine wpAny_bind (wpAny_collect_seq a (.inr rfl) ho hcl hd (fun h' hkp => ?_) (by rw [List.size_toArray]; omega))
  have I1 : Inv X pins σ H { s with heap := h', toks := s.toks } := I.kept hkp
  refine wpAny_bind (wpAny_newList ?_ (by simp; omega))
  have hoL : (h'.push (seqObj "list" its.toArray 0)).get? h'.objs.size = some (seqObj "list" its.toArray 0) := Heap.get?_push_size _ rfl
  have ne : ∀ {b : Addr} {o : Obj}, s.heap.get? b = some o → b ≠ h'.objs.size := fun e => Nat.ne_of_lt (Heap.lt_size (hkp _ _ e))
  refine wpAny_bind (wpAny_holding ?_)
  show wpAny (model X.prog X.w) X.A.in1 (call (.builtin "list.sort") [.ref h'.objs.size] [(Str.ofString "key", .ref f)]) _ _ { s with heap := h'.push (seqObj "list" its.toArray 0), toks := s.toks }
  refine list_sort_key_data (b := false) (s := { s with heap := h'.push (seqObj "list" its.toArray 0), toks := s.toks }) (fun r : Row => keyOf r.2) hoL each (all_alike rs) (all_sortable rs) hz (fun r _ => ?_) (ksk_l1 _ _) (ksk_t1 _ _) (fun v r ev hm h tk kp => ?_) fun out c h'' tk' kp hD hle eo => ?_
  · have hdep := depth_key r.2
    show X.A.units + 1 + 1 + (keyOf r.2).depth < cLine
    omega
  · subst ev
    obtain ⟨its', rv', ht', hz'⟩ := I.tuple (hr r hm)
    rw [List.length_map] at hz'
    obtain ⟨o', ho', hr'⟩ := ht'
    have up : ∀ b o, s.heap.get? b = some o → h.get? b = some o := fun b o e => kp b o (ne e) (Heap.get?_push_of_some _ (hkp _ _ e))
    exact hf h tk up r.1 r.2 its' rv' ⟨o', up _ _ ho', hr'⟩ hz'
  · have hle2 : ((rs.mergeSort leRow).map fun r => V.ref r.1).length ≤ sizeLine := by
      rw [List.length_map, List.length_mergeSort]
      exact hz
    have up : ∀ b o, h'.get? b = some o → h''.get? b = some o := fun b o e => kp b o (Nat.ne_of_lt (Heap.lt_size e)) (Heap.get?_push_of_some _ e)
    exact wpAny_pure ⟨_, rfl, .ref h'.objs.size, _, I1.laid (t' := tk') (o := .lst ((rs.mergeSort leRow).map fun r => V.ref r.1)) up (Nat.le_refl _) ⟨hle2, out, c, each_rows eo, hD⟩, rfl, q _ (I1.hok.fresh (Nat.le_refl _))⟩
end
section
variable {X : Cx}
/-- sorted(e, key=lambda x: (len(x), x)), e a tuple -/
def tSortLamT (K : PySem.W.Frag) (T : List (Addr × Str)) (te : TE) : TE := fun σ H Q => te σ H fun v H1 => ∃ (a : Addr) (rs : List Row), v = .ref a ∧ SqT K H1 a (rs.map fun r => V.ref r.1) ∧ (∀ r ∈ rs, SqT K H1 r.1 (r.2.map V.str)) ∧ LamX.Tabs T H1 ∧
  ∀ H2 p, LamX.ExtN H1 H2 → LamX.Tabs T H2 → H2 p = none → Q (.ref p) (upd H2 p (.lst ((rs.mergeSort leRow).map fun r => V.ref r.1)))
theorem pe_sortedLamT {T : List (Addr × Str)} {c P : Addr} {params : Arguments} {scope : Scope} {x : Str} {e : Expr} {te : TE} {p lpos kpos pos p1 p2 p3 p4 p5 : Pos} {k j : Nat} (hr : Room j X.A) (hu : X.A.units + 64 < cLine) (hg : Gl X "sorted") (hm : X.mg "sorted" = none) (hml : X.mg "len" = none) (he : PE X e te)
    (TB : LamX.TabB X.base X.mg c P) (hcode : X.env.code = .ref c) (hmT : (P, X.env.qual ++ "<lambda>") ∈ T) (hu2 : ∀ p ∈ T, p.1 = P → p.2 = X.env.qual ++ "<lambda>") (hdef : defaultsOf params X.env = ([], [])) (hfree : ∀ y ∈ scope.names, y.2 ≠ .free)
    (hbind : ∀ (q : Str) (clos : List (Str × Addr)) (pm cd ct v : Value), bindArgs (kla_fn "<lambda>" q params (.Tuple [.Call (.Name "len" p1) [.Name x p2] [] p3, .Name x p4] k p5) scope clos pm cd ct) ⟨[v], []⟩ = pure [(x, v)])
    (hk : scope.kind = .function) (hco : scope.isCoroutine = false) (hge : scope.isGenerator = false) (hc : ∀ y ∈ scope.names, y.2 ≠ .cell) (hx : scope.names.lookup x = some .local) (hl : scope.names.lookup ("len" : Str) = some .globalImplicit) (hdx : (x == ("__debug__" : Str)) = false)
    (h1 : backTo pos (starEach [e] X.env) = (false, eval e X.env) :: backTo pos (starEach [] X.env) := by rfl) :
    PE X (.Call (.Name "sorted" p) [e] [⟨some "key", .Lambda params (.Tuple [.Call (.Name "len" p1) [.Name x p2] [] p3, .Name x p4] k p5) scope lpos, kpos⟩] pos) (tSortLamT X.K T te) := by
  refine ⟨fun pins s σ H Q I h => ?_⟩
  refine wpAny_Call_Name_kw (ld_blt (u := .builtin "sorted") I hg hm (by decide +kernel) ?_ (by decide) (by decide))
  refine PyProof.Rows.callWith_kw ?_ h1 (by rw [h1]; rfl) (by rfl) (by rfl)
  rw [h1]
  refine Calls.spliced_cons (thn (he.run pins s σ H _ I h) fun u s1 ⟨v, H1, I1, r1, a, rs, ev, hs, hr', hT, q⟩ => Calls.spliced_nil ?_)
  subst ev
  obtain rfl : u = Value.ref a := r1
  show wpAny _ _ (evalAll [do let v ← eval (.Lambda params (.Tuple [.Call (.Name "len" p1) [.Name x p2] [] p3, .Name x p4] k p5) scope lpos) X.env; standAt pos; pure v]) _ _ s1
  refine wpAny_evalAll_cons (wpAny_bind (LamX.lam_make2 I1 TB hcode hmT hu2 hT hdef (fun y hy e => absurd e (hfree y hy)) fun f c' pm' ctv H2 s2 I2 eN T2 hf hfn hfr hco' => wpAny_bind (wpAny_standAt (wpAny_pure (wpAny_evalAll_nil ?_)))))
  refine sorted_tup I2 hu (sqT_ext hs eN) (fun r hr0 => sqT_ext (hr' r hr0) eN) (keyAt_lam I2 hr hf hco' hml (fun v => hbind _ _ _ _ _ v) hk hco hge hc hx hl hdx) fun p' np => q H2 p' eN T2 np
end
end Ka
/-! A call of a def by keywords alone. -/
namespace Ka
open PySem PySem.Spec PyProof.Rows L2
section
variable {X : Cx} {CX : CXT} {k : Nat} {f : Addr} {fd : FuncData} {ps ks : List Str} {sp : Sp} {E : XK} {x : Str} {p pos : Pos} {kws : List Keyword} {tk : TA} {g : List Value → List Value → List Value} {gV : List V → List V → List V}
def tCallK0 (sp : Sp) (gV : List V → List V → List V) (E : XK) (tk : TA) : TE := fun σ H Q => tk σ H fun zs H2 => sp (gV [] zs) H2 Q E
theorem pe_callK0 (F : FnOk X.prog X.w X.K X.mg X.base CX k f fd ps sp) (hr : Room k X.A) (hg : Gl X x) (hm : X.mg x = some (.ref f)) (hk : PySem.W.keepIn X.K (.ref f) = true) (hb : KBinds X.K fd ps ks g gV) (hx : Passes CX X E) (hkw : PK X kws tk)
    (hall : (backToKw pos (keywordEach kws X.env)).all (·.1.isSome) = true := by rfl) (hks : (backToKw pos (keywordEach kws X.env)).filterMap (·.1) = ks := by rfl) (hdb : (x == ("__debug__" : Str)) = false := by decide)
    (hpl : ((backTo pos (starEach [] X.env)).any (·.1) || (backToKw pos (keywordEach kws X.env)).any (·.1.isNone)) = false := by rfl) : PE X (.Call (.Name x p) [] kws pos) (tCallK0 sp gV E tk) := by
  constructor
  intro pins s σ H Q I h
  apply wpAny_Call_Name_kw
  apply ld_glob I hg hm ?_ hdb
  apply PySem.W.callWith_KW0 (h₀ := X.base) I.ok.mod.kin hk hall ?_ hpl
  apply thn (hkw.run pos pins s σ H _ I h)
  rintro ws s2 ⟨zs, H2, I2, rz, q2⟩
  rw [hks]
  exact ⟨I2.kIn, run_fnk F hr hb hx I2 .nil rz q2⟩
end
/-- two parameters, given by name in the other order -/
def swG {α : Type} (us ws : List α) : List α := match us, ws with
  | [], [a, b] => [b, a]
  | _, _ => []
theorem kb_swap {K : PySem.W.Frag} {fd : FuncData} {a b : Str} (h : ∀ x y : Value, bindArgs fd ⟨[], [(b, x), (a, y)]⟩ = pure [(a, y), (b, x)]) : KBinds K fd [a, b] [b, a] swG swG := by
  constructor
  · intro s us ws _ hl
    match us, ws, hl with
    | [], [x, y], _ => exact BindsTo.of_eq (h x y)
    | [], [], hl => exact absurd hl (by simp [swG])
    | [], [_], hl => exact absurd hl (by simp [swG])
    | [], _ :: _ :: _ :: _, hl => exact absurd hl (by simp [swG])
    | _ :: _, _, hl => exact absurd hl (by simp [swG])
  · intro vs us zs ws r rz
    cases r with
    | nil =>
      cases rz with
      | nil => exact .nil
      | cons a r =>
        cases r with
        | nil => exact .nil
        | cons b r =>
          cases r with
          | nil => exact .cons b (.cons a .nil)
          | cons _ _ => exact .nil
    | cons _ _ => exact .nil
/-- one parameter, given by name -/
def snG {α : Type} (us ws : List α) : List α := match us, ws with
  | [], [a] => [a]
  | _, _ => []
theorem kb_one {K : PySem.W.Frag} {fd : FuncData} {a : Str} (h : ∀ x : Value, bindArgs fd ⟨[], [(a, x)]⟩ = pure [(a, x)]) : KBinds K fd [a] [a] snG snG := by
  constructor
  · intro s us ws _ hl
    match us, ws, hl with
    | [], [x], _ => exact BindsTo.of_eq (h x)
    | [], [], hl => exact absurd hl (by simp [snG])
    | [], _ :: _ :: _, hl => exact absurd hl (by simp [snG])
    | _ :: _, _, hl => exact absurd hl (by simp [snG])
  · intro vs us zs ws r rz
    cases r with
    | nil =>
      cases rz with
      | nil => exact .nil
      | cons a r =>
        cases r with
        | nil => exact .cons a .nil
        | cons _ _ => exact .nil
    | cons _ _ => exact .nil
end Ka
namespace Kb
open PySem PySem.Spec PyProof.Rows L2
theorem isi_at {X : Cx} {K : PySem.W.Frag} (h : X.K = K) : CallR X (.builtin "isinstance") (rIsi K) := by
  subst h
  exact call_isi
theorem neD_at {X : Cx} {K : PySem.W.Frag} (h : X.K = K) (hu : X.A.units + 64 < cLine) : OpR X (compareOp .NotEq) (rNeD K) := by
  subst h
  exact op_neD hu
/-- the tables of the two makers of lambdas -/
def TL (P1 P2 : Addr) : List (Addr × Str) := [(P1, "_law_right.<locals>.<lambda>"), (P2, "_law_bound_right.<locals>.<lambda>")]
theorem lamName1 : ("_law_right" : Str) ++ ".<locals>." ++ "<lambda>" = "_law_right.<locals>.<lambda>" := by decide +kernel
theorem lamName2 : ("_law_bound_right" : Str) ++ ".<locals>." ++ "<lambda>" = "_law_bound_right.<locals>.<lambda>" := by decide +kernel
theorem lamIn1 (P1 P2 : Addr) : (P1, ("_law_right" : Str) ++ ".<locals>." ++ "<lambda>") ∈ TL P1 P2 := by
  rw [lamName1]
  exact List.mem_cons_self
theorem lamIn2 (P1 P2 : Addr) : (P2, ("_law_bound_right" : Str) ++ ".<locals>." ++ "<lambda>") ∈ TL P1 P2 := by
  rw [lamName2]
  exact List.mem_cons_of_mem _ List.mem_cons_self
theorem lamOf1 {P1 P2 : Addr} (h : P1 ≠ P2) : ∀ p ∈ TL P1 P2, p.1 = P1 → p.2 = ("_law_right" : Str) ++ ".<locals>." ++ "<lambda>" := fun p hp e => by
  rcases List.mem_cons.mp hp with rfl | hp
  · exact lamName1.symm
  · rw [List.mem_singleton.mp hp] at e
    exact absurd e.symm h
theorem lamOf2 {P1 P2 : Addr} (h : P1 ≠ P2) : ∀ p ∈ TL P1 P2, p.1 = P2 → p.2 = ("_law_bound_right" : Str) ++ ".<locals>." ++ "<lambda>" := fun p hp e => by
  rcases List.mem_cons.mp hp with rfl | hp
  · exact absurd e h
  · rw [List.mem_singleton.mp hp]
    exact lamName2.symm
section
variable {P : Program} {w : World} {K : PySem.W.Frag} {mg : Str → Option Value} {base : Heap}
abbrev nRight : List Str := ["told", "rows", "row", "at", "by", "one"]
theorem scRight : FnScope nRight ["told", "rows"] (defScope sRight) := ⟨rfl, rfl, rfl, by decide +kernel, rfl, by decide +kernel, by decide +kernel⟩
/-- the two functions that it asks -/
structure RightFn (K : PySem.W.Frag) (mg : Str → Option Value) (fA fL fS : Addr) (dA dL dS : FuncData) : Prop where
  A : Fun K "_law_in_all" "_law_in_all" sInAll fA dA
  L : Fun K "_law_lies_in" "_law_lies_in" sLiesIn fL dL
  S : Fun K "_law_all_struck" "_law_all_struck" sStruckAll fS dS
  bA : Binds K dA ["row", "rows"] []
  bL : Binds K dL ["u", "v"] []
  bS : Binds K dS ["row"] []
  gA : mg "_law_in_all" = some (.ref fA)
  gL : mg "_law_lies_in" = some (.ref fL)
  gS : mg "_law_all_struck" = some (.ref fS)
def spRight (K : PySem.W.Frag) (P1 P2 : Addr) : Sp := fun vs H Q _ => ∃ (c b : Addr) (ts rs : List Ka.Row) (r0 : Ka.Row), vs = [.ref c, .ref b] ∧ H c = some (.tup (adV ts)) ∧ Rows H ts ∧ H b = some (.lst (adV (r0 :: rs))) ∧ Rows H (r0 :: rs) ∧ ts.map (·.2) = comA ((r0 :: rs).map (·.2)) ∧ ts.length ≤ 5000 ∧ rs.length ≤ 50 ∧ r0.2.length ≤ 8 ∧ (∀ r ∈ r0 :: rs, r.2.length ≤ 400 ∧ ∀ z ∈ r.2, isName z = true) ∧ LamX.Tabs (TL P1 P2) H ∧
  ∀ H', LamX.ExtN H H' → LamX.Tabs (TL P1 P2) H' → Q (.bl true) H'
theorem ok_right {f fA fL fS c P1 P2 : Addr} {dA dL dS : FuncData} {oc dV kV doc pm ct : Value} {an od : Option Addr} {osl : Array (Option Value)}
    (lk : K.lookup f = some ⟨oc, od, .func (PySem.W.fnOf "_law_right" "_law_right" (defArgs sRight) (defBody sRight) (defScope sRight) dV kV doc pm an (.ref c) ct), osl⟩) (hcd : PySem.W.codeIn K (.ref c) "_law_right" = true) (TB : LamX.TabB base mg c P1) (hP : P1 ≠ P2)
    (T : RightFn K mg fA fL fS dA dL dS) (N : Nones mg) : FnOk P w K mg base CX0 3 f (PySem.W.fnOf "_law_right" "_law_right" (defArgs sRight) (defBody sRight) (defScope sRight) dV kV doc pm an (.ref c) ct) ["told", "rows"] (spRight K P1 P2) := by
  have GL : FnOk P w K mg base CX0 1 fL dL ["u", "v"] (spLies K) := ok_lies T.L N
  have GA : FnOk P w K mg base CX0 2 fA dA ["row", "rows"] (spInAll K) := ok_inAll T.A T.L T.bL T.gL N
  have GS : FnOk P w K mg base CX0 1 fS dS ["row"] (spAllStruck K) := ok_allStruck T.S N
  refine fn_of lk hcd scRight (fun vs H Q E h => ?_) (fun A outer s H vs Q E hr h => ?_)
  · obtain ⟨c, b, ts, rs, r0, rfl, _⟩ := h
    rfl
  · obtain ⟨c, b, ts, rs, r0, rfl, hC, hT, hB, hR, et, htl, hrl, h0, hN, hTb, q⟩ := h
    have hr1 := hr.mono (show 1 ≤ 2 by decide)
    suffices hs : ∃ t, PSs (cxOf CX0 P w K mg base nRight "_law_right" (defScope sRight) f (.ref _) A outer s H E).nox (defBody sRight) t ∧ t { nx := fun _ H' => Q .non H', rt := Q } (L2.start nRight [.ref c, .ref b]) H by
      obtain ⟨t, h1, h2⟩ := hs
      exact ⟨t, h1.nox, h2⟩
    refine ⟨_, pss_cons (ps_if (PW.pt (pw_or (pt_not (pt_val (pe_callB call_isi (by rfl) N.isinstance (by decide +kernel) (pa_cons (pv 0) (pa_cons (pe_bltn (v := .ty "tuple") (by rfl) N.tuple (by decide +kernel) rfl) pa_nil)))))
        (pw_or1 (pt_not (pt_val (pe_callB (cr_all rfl) (by rfl) N.all (by decide +kernel) (pa_cons
          (pe_lc (own := [("row", 2)]) (g := gName 2) (tt := tYes) rfl scRight.nd (pi_tup (pv 0)) (blkOk_by (own := [("row", 2)]) (N := nRight) (sc := defScope sRight) (by decide +kernel)) (fun _ _ _ _ _ => pg_name (i := 2) scRight.nd rfl (Or.inl rfl)) (fun _ _ _ _ _ => pts_nil)
            (fun _ _ _ _ _ => pe_callB (isi_at (K := K) rfl) (by rfl) N.isinstance (by decide +kernel) (pa_cons (pv 2) (pa_cons (pe_bltn (v := .ty "tuple") (by rfl) N.tuple (by decide +kernel) rfl) pa_nil)))) pa_nil))))))) (pss_one (ps_ret pe_bl)) pss_nil)
      (pss_cons (ps_if (pt_cmpR (op_neD hr.units) (pe_callTy call_list_of (by rfl) N.list (by decide +kernel) (pa_cons (pv 0) pa_nil)) (Ka.pe_sortedLamT (T := TL P1 P2) (x := "row") hr hr.units (by rfl) N.sorted N.len (pv 0) TB rfl (lamIn1 P1 P2) (lamOf1 hP) rfl (by decide +kernel) (fun _ _ _ _ _ _ => rfl) rfl rfl rfl (by decide +kernel) (by rfl) (by rfl) (by decide)) (nomark _)) (pss_one (ps_ret pe_bl)) pss_nil)
      (pss_cons (ps_for PassesOwn.never rfl (Ka.pi_enumT (by rfl) N.enumerate (pa_cons (pv 0) pa_nil)) (pg_tup rfl (pgs_cons (pg_name (i := 3) scRight.nd rfl (.inr rfl)) (pgs_cons (pg_name (i := 2) scRight.nd rfl (.inr rfl)) pgs_nil)))
        (pss_cons (ps_if (pt_not (pt_val (pe_call GA hr (by rfl) T.gA T.A.kp T.bA .nil pass0 (pa_cons (pv 2) (pa_cons (pv 1) pa_nil))))) (pss_one (ps_ret pe_bl)) pss_nil)
        (pss_one (ps_if (pt_cmpR (op_neD hr.units) (pe_lc (own := [("by", 4)]) (g := gName 4) rfl scRight.nd (pi_range1 (by rfl) N.range (pa_cons (pe_callB call_len_seq (by rfl) N.len PySem.boot_len (pa_cons (pv 0) pa_nil)) pa_nil)) (blkOk_by (own := [("by", 4)]) (N := nRight) (sc := defScope sRight) (by decide +kernel)) (fun _ _ _ _ _ => pg_name (i := 4) scRight.nd rfl (Or.inl rfl))
            (fun _ _ _ _ _ => pts_one (PW.pt (pw_and (pt_cmpR op_ne (pv 4) (pv 3) (nomark _)) (pw_and1 (pt_val (pe_call GL hr1 (by rfl) T.gL T.L.kp T.bL .nil pass0 (pa_cons (pv 2) (pa_cons (pe_ix (ixT_at (K := K) rfl) (pv 0) (pv 4) (fun _ _ => rfl)) pa_nil))))))))
            (fun _ _ _ _ _ => pv 4)) (pe_lst pa_nil) (nomark _)) (pss_one (ps_ret pe_bl)) pss_nil))))
      (pss_cons (ps_for PassesOwn.never rfl (pi_list (pe_call GS hr1 (by rfl) T.gS T.S.kp T.bS .nil pass0 (pa_cons (pe_ix ix_list (pv 1) pe_int (fun _ _ => rfl)) pa_nil))) (pg_name (i := 2) scRight.nd rfl (.inr rfl))
        (pss_one (ps_if (PW.pt (pw_and (pt_val (pe_call GA hr (by rfl) T.gA T.A.kp T.bA .nil pass0 (pa_cons (pv 2) (pa_cons (pv 1) pa_nil))))
          (pw_and1 (pt_cmpR (op_eqD hr.units) (pe_lc (own := [("one", 5)]) (g := gName 5) rfl scRight.nd (pi_tup (pv 0)) (blkOk_by (own := [("one", 5)]) (N := nRight) (sc := defScope sRight) (by decide +kernel)) (fun _ _ _ _ _ => pg_name (i := 5) scRight.nd rfl (Or.inl rfl))
            (fun _ _ _ _ _ => pts_one (pt_val (pe_call GL hr1 (by rfl) T.gL T.L.kp T.bL .nil pass0 (pa_cons (pv 2) (pa_cons (pv 5) pa_nil)))))
            (fun _ _ _ _ _ => pv 5)) (pe_lst pa_nil) (nomark _))))) (pss_one (ps_ret pe_bl)) pss_nil)))
      (pss_one (ps_ret pe_bl))))), ?_⟩
    have s1000 : ∀ n, n ≤ 1000000 → n ≤ sizeLine := fun n h => smallE h
    rw [List.map_cons] at et
    have hmem : ∀ (P : List Str → Prop), (∀ r ∈ r0.2 :: rs.map (·.2), P r) ↔ ∀ r ∈ r0 :: rs, P r.2 := fun P => by
      rw [← List.map_cons (f := fun x : Ka.Row => x.2), List.forall_mem_map]
    have ht1 : ∀ t ∈ ts, ∀ r ∈ r0 :: rs, t.2.Sublist r.2 := fun t ht => by
      have h : t.2 ∈ comA (r0.2 :: rs.map (·.2)) := by rw [← et]; exact List.mem_map_of_mem ht
      exact (hmem _).mp (comA_mem.mp h).1
    have ht2 : ∀ t ∈ ts, ∀ u ∈ ts, t.2.Sublist u.2 → t.2 = u.2 := fun t ht u hu hs => by
      have h : t.2 ∈ comA (r0.2 :: rs.map (·.2)) := by rw [← et]; exact List.mem_map_of_mem ht
      exact (comA_mem.mp h).2 _ ((hmem _).mpr (ht1 u hu)) hs
    have ht3 : ∀ x : List Str, (∀ r ∈ r0 :: rs, x.Sublist r.2) → ∃ t ∈ ts, x.Sublist t.2 := fun x hx => by
      obtain ⟨y, hy, hs⟩ := comA_some ((hmem _).mpr hx)
      rw [← et] at hy
      obtain ⟨t, ht, rfl⟩ := List.mem_map.mp hy
      exact ⟨t, ht, hs⟩
    have hnd : (ts.map (·.2)).Nodup := by rw [et]; exact comA_nd _
    have hso : (ts.map (·.2)).Pairwise fun a b => Ka.rowLe a b = true := by rw [et]; exact comA_so _
    have hall : ∀ t ∈ ts, inAll ((r0 :: rs).map (·.2)) t.2 = true := fun t ht => by
      unfold inAll
      rw [List.all_eq_true]
      exact List.forall_mem_map.mpr fun r hr => sub_iff.mpr (ht1 t ht r hr)
    have ntm : ∀ t ∈ ts, ∀ z ∈ t.2, isName z = true := fun t ht z hz => (hN r0 List.mem_cons_self).2 z ((ht1 t ht r0 List.mem_cons_self).subset hz)
    have htl8 : ∀ t ∈ ts, t.2.length ≤ 1000 := fun t ht => by
      have := (ht1 t ht r0 List.mem_cons_self).length_le
      omega
    have hl1000 : ∀ r ∈ r0 :: rs, r.2.length ≤ 1000 := fun r hr => by
      have := (hN r hr).1
      omega
    have shT : SeqAt.shaped (.list ((ts.map (·.2)).map Ka.rowD)) = true := (shRows fun q hq z hz => by
      obtain ⟨g, hg, rfl⟩ := List.mem_map.mp hq
      exact ntm g hg z hz).1
    have sh0 : SeqAt.shaped (.list []) = true := (shRows (l := []) (fun r hr => by cases hr)).1
    refine ⟨.ref c, rfl, .ref c, .ty "tuple", .type "tuple", .type "tuple", true, rfl, .ty "tuple", tyT (sqT_new hC), kit_ty (by decide +kernel), true, rfl, iteF ?_⟩
    refine ⟨.ref c, rfl, c, rfl, ⟨_, sqT_new hC⟩, fun D nD => ?_⟩
    refine lc_it (walk_tup (K := K) (a := c) (xs := adV ts)) (fun i H2 => Same H H2 ∧ H2 D = some (.lst ((List.replicate i true).map V.bl))) ⟨same_new nD, upd_same⟩ (fun i H2 _ h => sqT_new (h.1 _ _ hC)) (fun i x H2 H3 hi h2 y => ?_) (fun H2 h2 => ?_)
    · obtain ⟨rfl, hx⟩ := y
      obtain ⟨sm, eD⟩ := h2
      obtain ⟨r, hr, rfl⟩ := get_map hx
      have hil := lt_of_get hr
      refine ⟨rfl, .ref r.1, rfl, .ref r.1, .ty "tuple", .type "tuple", .type "tuple", true, rfl, .ty "tuple", tyT (sqT_new (sm _ _ (hT r (List.mem_of_getElem? hr)))), kit_ty (by decide +kernel), _, eD, ?_, fun c o e => ?_, ?_⟩
      · rw [List.length_map, List.length_replicate]
        exact small (by omega)
      · rw [upd_ne (ne_of_none e nD)]
        exact sm _ _ e
      · rw [upd_same, List.replicate_succ', List.map_append]
        rfl
    obtain ⟨sm2, eD⟩ := h2
    refine ⟨D, _, rfl, sqL_new eD, ?_⟩
    have ea : ∀ n, (List.replicate n true).all id = true := fun n => by
      rw [List.all_eq_true]
      intro x hx
      rw [List.eq_of_mem_replicate hx]
      rfl
    rw [ea]
    refine ⟨true, rfl, iteF ?_⟩
    -- list(told) != sorted(told, ..)
    refine ⟨.ref c, rfl, c, _, rfl, .inr (sqT_new (sm2 _ _ hC)), fun l nl => ?_⟩
    have sl := same_new (o := .lst (adV ts)) nl
    have s2l := sm2.trans sl
    have el : upd H2 l (.lst (adV ts)) l = some (.lst (adV ts)) := upd_same
    generalize upd H2 l (.lst (adV ts)) = H2' at s2l el ⊢
    refine ⟨.ref c, rfl, c, ts, rfl, sqT_new (s2l _ _ hC), fun r hr => sqT_new (s2l _ _ (hT r hr)), hTb.ext s2l, fun H2 p eN T2 np => ?_⟩
    have sp_ := same_new (o := .lst (adV (ts.mergeSort Ka.leRow))) np
    have ep : upd H2 p (.lst ((ts.mergeSort Ka.leRow).map fun r => V.ref r.1)) p = some (.lst (adV (ts.mergeSort Ka.leRow))) := upd_same
    have s23 : Same H2 (upd H2 p (.lst ((ts.mergeSort Ka.leRow).map fun r => V.ref r.1))) := sp_
    generalize upd H2 p (.lst ((ts.mergeSort Ka.leRow).map fun r => V.ref r.1)) = H3 at ep s23 ⊢
    have x3 : LamX.ExtN H H3 := ((LamX.ExtN.of s2l).trans eN).trans (LamX.ExtN.of s23)
    have T3 : LamX.Tabs (TL P1 P2) H3 := T2.ext s23
    have el3 : H3 l = some (.lst (adV ts)) := s23 _ _ (eN _ _ el (fun ps z => by cases z))
    have hC3 : H3 c = some (.tup (adV ts)) := x3 _ _ hC (fun ps z => by cases z)
    have hB3 : H3 b = some (.lst (adV (r0 :: rs))) := x3 _ _ hB (fun ps z => by cases z)
    have hT3 : Rows H3 ts := fun r hr => x3 _ _ (hT r hr) (fun ps z => by cases z)
    have hR3 : Rows H3 (r0 :: rs) := fun r hr => x3 _ _ (hR r hr) (fun ps z => by cases z)
    have memS : ∀ r, r ∈ ts.mergeSort Ka.leRow ↔ r ∈ ts := fun r => List.mem_mergeSort
    have eS : (ts.mergeSort Ka.leRow).map (·.2) = (ts.map (·.2)).mergeSort Ka.rowLe := PySem.W.sort_maps (fun r : Ka.Row => r.2) fun _ _ _ _ => rfl
    have eS2 : (ts.mergeSort Ka.leRow).map (·.2) = ts.map (·.2) := by
      rw [eS]
      exact so_eq ((List.mergeSort_perm _ _).nodup_iff.mpr hnd) hnd (PySem.W.sort_pairwise le_total _) hso fun x => (List.mergeSort_perm _ _).mem_iff
    refine ⟨.list ((ts.map (·.2)).map Ka.rowD), .list (((ts.mergeSort Ka.leRow).map (·.2)).map Ka.rowD), .lst (sqL_new el3) (dpRows hT3), .lst (sqL_new ep) (dpRows fun r hr => hT3 r ((memS r).mp hr)), shT, by rw [eS2]; exact shT, ?_⟩
    rw [PyData.eqv, eqRows, eS2, decide_eq_true rfl]
    refine ⟨_, rfl, iteF ?_⟩
    refine ⟨.ref c, rfl, c, adV ts, rfl, sqT_new hC3, ?_⟩
    refine Ka.for_enumT (K := K) (xs := adV ts) (fun i σ H' => ∃ d2 d3, σ = [some (.ref c), some (.ref b), d2, d3, none, none] ∧ Same H3 H') ⟨none, none, rfl, fun _ _ e => e⟩ (fun i σ H' ⟨_, _, _, sm⟩ => sqT_new (sm _ _ hC3)) ?_ ?_
    · rintro i x Tp σ H' hx ⟨d2, d3, rfl, sm⟩ nT
      obtain ⟨r, hr, rfl⟩ := get_map hx
      have hrm := List.mem_of_getElem? hr
      have smT := sm.trans (same_new (o := .tup [.int (i : Nat), .ref r.1]) nT)
      refine ⟨Tp, [.int (i : Nat), .ref r.1], rfl, .inl (.inl upd_same), rfl, _, _, rfl, _, _, rfl, rfl, ?_⟩
      generalize upd H' Tp (.tup [.int (i : Nat), .ref r.1]) = H4 at smT ⊢
      refine ⟨.ref r.1, rfl, .ref b, rfl, r.1, b, r.2, r0 :: rs, rfl, smT _ _ (hT3 r hrm), smT _ _ hB3, hR3.mono smT, htl8 r hrm, by rw [List.length_cons]; omega, hl1000, fun H5 s5 => ?_⟩
      rw [hall r hrm]
      refine ⟨true, rfl, iteF ?_⟩
      have s35 := smT.trans s5
      refine ⟨.ref c, rfl, c, _, rfl, .inr (sqT_new (s35 _ _ hC3)), (((adV ts).length : Nat) : Int), rfl, by omega, by rw [adV_len]; omega, fun D nD => ?_⟩
      refine lc_it (walk_r0 (n := (adV ts).length)) (fun j H6 => Same H5 H6 ∧ H6 D = some (.lst [])) ⟨same_new nD, upd_same⟩ (fun _ _ _ _ => True.intro) (fun j y H6 H7 hj h yy => ?_) (fun H6 h => ?_)
      · obtain ⟨rfl, rfl⟩ := yy
        obtain ⟨s6, eD6⟩ := h
        have s36 := s35.trans s6
        refine ⟨rfl, .int (j : Nat), rfl, .int (i : Nat), rfl, rfl, _, rfl, ?_⟩
        by_cases e : j = i
        · subst e
          rw [decide_eq_true rfl]
          exact iteF ⟨s6, eD6⟩
        · have ne : ¬ V.int (j : Nat) = V.int (i : Nat) := fun z => e (by
            have := V.int.inj z
            omega)
          rw [decide_eq_false ne]
          rw [adV_len] at hj
          have hg : ts[j]? = some (ts[j]'hj) := List.getElem?_eq_getElem hj
          generalize ts[j]'hj = g at hg
          have hgm := List.mem_of_getElem? hg
          have hg' : (adV ts)[j]? = some (.ref g.1) := by
            unfold adV
            rw [List.getElem?_map, hg]
            rfl
          have hs : sub r.2 g.2 = false := by
            rw [sub_eq]
            refine decide_eq_false fun z => ?_
            have e2 := ht2 r hrm g hgm z
            have h1 : (ts.map (·.2))[i]? = some r.2 := by rw [List.getElem?_map, hr]; rfl
            have h2 : (ts.map (·.2))[j]? = some r.2 := by rw [List.getElem?_map, hg, e2]; rfl
            obtain ⟨l1, e1⟩ := List.getElem?_eq_some_iff.mp h1
            obtain ⟨l2, e3⟩ := List.getElem?_eq_some_iff.mp h2
            rcases Nat.lt_or_gt_of_ne e with lt | lt
            · exact List.pairwise_iff_getElem.mp hnd j i l2 l1 lt (e3.trans e1.symm)
            · exact List.pairwise_iff_getElem.mp hnd i j l1 l2 lt (e1.trans e3.symm)
          refine iteT ⟨.ref r.1, rfl, .ref c, rfl, .int (j : Nat), rfl, c, _, _, _, rfl, rfl, sqT_new (s36 _ _ hC3), atI_nat hg', r.1, g.1, r.2, g.2, rfl, sqT_new (s36 _ _ (hT3 r hrm)), sqT_new (s36 _ _ (hT3 g hgm)), htl8 r hrm, htl8 g hgm, ?_⟩
          rw [hs]
          exact ⟨_, rfl, iteF ⟨s6, eD6⟩⟩
      · obtain ⟨s6, eD6⟩ := h
        refine ⟨Nat.zero_le _, fun t nt => ?_⟩
        have s7 := same_new (o := .lst []) nt
        exact ⟨.list [], .list [], .lst (sqL_new (s7 _ _ eD6)) .nil, .lst (sqL_new upd_same) .nil, sh0, sh0, _, rfl, iteF ⟨_, _, rfl, (s35.trans s6).trans s7⟩⟩
    · rintro σ H4 ⟨d2, d3, rfl, s34⟩
      refine ⟨.ref b, rfl, b, adV (r0 :: rs), 0, .ref r0.1, rfl, rfl, sqL_new (s34 _ _ hB3), atI_nat (j := 0) rfl, r0.1, r0.2, rfl, s34 _ _ (hR3 r0 List.mem_cons_self), h0, (hN r0 List.mem_cons_self).2, fun H5 p5 ss s5 np5 ep5 hS hSub hsl => ?_⟩
      have s35 := s34.trans s5
      refine ⟨p5, rfl, ⟨_, sqL_new ep5⟩, for_list (K := K) (a := p5) (xs := adV ss) (fun i σ H' => ∃ d2, σ = [some (.ref c), some (.ref b), d2, d3, none, none] ∧ Same H5 H') ⟨_, rfl, fun _ _ e => e⟩ (fun i σ H' _ ⟨_, _, sm⟩ => sqL_new (sm _ _ ep5)) ?_ ?_⟩
      · rintro i x σ H6 hx ⟨d2, rfl, s6⟩
        obtain ⟨r, hr, rfl⟩ := get_map hx
        have hrm := List.mem_of_getElem? hr
        have s36 := s35.trans s6
        have hrl : r.2.length ≤ 1000 := by
          have := (hSub r hrm).length_le
          omega
        refine ⟨.ref r.1, rfl, .ref b, rfl, r.1, b, r.2, r0 :: rs, rfl, s6 _ _ (hS r hrm), s36 _ _ hB3, hR3.mono s36, hrl, by rw [List.length_cons]; omega, hl1000, fun H7 s7 => ?_⟩
        have s37 := s36.trans s7
        have s57 := s6.trans s7
        cases hia : inAll ((r0 :: rs).map (·.2)) r.2 with
        | false => exact ⟨_, rfl, iteF ⟨_, rfl, s57⟩⟩
        | true =>
          have hx : ∀ g ∈ r0 :: rs, r.2.Sublist g.2 := by
            unfold inAll at hia
            rw [List.all_eq_true] at hia
            exact fun g hg => sub_iff.mp (hia _ (List.mem_map_of_mem hg))
          obtain ⟨t0, ht0, hs0⟩ := ht3 r.2 hx
          refine ⟨_, rfl, iteT ?_⟩
          refine ⟨.ref c, rfl, c, rfl, ⟨_, sqT_new (s37 _ _ hC3)⟩, fun D nD => ?_⟩
          refine lc_it (walk_tup (K := K) (a := c) (xs := adV ts)) (fun j H8 => Same H7 H8 ∧ ∃ gs : List Ka.Row, H8 D = some (.lst (adV gs)) ∧ (∀ g ∈ gs, g ∈ ts) ∧ gs.length ≤ j ∧ (t0 ∈ ts.take j → gs ≠ [])) ⟨same_new nD, [], upd_same, (fun g hg => by cases hg), Nat.le_refl _, fun z => by cases z⟩ (fun j H8 _ h => sqT_new (h.1 _ _ (s37 _ _ hC3))) (fun j y H8 H9 hj h yy => ?_) (fun H8 h => ?_)
          · obtain ⟨rfl, hy⟩ := yy
            obtain ⟨s8, gs, eD8, hgs, hgl, hne⟩ := h
            obtain ⟨g, hg, rfl⟩ := get_map hy
            have hgm := List.mem_of_getElem? hg
            have hjl := lt_of_get hg
            refine ⟨rfl, .ref r.1, rfl, .ref g.1, rfl, r.1, g.1, r.2, g.2, rfl, sqT_new (s8 _ _ (s57 _ _ (hS r hrm))), sqT_new (s8 _ _ (s37 _ _ (hT3 g hgm))), hrl, htl8 g hgm, ?_⟩
            cases hsg : sub r.2 g.2 with
            | false =>
              refine ⟨_, rfl, iteF ⟨s8, gs, eD8, hgs, by omega, fun z => ?_⟩⟩
              rw [take_of_get hg] at z
              rcases List.mem_append.mp z with h | h
              · exact hne h
              · rw [List.mem_singleton] at h
                rw [← h, sub_iff.mpr hs0] at hsg
                cases hsg
            | true =>
              refine ⟨_, rfl, iteT ⟨.ref g.1, rfl, _, eD8, ?_, fun cc u e => ?_, gs ++ [g], ?_, fun q hq => ?_, ?_, fun _ z => ?_⟩⟩
              · rw [adV_len]
                exact small (by omega)
              · rw [upd_ne (ne_of_none e nD)]
                exact s8 _ _ e
              · rw [upd_same]
                unfold adV
                rw [List.map_append]
                rfl
              · rcases List.mem_append.mp hq with h | h
                · exact hgs q h
                · rw [List.mem_singleton.mp h]
                  exact hgm
              · rw [List.length_append]
                show _ + 1 ≤ _
                omega
              · have := congrArg List.length z
                rw [List.length_append] at this
                cases this
          · obtain ⟨s8, gs, eD8, hgs, hgl, hne⟩ := h
            rw [adV_len, List.take_length] at hne
            have hne := hne ht0
            refine ⟨Nat.zero_le _, fun t nt => ?_⟩
            have s9 := same_new (o := .lst []) nt
            have s89 := s8.trans s9
            refine ⟨.list ((gs.map (·.2)).map Ka.rowD), .list (([] : List (List Str)).map Ka.rowD), .lst (sqL_new (s9 _ _ eD8)) (dpRows fun g hg => s89 _ _ (s37 _ _ (hT3 g (hgs g hg)))), .lst (sqL_new upd_same) .nil, (shRows fun q hq z hz => by
              obtain ⟨g, hg, rfl⟩ := List.mem_map.mp hq
              exact ntm g (hgs g hg) z hz).1, sh0, ?_⟩
            rw [PyData.eqv, eqRows, decide_eq_false (fun z => hne (List.map_eq_nil_iff.mp z))]
            exact ⟨_, rfl, iteF ⟨_, rfl, s57.trans s89⟩⟩
      · rintro σ H6 ⟨d2, rfl, s6⟩
        exact q H6 (x3.trans (LamX.ExtN.of (s35.trans s6))) (T3.ext (s35.trans s6))
end
end Kb
namespace Kb
open PySem PySem.Spec PyProof.Rows L2
/-! ### isinstance of a caught error that has fields -/
def rIsX (K : PySem.W.Frag) (C a : Addr) (cls : Value) (d : Option Addr) : List V → Hp → VK → Prop := fun xs H Q => ∃ (c : V) (cv : Value) (b : Bool) (dd : Addr) (fs : List (Str × V)), xs = [.ref a, c] ∧ cls = .ref C ∧ (∀ u, RelV c u → u = cv) ∧ d = some dd ∧ H dd = some (.xd fs) ∧ PySem.W.kitOne K (.ref C) cv = some b ∧ Q (.bl b) H
theorem call_isX {X : Cx} {a C : Addr} {oe : Obj} {cls : Value} {d : Option Addr} {pn : List (Addr × Obj)} (T : ExcC X.K C) (hcl : (PySem.W.clsIn X.K C).isSome = true) (hz : Zc cls d oe) (hf : ∃ vs, oe.data = .fields vs) : CallR (X.suite a ((a, oe) :: pn)) (.builtin "isinstance") (rIsX X.K C a cls d) := by
  intro pins s σ H xs us Q I r h
  obtain ⟨c, cv, b, dd, fs, rfl, rfl, hcv, rfl, ed, e, q⟩ := h
  obtain ⟨u1, u2, rfl, r1, r2⟩ := vals2 r
  obtain rfl := hcv _ r2
  obtain rfl : u1 = Value.ref a := r1
  obtain ⟨hget, _⟩ := I.pin (a, oe) (List.mem_append.mpr (.inl List.mem_cons_self))
  obtain ⟨vs, hv⟩ := hf
  obtain ⟨mA, hns, _⟩ := (show ObjOk X.prog X.w H s.heap dd (.xd fs) from I.hok dd _ ed)
  obtain ⟨od, ho, _⟩ := lookIn_ns hns
  have J : PySem.W.InstAt s.heap a oe C (some od) := by
    refine ⟨hget, hz.1, ?_, ?_⟩
    · unfold PySem.W.notCls
      rw [hv] <;> rfl
    · rw [hz.2]
      exact ho
  exact PySem.W.kia_one (PySem.W.kitx_exc hcl T.hg T.hk T.hs T.ha T.hn T.ht T.hm) I.kIn J e (fun z => nomatch z) fun tk => ⟨.bl b, H, I.kept (t' := tk) fun _ _ z => z, rfl, q⟩
section
variable {P : Program} {w : World} {K : PySem.W.Frag} {mg : Str → Option Value} {base : Heap}
/-- what more the written part says of the class Refused at C and of StillError at S -/
structure CatchC (K : PySem.W.Frag) (mg : Str → Option Value) (C S : Addr) : Prop where
  te : PySem.W.exmOne K (.ref C) (.ref C) = some true
  xf : XfC K C
  is : ExcC K C
  cl : (PySem.W.clsIn K C).isSome = true
  gS : mg "StillError" = some (.ref S)
  kS : PySem.W.kitOne K (.ref C) (.ref S) = some true
  kV : PySem.W.kitOne K (.ref C) (.type "ValueError") = some true
theorem takes_len {X : Cx} {W : WX} (t : Takes X W) : Takes X (fun c d σ H => σ.length = X.N.length → W c d σ H) := fun u s' ⟨a, B, sI, pins, σ, H, cls, d, e, I, nb, up, sky, na, os, ag, w⟩ =>
  t u s' ⟨a, B, sI, pins, σ, H, cls, d, e, I, nb, up, sky, na, os, ag, w I.len⟩
theorem pe_weak {X : Cx} {e : Expr} {t : TE} (h : PE X e t) : PE X e (fun σ H Q => ∃ Qc : VK, (∀ v H', Qc v H' → Q v H') ∧ t σ H Qc) :=
  ⟨fun pins s σ H Q I ⟨Qc, hq, ht⟩ => thn (h.run pins s σ H Qc I ht) fun u s1 ⟨v, H1, I1, r1, q1⟩ => ⟨v, H1, I1, r1, hq v H1 q1⟩⟩
/-- what _law_said makes of its argument -/
def TSaid (C : Addr) : (XK → Hp → VK → Prop) → Hp → VK → Prop := fun tl H Q =>
  tl (fun cls d H' => cls = .ref C ∧ ∃ (dd : Addr) (z : Str), d = some dd ∧ H' dd = some (.xd [("word", .str z)]) ∧ ∀ p, H' p = none → Q (.ref p) (upd H' p (.tup [.str "refused", .str z, .bl true])))
    H (fun v H' => ∀ p, H' p = none → Q (.ref p) (upd H' p (.tup [.str "told", v])))
theorem word_field (z : Str) : List.lookup ("word" : Str) [(("word" : Str), V.str z)] = some (V.str z) := by
  rw [List.lookup_cons]
  have : ((("word" : Str)) == ("word" : Str)) = true := by decide +kernel
  rw [this]
abbrev nSaid : List Str := ["work", "told", "error"]
theorem scSaid : FnScope nSaid ["work"] (defScope sSaid) := ⟨rfl, rfl, rfl, by decide +kernel, rfl, by decide +kernel, by decide +kernel⟩
theorem said_gives {X : Cx} {C S fI : Addr} {dI : FuncData} {q : Str} {g : Addr} {cdg : Value} (R : RefC X.K X.mg C fI dI) (Z : CatchC X.K X.mg C S) (mi : X.mg "isinstance" = none) (mv : X.mg "ValueError" = none) :
    LamX.GivesTo X nSaid "_law_said" (defScope sSaid) g cdg (defBody sSaid) "work" q (TSaid C) := by
  intro f c' s H Q tl act hc h
  refine ⟨_, pss_cons (ps_try_as (X := (cxOf C8.CX0 X.prog X.w X.K X.mg X.base nSaid "_law_said" (defScope sSaid) g cdg X.A X.stack s H C8.E0).nox) (i := 2) (c := .ref C)
      (tb := fun W D σ H => ∃ (Ech : XK) (Qc : VK), (∀ cls d σ' H', Ech cls d H' → σ'.length = 3 → W cls d σ' H') ∧ (∀ v H', Qc v H' → gName 1 v σ H' D.nx) ∧ σ[0]? = some (some (.ref f)) ∧ H c' = some (LamX.CodeO c' q) ∧ tl Ech H Qc)
      (ts := fun a cls d => tRet (tTup (tCons (tC (.str "refused")) (tCons (tXf a cls d C "word" (tVar 2)) (tCons (tAndV (tCB (rIsX X.K C a cls d) (tCons (tVar 2) (tCons (tC (.ref S)) tNil))) (tCB (rIsX X.K C a cls d) (tCons (tVar 2) (tCons (tC (.ty "ValueError")) tNil)))) tNil))))) (Wout := fun _ _ _ _ => False) rfl rfl scSaid.nd rfl rfl ⟨rfl, by decide, .inl R.gC⟩ LamX.takes0
      (fun W pn xe tk _ => ?_)
      (fun a oe cls d pn hz hf => pss_one (ps_ret (pe_tup (pa_cons pe_str (pa_cons (pe_xf Z.xf R.no hz hf (pv 2)) (pa_cons (pe_and (pe_callB (call_isX Z.is Z.cl hz hf) (by rfl) mi (by decide +kernel) (pa_cons (pv 2) (pa_cons (pe_glob (v := .ref S) rfl Z.gS rfl) pa_nil)))
            (pe_one (pe_callB (call_isX Z.is Z.cl hz hf) (by rfl) mi (by decide +kernel) (pa_cons (pv 2) (pa_cons (pe_bltn (v := .ty "ValueError") (by rfl) mv (by decide +kernel) rfl) pa_nil))))) pa_nil)))))))
    (pss_one (ps_ret (pe_tup (pa_cons pe_str (pa_cons (pv 1) pa_nil))))), ?_⟩
  · refine ⟨fun pins s' σ H' D I h' => ?_⟩
    obtain ⟨Ech, Qc, hW, hQ, h1, h2, h3⟩ := h'
    have hp := fun p1 p2 => pe_weak (act _ pn xe Ech p1 p2 (takes_len tk) hW)
    exact (pss_one (ps_set (i := 1) scSaid.nd rfl (.inl rfl) (hp _ _))).run pins s' σ H' D I ⟨Qc, hQ, h1, h2, h3⟩
  · refine ⟨_, _, ?_, ?_, rfl, hc, h⟩
    · rintro cls d σ' H' ⟨rfl, dd, z, rfl, ed, hq⟩ hl
      obtain ⟨v0, v1, v2, rfl⟩ : ∃ v0 v1 v2, σ' = [v0, v1, v2] := by
        match σ', hl with
        | [v0, v1, v2], _ => exact ⟨v0, v1, v2, rfl⟩
      refine ⟨true, Z.te, fun _ a na => ?_, fun w => Bool.noConfusion w⟩
      refine ⟨.ref a, rfl, rfl, rfl, dd, _, .str z, rfl, ed, word_field z, ?_⟩
      refine ⟨.ref a, rfl, .ref S, .ref S, true, dd, _, rfl, rfl, (fun u h => h), rfl, ed, Z.kS, true, rfl, iteT ?_⟩
      refine ⟨.ref a, rfl, .ty "ValueError", .type "ValueError", true, dd, _, rfl, rfl, (fun u h => h), rfl, ed, Z.kV, ?_⟩
      exact ⟨smallE (by show 3 ≤ 1000000; decide), hq⟩
    · intro v H' hq
      exact ⟨v, rfl, smallE (show 2 ≤ 1000000 by decide), hq⟩
end
end Kb
namespace Kb
open PySem PySem.Spec PyProof.Rows L2
/-! ### a row within all others -/
theorem comA_one {s t : List Str} {l : List (List Str)} (hs : s ∈ t :: l) (h : ∀ r ∈ t :: l, s.Sublist r) : comA (t :: l) = [s] :=
  comA_is (List.nodup_cons.mpr ⟨by simp, List.nodup_nil⟩) (List.pairwise_cons.mpr ⟨(fun a ha => by cases ha), List.Pairwise.nil⟩) fun x => by
    rw [List.mem_singleton]
    constructor
    · rintro rfl
      exact ⟨h, fun y hy hs2 => hs2.eq_of_length_le (hy _ hs).length_le⟩
    · rintro ⟨h1, h2⟩
      exact h2 s h (h1 s hs)
abbrev lngR (nm : Str) (m : Nat) : List Str := List.replicate m nm
abbrev mixR (nm ot : Str) (m : Nat) : List Str := [ot] ++ lngR nm m ++ [ot, nm]
theorem lng_mix (nm ot : Str) (m : Nat) : (lngR nm m).Sublist (mixR nm ot m) :=
  (List.sublist_append_right [ot] (lngR nm m)).trans (List.sublist_append_left _ [ot, nm])
theorem two_mix (nm ot : Str) (m : Nat) (h : 0 < m) : [nm, ot].Sublist (mixR nm ot m) := by
  have h1 : [nm].Sublist ([ot] ++ lngR nm m) := (show [nm].Sublist (lngR nm m) from List.singleton_sublist.mpr (List.mem_replicate.mpr ⟨by omega, rfl⟩)).trans (List.sublist_append_right _ _)
  have h2 : [ot].Sublist [ot, nm] := List.singleton_sublist.mpr List.mem_cons_self
  exact h1.append h2
def toldD (l : List (List Str)) : PyData := .tuple [.str "told", .tuple (l.map Ka.rowD)]
def refD : PyData := .tuple [.str "refused", .str "long", .bool true]
theorem eqTold (l m : List (List Str)) : PyData.eqv (toldD l) (toldD m) = decide (l = m) := by
  unfold toldD
  rw [PyData.eqv, PyData.eqvAll, PyData.eqvAll, PyData.eqv, PyData.eqv, eqRows, PyData.eqvAll]
  simp
theorem eqRef : PyData.eqv refD refD = true := by
  unfold refD
  simp [PyData.eqv, PyData.eqvAll]
theorem shTold {l : List (List Str)} (h : ∀ r ∈ l, ∀ z ∈ r, isName z = true) : SeqAt.shaped (toldD l) = true := by
  have h1 := dep_le (f := Ka.rowD) (n := 2) depR l
  have h2 := lay_all (f := Ka.rowD) l fun r hr => layR (h r hr)
  have h3 : PyData.strOk ("told" : Str) = true := by decide +kernel
  unfold toldD
  refine shaped_of ?_ ?_
  · simp [PyData.canLay0, PyData.canLayAll0, h2, h3]
  · simp only [PyData.depth, PyData.depthAll]
    omega
theorem shRef : SeqAt.shaped refD = true := by
  have h3 : PyData.strOk ("refused" : Str) = true := by decide +kernel
  have h4 : PyData.strOk ("long" : Str) = true := by decide +kernel
  unfold refD
  refine shaped_of ?_ ?_
  · simp [PyData.canLay0, PyData.canLayAll0, h3, h4]
  · simp only [PyData.depth, PyData.depthAll]
    omega
/-- what stands while it asks -/
structure BSt (H : Hp) (nm ot : Str) (m : Nat) (pl pm pd td : Addr) : Prop where
  el : H pl = some (.tup ((lngR nm m).map V.str))
  em : H pm = some (.tup ((mixR nm ot m).map V.str))
  d1 : m ≤ 12 → H pd = some (.tup [.str "told", .ref td]) ∧ H td = some (.tup [.ref pl])
  d2 : 12 < m → H pd = some (.tup [.str "refused", .str "long", .bl true])
theorem tup_stay {H H' : Hp} {a : Addr} {xs : List V} (x : LamX.ExtN H H') (e : H a = some (.tup xs)) : H' a = some (.tup xs) := x _ _ e (fun ps z => by cases z)
theorem lst_stay {H H' : Hp} {a : Addr} {xs : List V} (x : LamX.ExtN H H') (e : H a = some (.lst xs)) : H' a = some (.lst xs) := x _ _ e (fun ps z => by cases z)
theorem BSt.ext {H H' : Hp} {nm ot : Str} {m : Nat} {pl pm pd td : Addr} (b : BSt H nm ot m pl pm pd td) (x : LamX.ExtN H H') : BSt H' nm ot m pl pm pd td :=
  ⟨tup_stay x b.el, tup_stay x b.em, fun h => ⟨tup_stay x (b.d1 h).1, tup_stay x (b.d1 h).2⟩, fun h => tup_stay x (b.d2 h)⟩
section
variable {K : PySem.W.Frag}
theorem dpTold {H : Hp} {p p0 : Addr} {ts : List Ka.Row} (e : H p = some (.tup [.str "told", .ref p0])) (e0 : H p0 = some (.tup (adV ts))) (hR : Rows H ts) : Dp K H (.ref p) (toldD (ts.map (·.2))) :=
  .tup (sqT_new e) (.cons (.str _) (.cons (.tup (sqT_new e0) (dpRows hR)) .nil))
theorem dpRef {H : Hp} {p : Addr} (e : H p = some (.tup [.str "refused", .str "long", .bl true])) : Dp K H (.ref p) refD :=
  .tup (sqT_new e) (.cons (.str _) (.cons (.str _) (.cons (.bl true) .nil)))
theorem ne_told {H : Hp} {nm ot : Str} {m : Nat} {pl pm pd td p p0 : Addr} {ts : List Ka.Row} {Q : VK} (b : BSt H nm ot m pl pm pd td) (hm : m ≤ 12) (nn : isName nm = true) (e : H p = some (.tup [.str "told", .ref p0])) (e0 : H p0 = some (.tup (adV ts))) (hR : Rows H ts) (ht : ts.map (·.2) = [lngR nm m]) (q : Q (.bl false) H) : rNeD K (.ref p) (.ref pd) H Q := by
  obtain ⟨d1, d2⟩ := b.d1 hm
  have hs : SeqAt.shaped (toldD [lngR nm m]) = true := shTold fun r hr z hz => by
    rw [List.mem_singleton.mp hr] at hz
    rw [List.eq_of_mem_replicate hz]
    exact nn
  refine ⟨toldD (ts.map (·.2)), toldD [lngR nm m], dpTold e e0 hR, dpTold (ts := [(pl, lngR nm m)]) d1 d2 (fun r hr => by rw [List.mem_singleton.mp hr]; exact b.el), by rw [ht]; exact hs, hs, ?_⟩
  rw [eqTold, ht, decide_eq_true rfl]
  exact q
theorem ne_ref {H : Hp} {nm ot : Str} {m : Nat} {pl pm pd td p : Addr} {Q : VK} (b : BSt H nm ot m pl pm pd td) (hm : 12 < m) (e : H p = some (.tup [.str "refused", .str "long", .bl true])) (q : Q (.bl false) H) : rNeD K (.ref p) (.ref pd) H Q := by
  refine ⟨refD, refD, dpRef e, dpRef (b.d2 hm), shRef, shRef, ?_⟩
  rw [eqRef]
  exact q
end
section
variable {P : Program} {w : World} {K : PySem.W.Frag} {mg : Str → Option Value} {base : Heap}
abbrev nBound : List Str := ["name", "other", "many", "long", "due", "mixed", "one", "rows", "two"]
theorem scBound : FnScope nBound ["name", "other", "many"] (defScope sBound) := ⟨rfl, rfl, rfl, by decide +kernel, rfl, by decide +kernel, by decide +kernel⟩
def spBound (P1 P2 : Addr) : Sp := fun vs H Q _ => ∃ (nm ot : Str) (m : Nat), vs = [.str nm, .str ot, .int (m : Nat)] ∧ isName nm = true ∧ isName ot = true ∧ 2 ≤ m ∧ m ≤ 20 ∧ LamX.Tabs (TL P1 P2) H ∧ ∀ H', LamX.ExtN H H' → LamX.Tabs (TL P1 P2) H' → Q (.bl true) H'
structure BoundFn (K : PySem.W.Frag) (mg : Str → Option Value) (AC : AllC K mg) (fS fC S : Addr) (dS dC : FuncData) : Prop where
  SF : Fun K "_law_said" "_law_said" sSaid fS dS
  bS : Binds K dS ["work"] []
  gS : mg "_law_said" = some (.ref fS)
  CF : Fun K "common" "common" sCommon fC dC
  bC : Binds K dC ["u", "v"] []
  gC : mg "common" = some (.ref fC)
  bA : Binds K AC.fd ["rows"] []
  gA : mg "common_all" = some (.ref AC.f)
  Z : CatchC K mg AC.C S
theorem ok_bound {f fS fC c P1 P2 S : Addr} {dS dC : FuncData} {C : AllC K mg} {oc dV kV doc pm ct : Value} {an od : Option Addr} {osl : Array (Option Value)}
    (lk : K.lookup f = some ⟨oc, od, .func (PySem.W.fnOf "_law_bound_right" "_law_bound_right" (defArgs sBound) (defBody sBound) (defScope sBound) dV kV doc pm an (.ref c) ct), osl⟩) (hcd : PySem.W.codeIn K (.ref c) "_law_bound_right" = true) (TB : LamX.TabB base mg c P2) (hP : P1 ≠ P2)
    (T : BoundFn K mg C fS fC S dS dC) (N : Nones mg) : FnOk P w K mg base CX0 7 f (PySem.W.fnOf "_law_bound_right" "_law_bound_right" (defArgs sBound) (defBody sBound) (defScope sBound) dV kV doc pm an (.ref c) ct) ["name", "other", "many"] (spBound P1 P2) := by
  have GC : FnOk P w K mg base (L2.CX P w) 4 fC dC ["u", "v"] (spCommon K C.C) := ok_common T.CF C T.bA T.gA
  have GA : FnOk P w K mg base (L2.CX P w) 3 C.f C.fd ["rows"] (spAll K C.C) := C.ok
  refine fn_of lk hcd scBound (fun vs H Q E h => ?_) (fun A outer s H vs Q E hr h => ?_)
  · obtain ⟨nm, ot, m, rfl, _⟩ := h
    rfl
  · obtain ⟨nm, ot, m, rfl, nn, no, h2, hm, hTb, q⟩ := h
    obtain ⟨ocS, odS, kVS, docS, pmS, anS, cdvS, ctS, oslS, eS, lkS, hcS⟩ := T.SF.ex
    subst eS
    have bS := T.bS
    suffices hs : ∃ t, PSs (cxOf CX0 P w K mg base nBound "_law_bound_right" (defScope sBound) f (.ref _) A outer s H E).nox (defBody sBound) t ∧ t { nx := fun _ H' => Q .non H', rt := Q } (L2.start nBound [.str nm, .str ot, .int (m : Nat)]) H by
      obtain ⟨t, h1, h2⟩ := hs
      exact ⟨t, h1.nox, h2⟩
    refine ⟨_, pss_cons (ps_set (i := 3) scBound.nd rfl (.inl rfl) (pe_op op_repT (pe_tup (pa_cons (pv 0) pa_nil)) (pv 2)))
      (pss_cons (ps_set (i := 5) scBound.nd rfl (.inr rfl) (pe_op op_catA (pe_op op_catA (pe_tup (pa_cons (pv 1) pa_nil)) (pv 3)) (pe_tup (pa_cons (pv 1) (pa_cons (pv 0) pa_nil)))))
      (pss_cons (ps_set (i := 4) scBound.nd rfl (.inl rfl) (pe_ifExp (pt_cmpR op_le (pv 2) pe_int (nomark _)) (pe_tup (pa_cons pe_str (pa_cons (pe_tup (pa_cons (pv 3) pa_nil)) pa_nil))) (pe_tup (pa_cons pe_str (pa_cons pe_str (pa_cons pe_bl pa_nil))))))
      (pss_cons (ps_for PassesOwn.never rfl (pi_tup (pe_tup (pa_cons (pe_tup (pa_cons (pv 3) (pa_cons (pv 5) pa_nil))) (pa_cons (pe_tup (pa_cons (pv 5) (pa_cons (pv 3) pa_nil))) pa_nil)))) (pg_tup rfl (pgs_cons (pg_name (i := 6) scBound.nd rfl (.inr rfl)) (pgs_cons (pg_name (i := 8) scBound.nd rfl (.inr rfl)) pgs_nil)))
        (pss_one (ps_if (pt_cmpR (op_neD hr.units) (LamX.pe_lamcall (T := TL P1 P2) (TT := TSaid C.C) (k := 4) (t := fun E => tCall (spCommon K C.C) [] E (tCons (tVar 6) (tCons (tVar 8) tNil))) (by rfl) T.gS T.SF.kp lkS hcS bS scSaid rfl (.inl rfl) (said_gives C.R T.Z N.isinstance N.valueError) TB rfl (lamIn2 P1 P2) (lamOf2 hP) hr (LamX.lamS_by (by show LamX.lamSB (defScope sBound) _ = true; decide +kernel)) rfl (fun _ _ _ _ _ => rfl)
            (fun A outer s H E f c' hr2 => pe_call GC hr2 (by rfl) T.gC T.CF.kp T.bC .nil (passes_call (takes_of rfl rfl rfl rfl) (fun _ _ _ _ h => h)) (pa_cons (pv 6) (pa_cons (pv 8) pa_nil)))) (pv 4) (nomark _)) (pss_one (ps_ret pe_bl)) pss_nil)))
      (pss_cons (ps_for PassesOwn.never rfl (pi_tup (pe_tup (pa_cons (pe_lst (pa_cons (pv 5) (pa_cons (pv 3) (pa_cons (pv 5) pa_nil)))) (pa_cons (pe_tup (pa_cons (pv 3) pa_nil)) (pa_cons (pe_lst (pa_cons (pv 3) (pa_cons (pv 3) pa_nil))) pa_nil))))) (pg_name (i := 7) scBound.nd rfl (.inr rfl))
        (pss_one (ps_if (pt_cmpR (op_neD hr.units) (LamX.pe_lamcall (T := TL P1 P2) (TT := TSaid C.C) (k := 4) (t := fun E => tCall (spAll K C.C) [] E (tCons (tVar 7) tNil)) (by rfl) T.gS T.SF.kp lkS hcS bS scSaid rfl (.inl rfl) (said_gives C.R T.Z N.isinstance N.valueError) TB rfl (lamIn2 P1 P2) (lamOf2 hP) hr (LamX.lamS_by (by show LamX.lamSB (defScope sBound) _ = true; decide +kernel)) rfl (fun _ _ _ _ _ => rfl)
            (fun A outer s H E f c' hr2 => pe_call GA (hr2.mono (by decide)) (by rfl) T.gA C.F.kp T.bA .nil (passes_call (takes_of rfl rfl rfl rfl) (fun _ _ _ _ h => h)) (pa_cons (pv 7) pa_nil))) (pv 4) (nomark _)) (pss_one (ps_ret pe_bl)) pss_nil)))
      (pss_one (ps_ret (pe_cmpR (op_eqD hr.units) (LamX.pe_lamcall (T := TL P1 P2) (TT := TSaid C.C) (k := 4) (t := fun E => tCall (spAll K C.C) [] E (tCons (tTup (tCons (tOp (rCatA K) (tVar 5) (tVar 5)) (tCons (tTup (tCons (tVar 0) (tCons (tVar 1) tNil))) (tCons (tVar 5) tNil)))) tNil)) (by rfl) T.gS T.SF.kp lkS hcS bS scSaid rfl (.inl rfl) (said_gives C.R T.Z N.isinstance N.valueError) TB rfl (lamIn2 P1 P2) (lamOf2 hP) hr (LamX.lamS_by (by show LamX.lamSB (defScope sBound) _ = true; decide +kernel)) rfl (fun _ _ _ _ _ => rfl)
            (fun A outer s H E f c' hr2 => pe_call GA (hr2.mono (by decide)) (by rfl) T.gA C.F.kp T.bA .nil (passes_call (takes_of rfl rfl rfl rfl) (fun _ _ _ _ h => h)) (pa_cons (pe_tup (pa_cons (pe_op op_catA (pv 5) (pv 5)) (pa_cons (pe_tup (pa_cons (pv 0) (pa_cons (pv 1) pa_nil))) (pa_cons (pv 5) pa_nil)))) pa_nil)))
          (pe_tup (pa_cons pe_str (pa_cons (pe_tup (pa_cons (pe_tup (pa_cons (pv 0) (pa_cons (pv 1) pa_nil))) pa_nil)) pa_nil))) (nomark _)))))))), ?_⟩
    have x0 : ∀ {G G' : Hp}, Same G G' → LamX.ExtN G G' := fun s => LamX.ExtN.of s
    -- long
    refine ⟨.str nm, rfl, smallE (show 1 ≤ 1000000 by decide), fun t1 n1 => ?_⟩
    have s1 := same_new (o := .tup [V.str nm]) n1
    refine ⟨.int (m : Nat), rfl, t1, _, _, rfl, rfl, sqT_new upd_same, (fun w => by cases w), by omega, by omega, (show 1 ≤ 1000 by decide), fun pl n2 => ?_⟩
    have eflat : (List.replicate ((m : Nat) : Int).toNat [V.str nm]).flatten = (lngR nm m).map V.str := by
      rw [Int.toNat_natCast]
      simp [lngR]
    rw [eflat]
    have s2 := s1.trans (same_new (o := .tup ((lngR nm m).map V.str)) n2)
    have el : upd (upd H t1 (.tup [V.str nm])) pl (.tup ((lngR nm m).map V.str)) pl = some (.tup ((lngR nm m).map V.str)) := upd_same
    generalize upd (upd H t1 (.tup [V.str nm])) pl (.tup ((lngR nm m).map V.str)) = H2 at s2 el ⊢
    -- mixed
    refine ⟨.str ot, rfl, smallE (show 1 ≤ 1000000 by decide), fun t3 n3 => ⟨.ref pl, rfl, ?_⟩⟩
    have s3 := same_new (o := .tup [V.str ot]) n3
    refine catN (sqT_new upd_same) (s3 _ _ el) (fun z => by
      have := congrArg List.length z
      rw [List.length_map, List.length_replicate] at this
      simp at this
      omega) (by rw [List.length_map, List.length_replicate]; show 1 + _ ≤ _; omega) fun H4 p4 s4 e4 => ?_
    refine ⟨.str ot, rfl, .str nm, rfl, smallE (show 2 ≤ 1000000 by decide), fun t5 n5 => ?_⟩
    have s5 := same_new (o := .tup [V.str ot, .str nm]) n5
    refine catN (sqT_new (s5 _ _ e4)) upd_same (fun z => by cases z) (by rw [List.length_append, List.length_map, List.length_replicate]; show 1 + _ + 2 ≤ _; omega) fun H6 pm s6 e6 => ?_
    have em : H6 pm = some (.tup ((mixR nm ot m).map V.str)) := by
      rw [e6, List.map_append, List.map_append]
      rfl
    have s26 := ((s3.trans s4).trans s5).trans s6
    have el6 := s26 _ _ el
    have s06 := s2.trans s26
    -- due
    refine ⟨.int (m : Nat), rfl, _, _, rfl, rfl, _, rfl, ?_⟩
    generalize hX : tSeq (tFor (iTup _ _) (gTup _ _ _) _) _ _ = X
    have nL : ∀ z ∈ lngR nm m, isName z = true := fun z hz => by
      rw [List.eq_of_mem_replicate hz]
      exact nn
    have nM : ∀ z ∈ mixR nm ot m, isName z = true := fun z hz => by
      rcases List.mem_append.mp hz with h | h
      · rcases List.mem_append.mp h with h | h
        · rw [List.mem_singleton.mp h]
          exact no
        · exact nL z h
      · rcases List.mem_cons.mp h with h | h
        · rw [h]
          exact no
        · rw [List.mem_singleton.mp h]
          exact nn
    have lL : (lngR nm m).length = m := List.length_replicate
    have lM : (mixR nm ot m).length = m + 3 := by
      rw [List.length_append, List.length_append, lL]
      show 1 + m + 2 = m + 3
      omega
    have fin : ∀ (pd td : Addr) (H7 : Hp), BSt H7 nm ot m pl pm pd td → Same H H7 → X [some (.str nm), some (.str ot), some (.int (m : Nat)), some (.ref pl), some (.ref pd), some (.ref pm), none, none, none] H7 := fun pd td H7 B s7 => by
      rw [← hX]
      -- the first loop
      refine ⟨.ref pl, rfl, .ref pm, rfl, smallE (show 2 ≤ 1000000 by decide), fun u1 nu1 => ⟨.ref pm, rfl, .ref pl, rfl, smallE (show 2 ≤ 1000000 by decide), fun u2 nu2 => ⟨smallE (show 2 ≤ 1000000 by decide), fun u3 nu3 => ?_⟩⟩⟩
      have a1 := same_new (o := .tup [V.ref pl, .ref pm]) nu1
      have a2 := same_new (o := .tup [V.ref pm, .ref pl]) nu2
      have a3 := same_new (o := .tup [V.ref u1, .ref u2]) nu3
      have e1 := (a2.trans a3) _ _ (upd_same (H := H7) (a := u1) (o := .tup [V.ref pl, .ref pm]))
      have e2 := a3 _ _ (upd_same (H := upd H7 u1 (.tup [V.ref pl, .ref pm])) (a := u2) (o := .tup [V.ref pm, .ref pl]))
      have e3 : upd (upd (upd H7 u1 (.tup [V.ref pl, .ref pm])) u2 (.tup [V.ref pm, .ref pl])) u3 (.tup [V.ref u1, .ref u2]) u3 = some (.tup [V.ref u1, .ref u2]) := upd_same
      have a8 := (a1.trans a2).trans a3
      generalize upd (upd (upd H7 u1 (.tup [V.ref pl, .ref pm])) u2 (.tup [V.ref pm, .ref pl])) u3 (.tup [V.ref u1, .ref u2]) = H8 at e1 e2 e3 a8 ⊢
      have B8 := B.ext (x0 a8)
      have x08 := x0 (s7.trans a8)
      have T8 : LamX.Tabs (TL P1 P2) H8 := hTb.ext (s7.trans a8)
      refine ⟨u3, rfl, ⟨_, sqT_new e3⟩, ?_⟩
      refine for_tup (K := K) (a := u3) (xs := [V.ref u1, .ref u2]) (fun i σ H' => ∃ d6 d8, σ = [some (.str nm), some (.str ot), some (.int (m : Nat)), some (.ref pl), some (.ref pd), some (.ref pm), d6, none, d8] ∧ LamX.ExtN H8 H' ∧ LamX.Tabs (TL P1 P2) H')
        ⟨none, none, rfl, LamX.ExtN.refl _, T8⟩ (fun i σ H' _ ⟨_, _, _, x, _⟩ => sqT_new (tup_stay x e3)) ?_ ?_
      · rintro i x σ H' hx ⟨d6, d8, rfl, xk, tk⟩
        obtain ⟨u, a, b, us, zs, rfl, eu, ea, eb, lu, lz, nu, nz, lm, lm2, hc⟩ : ∃ (u a b : Addr) (us zs : List Str), x = .ref u ∧ H8 u = some (.tup [.ref a, .ref b]) ∧ H8 a = some (.tup (us.map V.str)) ∧ H8 b = some (.tup (zs.map V.str)) ∧ us.length ≤ 400 ∧ zs.length ≤ 400 ∧ (∀ z ∈ us, isName z = true) ∧ (∀ z ∈ zs, isName z = true) ∧ (12 < us.length → 12 < zs.length → 12 < m) ∧ (us.length ≤ 12 ∨ zs.length ≤ 12 → m ≤ 12) ∧ comA [us, zs] = [lngR nm m] := by
          have hi := lt_of_get hx
          rcases (show i = 0 ∨ i = 1 by simp at hi; omega) with rfl | rfl
          · cases hx
            refine ⟨u1, pl, pm, lngR nm m, mixR nm ot m, rfl, e1, B8.el, B8.em, by omega, by omega, nL, nM, fun h _ => by omega, fun h => by omega, comA_one List.mem_cons_self fun r hr => ?_⟩
            rcases List.mem_cons.mp hr with rfl | hr
            · exact List.Sublist.refl _
            · rw [List.mem_singleton.mp hr]
              exact lng_mix nm ot m
          · cases hx
            refine ⟨u2, pm, pl, mixR nm ot m, lngR nm m, rfl, e2, B8.em, B8.el, by omega, by omega, nM, nL, fun _ h => by omega, fun h => by omega, comA_one (List.mem_cons_of_mem _ List.mem_cons_self) fun r hr => ?_⟩
            rcases List.mem_cons.mp hr with rfl | hr
            · exact lng_mix nm ot m
            · rw [List.mem_singleton.mp hr]
              exact List.Sublist.refl _
        refine ⟨u, [.ref a, .ref b], rfl, sqT_new (tup_stay xk eu), rfl, _, _, rfl, _, _, rfl, rfl, ?_⟩
        refine ⟨tk, fun H1 eN T1 => ⟨.ref a, rfl, .ref b, rfl, a, b, us, zs, rfl, tup_stay (xk.trans eN) ea, tup_stay (xk.trans eN) eb, lu, lz, nu, nz, fun h1 h2 H2 d s2 nd ed => ⟨rfl, d, "long", rfl, ed, fun p np => ?_⟩, fun hs H2 p0 ts s2 np0 ep0 hts hR hl p np => ?_⟩⟩
        · have sp := s2.trans (same_new (o := .tup [V.str "refused", .str "long", .bl true]) np)
          have xx := (xk.trans eN).trans (x0 sp)
          exact ⟨.ref pd, rfl, ne_ref (B8.ext xx) (lm h1 h2) upd_same ⟨_, rfl, iteF ⟨_, _, rfl, xx, T1.ext sp⟩⟩⟩
        · have sn := same_new (o := .tup [V.str "told", .ref p0]) np
          have sp := s2.trans sn
          have xx := (xk.trans eN).trans (x0 sp)
          exact ⟨.ref pd, rfl, ne_told (B8.ext xx) (lm2 hs) nn upd_same (sn _ _ ep0) (hR.mono sn) (hts.trans hc) ⟨_, rfl, iteF ⟨_, _, rfl, xx, T1.ext sp⟩⟩⟩
      · rintro σ H9 ⟨d6, d8, rfl, x9, T9⟩
        have B9 := B8.ext x9
        -- the second loop
        refine ⟨.ref pm, rfl, .ref pl, rfl, .ref pm, rfl, smallE (show 3 ≤ 1000000 by decide), fun v1 nv1 => ⟨.ref pl, rfl, smallE (show 1 ≤ 1000000 by decide), fun v2 nv2 => ⟨.ref pl, rfl, .ref pl, rfl, smallE (show 2 ≤ 1000000 by decide), fun v3 nv3 => ⟨smallE (show 3 ≤ 1000000 by decide), fun v4 nv4 => ?_⟩⟩⟩⟩
        have a1 := same_new (o := .lst [V.ref pm, .ref pl, .ref pm]) nv1
        have a2 := same_new (o := .tup [V.ref pl]) nv2
        have a3 := same_new (o := .lst [V.ref pl, .ref pl]) nv3
        have a4 := same_new (o := .tup [V.ref v1, .ref v2, .ref v3]) nv4
        have e1 := ((a2.trans a3).trans a4) _ _ (upd_same (H := H9) (a := v1) (o := .lst [V.ref pm, .ref pl, .ref pm]))
        have e2 := (a3.trans a4) _ _ (upd_same (H := upd H9 v1 (.lst [V.ref pm, .ref pl, .ref pm])) (a := v2) (o := .tup [V.ref pl]))
        have e3 := a4 _ _ (upd_same (H := upd (upd H9 v1 (.lst [V.ref pm, .ref pl, .ref pm])) v2 (.tup [V.ref pl])) (a := v3) (o := .lst [V.ref pl, .ref pl]))
        have e4 : upd (upd (upd (upd H9 v1 (.lst [V.ref pm, .ref pl, .ref pm])) v2 (.tup [V.ref pl])) v3 (.lst [V.ref pl, .ref pl])) v4 (.tup [V.ref v1, .ref v2, .ref v3]) v4 = some (.tup [V.ref v1, .ref v2, .ref v3]) := upd_same
        have a10 := ((a1.trans a2).trans a3).trans a4
        generalize upd (upd (upd (upd H9 v1 (.lst [V.ref pm, .ref pl, .ref pm])) v2 (.tup [V.ref pl])) v3 (.lst [V.ref pl, .ref pl])) v4 (.tup [V.ref v1, .ref v2, .ref v3]) = H10 at e1 e2 e3 e4 a10 ⊢
        have B10 := B9.ext (x0 a10)
        have T10 : LamX.Tabs (TL P1 P2) H10 := T9.ext a10
        have x010 := (x08.trans x9).trans (x0 a10)
        refine ⟨v4, rfl, ⟨_, sqT_new e4⟩, ?_⟩
        refine for_tup (K := K) (a := v4) (xs := [V.ref v1, .ref v2, .ref v3]) (fun i σ H' => ∃ d7, σ = [some (.str nm), some (.str ot), some (.int (m : Nat)), some (.ref pl), some (.ref pd), some (.ref pm), d6, d7, d8] ∧ LamX.ExtN H10 H' ∧ LamX.Tabs (TL P1 P2) H')
          ⟨none, rfl, LamX.ExtN.refl _, T10⟩ (fun i σ H' _ ⟨_, _, x, _⟩ => sqT_new (tup_stay x e4)) ?_ ?_
        · rintro i x σ H' hx ⟨d7, rfl, xk, tk⟩
          obtain ⟨a, rs, rfl, ea, hrs, hin, hl3⟩ : ∃ (a : Addr) (rs : List Ka.Row), x = .ref a ∧ (H10 a = some (.lst (adV rs)) ∨ H10 a = some (.tup (adV rs))) ∧ (∀ r ∈ rs, r = (pl, lngR nm m) ∨ r = (pm, mixR nm ot m)) ∧ (pl, lngR nm m) ∈ rs ∧ rs.length ≤ 3 := by
            have hi := lt_of_get hx
            rcases (show i = 0 ∨ i = 1 ∨ i = 2 by simp at hi; omega) with rfl | rfl | rfl
            · cases hx
              refine ⟨v1, [(pm, mixR nm ot m), (pl, lngR nm m), (pm, mixR nm ot m)], rfl, .inl e1, fun r hr => ?_, by simp, by simp⟩
              simp only [List.mem_cons, List.not_mem_nil, or_false] at hr
              rcases hr with h | h | h
              · exact .inr h
              · exact .inl h
              · exact .inr h
            · cases hx
              refine ⟨v2, [(pl, lngR nm m)], rfl, .inr e2, fun r hr => .inl (List.mem_singleton.mp hr), by simp, by simp⟩
            · cases hx
              refine ⟨v3, [(pl, lngR nm m), (pl, lngR nm m)], rfl, .inl e3, fun r hr => ?_, by simp, by simp⟩
              simp only [List.mem_cons, List.not_mem_nil, or_false] at hr
              rcases hr with h | h
              · exact .inl h
              · exact .inl h
          have hc : comA (rs.map (·.2)) = [lngR nm m] := by
            cases rs with
            | nil => cases hin
            | cons r0 rs =>
              rw [List.map_cons]
              refine comA_one (by rw [← List.map_cons (f := fun x : Ka.Row => x.2)]; exact List.mem_map_of_mem hin) fun r hr => ?_
              rw [← List.map_cons (f := fun x : Ka.Row => x.2)] at hr
              obtain ⟨g, hg, rfl⟩ := List.mem_map.mp hr
              rcases hrs g hg with e | e
              · rw [e]
                exact List.Sublist.refl _
              · rw [e]
                exact lng_mix nm ot m
          refine ⟨tk, fun H1 eN T1 => ⟨.ref a, rfl, a, rs, rfl, ?_, fun r hr => ?_, List.length_pos_of_mem hin, by omega, fun r hr => ?_, fun h H2 d s2 nd ed => ⟨rfl, d, "long", rfl, ed, fun p np => ?_⟩, fun hs H2 p0 ts s2 np0 ep0 hts hR hl p np => ?_⟩⟩
          · rcases ea with e | e
            · exact .inl (sqL_new (lst_stay (xk.trans eN) e))
            · exact .inr (sqT_new (tup_stay (xk.trans eN) e))
          · rcases hrs r hr with e | e
            · rw [e]
              exact tup_stay (xk.trans eN) B10.el
            · rw [e]
              exact tup_stay (xk.trans eN) B10.em
          · rcases hrs r hr with e | e
            · rw [e]
              exact ⟨by show (lngR nm m).length ≤ 400; omega, nL⟩
            · rw [e]
              exact ⟨by show (mixR nm ot m).length ≤ 400; omega, nM⟩
          · have sp := s2.trans (same_new (o := .tup [V.str "refused", .str "long", .bl true]) np)
            have xx := (xk.trans eN).trans (x0 sp)
            have hm12 : 12 < m := by
              have : 12 < (lngR nm m).length := h _ hin
              omega
            exact ⟨.ref pd, rfl, ne_ref (B10.ext xx) hm12 upd_same ⟨_, rfl, iteF ⟨_, rfl, xx, T1.ext sp⟩⟩⟩
          · have sn := same_new (o := .tup [V.str "told", .ref p0]) np
            have sp := s2.trans sn
            have xx := (xk.trans eN).trans (x0 sp)
            have hm12 : m ≤ 12 := by
              obtain ⟨r, hr, h⟩ := hs
              rcases hrs r hr with e | e
              · rw [e] at h
                have h : (lngR nm m).length ≤ 12 := h
                omega
              · rw [e] at h
                have h : (mixR nm ot m).length ≤ 12 := h
                omega
            exact ⟨.ref pd, rfl, ne_told (B10.ext xx) hm12 nn upd_same (sn _ _ ep0) (hR.mono sn) (hts.trans hc) ⟨_, rfl, iteF ⟨_, rfl, xx, T1.ext sp⟩⟩⟩
        · rintro σ H11 ⟨d7, rfl, x11, T11⟩
          have B11 := B10.ext x11
          refine ⟨T11, fun H1 eN T1 => ⟨.ref pm, rfl, .ref pm, rfl, ?_⟩⟩
          have em1 := (B11.ext eN).em
          refine catT em1 em1 (by rw [List.length_map]; omega) fun H2 pp s2 e2 => ?_
          rw [← List.map_append] at e2
          refine ⟨.str nm, rfl, .str ot, rfl, smallE (show 2 ≤ 1000000 by decide), fun p3 n3 => ⟨.ref pm, rfl, smallE (show 3 ≤ 1000000 by decide), fun p4 n4 => ?_⟩⟩
          have s3 := same_new (o := .tup [V.str nm, .str ot]) n3
          have s4 := same_new (o := .tup [V.ref pp, .ref p3, .ref pm]) n4
          have hC : comA [mixR nm ot m ++ mixR nm ot m, [nm, ot], mixR nm ot m] = [[nm, ot]] := by
            refine comA_one (List.mem_cons_of_mem _ List.mem_cons_self) fun r hr => ?_
            have h2m := two_mix nm ot m (by omega)
            rcases List.mem_cons.mp hr with rfl | hr
            · exact h2m.trans (List.sublist_append_left _ _)
            · rcases List.mem_cons.mp hr with rfl | hr
              · exact List.Sublist.refl _
              · rw [List.mem_singleton.mp hr]
                exact h2m
          have n2 : ∀ z ∈ [nm, ot], isName z = true := fun z hz => by
            rcases List.mem_cons.mp hz with rfl | hz
            · exact nn
            · rw [List.mem_singleton.mp hz]
              exact no
          refine ⟨p4, [(pp, mixR nm ot m ++ mixR nm ot m), (p3, [nm, ot]), (pm, mixR nm ot m)], rfl, .inr (sqT_new upd_same), fun r hr => ?_, (show 0 < 3 by decide), (show 3 ≤ 100 by decide), fun r hr => ?_, fun h => ?_, fun hs H5 p0 ts s5 np0 ep0 hts hR hl p np => ?_⟩
          · simp only [List.mem_cons, List.not_mem_nil, or_false] at hr
            rcases hr with rfl | rfl | rfl
            · exact (s3.trans s4) _ _ e2
            · exact s4 _ _ upd_same
            · exact (s3.trans s4) _ _ (s2 _ _ em1)
          · simp only [List.mem_cons, List.not_mem_nil, or_false] at hr
            rcases hr with rfl | rfl | rfl
            · exact ⟨by show (mixR nm ot m ++ mixR nm ot m).length ≤ 400; rw [List.length_append]; omega, fun z hz => (List.mem_append.mp hz).elim (nM z) (nM z)⟩
            · exact ⟨show 2 ≤ 400 by decide, n2⟩
            · exact ⟨by show (mixR nm ot m).length ≤ 400; omega, nM⟩
          · exact absurd (h (p3, [nm, ot]) (List.mem_cons_of_mem _ List.mem_cons_self)) (show ¬ 12 < 2 by decide)
          · have sn := same_new (o := .tup [V.str "told", .ref p0]) np
            have s15 := ((s2.trans s3).trans s4).trans (s5.trans sn)
            refine ⟨.str nm, rfl, .str ot, rfl, smallE (show 2 ≤ 1000000 by decide), fun q1 k1 => ⟨smallE (show 1 ≤ 1000000 by decide), fun q2 k2 => ⟨smallE (show 2 ≤ 1000000 by decide), fun q3 k3 => ?_⟩⟩⟩
            have c1 := same_new (o := .tup [V.str nm, .str ot]) k1
            have c2 := same_new (o := .tup [V.ref q1]) k2
            have c3 := same_new (o := .tup [V.str "told", .ref q2]) k3
            have c13 := (c1.trans c2).trans c3
            have sh : SeqAt.shaped (toldD [[nm, ot]]) = true := shTold fun r hr z hz => by
              rw [List.mem_singleton.mp hr] at hz
              exact n2 z hz
            have hts' : ts.map (·.2) = [[nm, ot]] := hts.trans hC
            refine ⟨toldD (ts.map (·.2)), toldD [[nm, ot]], dpTold (c13 _ _ upd_same) (c13 _ _ (sn _ _ ep0)) (fun r hr => c13 _ _ (sn _ _ (hR r hr))), dpTold (ts := [(q1, [nm, ot])]) upd_same (c3 _ _ upd_same) (fun r hr => by rw [List.mem_singleton.mp hr]; exact (c2.trans c3) _ _ upd_same), by rw [hts']; exact sh, sh, ?_⟩
            rw [eqTold, hts', decide_eq_true rfl]
            exact q _ (((x010.trans x11).trans eN).trans (x0 (s15.trans c13))) (T1.ext (s15.trans c13))
    refine ite2 (fun c => ?_) (fun c => ?_)
    · have c : m ≤ 12 := by
        have := of_decide_eq_true c
        omega
      refine ⟨.ref pl, rfl, smallE (show 1 ≤ 1000000 by decide), fun td k1 => ⟨smallE (show 2 ≤ 1000000 by decide), fun pd k2 => ?_⟩⟩
      have c1 := same_new (o := .tup [V.ref pl]) k1
      have c2 := same_new (o := .tup [V.str "told", .ref td]) k2
      have c12 := c1.trans c2
      exact fin pd td _ ⟨c12 _ _ el6, c12 _ _ em, fun _ => ⟨upd_same, c2 _ _ upd_same⟩, fun h => absurd h (by omega)⟩ (s06.trans c12)
    · have c : 12 < m := by
        have c := of_decide_eq_false (Bool.eq_false_iff.mpr c)
        omega
      refine ⟨smallE (show 3 ≤ 1000000 by decide), fun pd k2 => ?_⟩
      have c2 := same_new (o := .tup [V.str "refused", .str "long", .bl true]) k2
      exact fin pd pd _ ⟨c2 _ _ el6, c2 _ _ em, fun h => absurd h (by omega), fun _ => upd_same⟩ (s06.trans c2)
end
end Kb
namespace Ka
open PySem PySem.Spec PyProof.Rows L2 PySem.W
/-- rows as tuples are ordered -/
def rowPl : List Str → List Str → Bool := dataLe false rowD
def leRowP (r q : Row) : Bool := rowPl r.2 q.2
theorem alike_rows (a b : List Str) : alike (rowD a) (rowD b) = true := by
  unfold rowD
  simp [alike, alike_strs]
/-- sorted(l), l a list of rows that are not empty -/
def rSortedN (K : PySem.W.Frag) : List V → Hp → VK → Prop := fun vs H Q => ∃ (a : Addr) (rs : List Row), vs = [V.ref a] ∧ SqL K H a (rs.map fun r => V.ref r.1) ∧ (∀ r ∈ rs, SqT K H r.1 (r.2.map V.str) ∧ r.2 ≠ []) ∧
  ∀ p, H p = none → Q (.ref p) (upd H p (.lst ((rs.mergeSort leRowP).map fun r => V.ref r.1)))
theorem cr_sortedN {X : Cx} (hu : X.A.units + 64 < cLine) : CallR X (.builtin "sorted") (rSortedN X.K) := by
  intro pins s σ H vs us Q I r h
  obtain ⟨a, rs, rfl, hs, hr, q⟩ := h
  obtain ⟨its, rv, hl, hz⟩ := I.list hs
  rw [Vals.ref1 r]
  rw [List.length_map] at hz
  have e := rows_each rv
  have hlen := rv.length
  rw [List.length_map] at hlen
  have er : EachIs (fun v (b : Row) => ∃ as, Reads s.heap v (rowD b.2) as) its rs := by
    refine (each_mem e).mono fun v b ⟨ev, hm⟩ => ?_
    subst ev
    obtain ⟨its', rv', ht, _⟩ := I.tuple (hr b hm).1
    obtain ⟨o, ho, hc, n, hd⟩ := ht
    exact ⟨_, Reads.tuple ho hc hd (reads_strs rv')⟩
  refine sorted_data (enc := fun r : Row => rowD r.2) hl.isList e er (fun d hd d' hd' => ?_) (.inl fun d hd => ?_) hz (fun b _ => ?_) fun out hol eo => ?_
  · obtain ⟨r, _, rfl⟩ := List.mem_map.mp hd
    obtain ⟨q, _, rfl⟩ := List.mem_map.mp hd'
    exact alike_rows _ _
  · obtain ⟨r, hm, rfl⟩ := List.mem_map.mp hd
    have hne := (hr r hm).2
    obtain ⟨a, zs⟩ := r
    cases zs with
    | nil => exact absurd rfl hne
    | cons z zs => exact ⟨_, _, rfl⟩
  · have h1 := depth_strs b.2
    have : (rowD b.2).depth ≤ 2 := by
      unfold rowD
      simp only [PyData.depth]
      omega
    omega
  · obtain ⟨ep, he'⟩ := PyProof.Rows.sortedAll_at s.heap its out.toArray
    have hle : ((rs.mergeSort leRowP).map fun r => V.ref r.1).length ≤ sizeLine := by
      rw [List.length_map, List.length_mergeSort]
      exact hz
    exact ⟨.ref _, upd H (s.heap.objs.size + 1) (.lst ((rs.mergeSort leRowP).map fun r => V.ref r.1)), I.laid (t' := s.toks) (fun _ _ => PyProof.Rows.sortedAll_old) (Nat.le_succ _) ⟨hle, out, ep, each_rows eo, he'⟩, rfl, q _ (I.hok.fresh (Nat.le_succ _))⟩
/-- rows of one length: the order of tuples is that of rows -/
theorem rowPl_len {a b : List Str} (h : a.length = b.length) : rowPl a b = rowLe a b := by
  show (!dataLt (rowD b) (rowD a)) = (!dataLt (keyOf b) (keyOf a))
  congr 1
  have e1 : dataLt (keyOf b) (keyOf a) = PyProof.Rows.lexLt itemOrd (keyToksAll [rowD b]) (keyToksAll [rowD a]) := by
    unfold keyOf
    rw [dataLt_tuple]
    exact dataLt_all_yes (by simp [alike]) (by rw [h]; simp [PyData.eqv])
  rw [e1]
  cases e : PyData.eqv (rowD b) (rowD a) with
  | false => exact (dataLt_all_no (alike_rows b a) e).symm
  | true =>
    rw [dataLt_all_yes (alike_rows b a) e, keyToksAll]
    have e2 := (toks_eqv (rowD b) (rowD a) (alike_rows b a)).1 e
    show PyProof.Rows.lexLt itemOrd (keyToks (rowD b)) (keyToks (rowD a)) = _
    rw [e2]
    have := lex_pre (keyToks (rowD a)) [] []
    rw [List.append_nil] at this
    rw [this]
    rfl
end Ka
namespace Kb
open PySem PySem.Spec PyProof.Rows L2
theorem sw {α : Type} {X Y : α} (hXY : X ≠ Y) (B : List α) : ∀ (A x : List α), x.Sublist (A ++ X :: Y :: B) → x.Sublist (A ++ Y :: X :: B) → x.Sublist (A ++ Y :: B) ∨ x.Sublist (A ++ X :: B)
  | [], x, h1, h2 => by
    rw [List.nil_append] at h1 h2
    cases h1 with
    | cons _ h1 => exact .inl h1
    | cons_cons _ h1 =>
      cases h2 with
      | cons _ h2 => exact .inr h2
      | cons_cons _ h2 => exact absurd rfl hXY
  | a :: A, x, h1, h2 => by
    rw [List.cons_append] at h1 h2
    rw [List.cons_append, List.cons_append]
    cases h1 with
    | cons _ h1 =>
      cases h2 with
      | cons _ h2 => exact (sw hXY B A x h1 h2).imp (fun h => h.cons _) (fun h => h.cons _)
      | @cons_cons x' _ _ h2 => exact (sw hXY B A x' (List.sublist_of_cons_sublist h1) h2).imp (fun h => h.cons_cons _) (fun h => h.cons_cons _)
    | @cons_cons x' _ _ h1 =>
      have h2' : x'.Sublist (A ++ Y :: X :: B) := by
        cases h2 with
        | cons _ h2 => exact List.sublist_of_cons_sublist h2
        | cons_cons _ h2 => exact h2
      exact (sw hXY B A x' h1 h2').imp (fun h => h.cons_cons _) (fun h => h.cons_cons _)
/-- what two rows have in common in which two neighbours are exchanged -/
theorem comA_swap {X Y : Str} (hXY : X ≠ Y) (A B : List Str) {xs : List (List Str)} (hp : xs.Perm [A ++ Y :: B, A ++ X :: B]) (so : xs.Pairwise fun a b => Ka.rowPl a b = true) : comA [A ++ X :: Y :: B, A ++ Y :: X :: B] = xs := by
  have hpq : A ++ Y :: B ≠ A ++ X :: B := fun e => by
    have := List.append_cancel_left e
    exact hXY (List.cons.inj this).1.symm
  have hl : ∀ x ∈ xs, x.length = A.length + B.length + 1 := fun x hx => by
    have := hp.mem_iff.mp hx
    simp only [List.mem_cons, List.not_mem_nil, or_false] at this
    rcases this with rfl | rfl
    · rw [List.length_append, List.length_cons]
      omega
    · rw [List.length_append, List.length_cons]
      omega
  have s1 : ∀ Z W : Str, (A ++ Z :: B).Sublist (A ++ Z :: W :: B) := fun Z W => (List.Sublist.refl A).append (List.Sublist.cons_cons Z (List.sublist_cons_self W B))
  have s2 : ∀ Z W : Str, (A ++ Z :: B).Sublist (A ++ W :: Z :: B) := fun Z W => (List.Sublist.refl A).append (List.sublist_cons_self W (Z :: B))
  have com : ∀ y : List Str, (∀ r ∈ [A ++ X :: Y :: B, A ++ Y :: X :: B], y.Sublist r) → y.Sublist (A ++ Y :: B) ∨ y.Sublist (A ++ X :: B) := fun y h => sw hXY B A y (h _ List.mem_cons_self) (h _ (List.mem_cons_of_mem _ List.mem_cons_self))
  have inP : ∀ r ∈ [A ++ X :: Y :: B, A ++ Y :: X :: B], (A ++ Y :: B).Sublist r := fun r hr => by
    rcases List.mem_cons.mp hr with rfl | hr
    · exact s2 _ _
    · rw [List.mem_singleton.mp hr]
      exact s1 _ _
  have inQ : ∀ r ∈ [A ++ X :: Y :: B, A ++ Y :: X :: B], (A ++ X :: B).Sublist r := fun r hr => by
    rcases List.mem_cons.mp hr with rfl | hr
    · exact s1 _ _
    · rw [List.mem_singleton.mp hr]
      exact s2 _ _
  have lpq : (A ++ Y :: B).length = (A ++ X :: B).length := by rw [List.length_append, List.length_append, List.length_cons, List.length_cons]
  refine comA_is (hp.nodup_iff.mpr (List.nodup_cons.mpr ⟨fun h => hpq (List.mem_singleton.mp h), List.nodup_cons.mpr ⟨by simp, List.nodup_nil⟩⟩)) (so.imp_of_mem fun {a b} ha hb h => by rw [← Ka.rowPl_len ((hl a ha).trans (hl b hb).symm)]; exact h) fun x => ?_
  rw [hp.mem_iff]
  constructor
  · intro hx
    rcases List.mem_cons.mp hx with rfl | hx
    · refine ⟨inP, fun y hy hs => ?_⟩
      rcases com y hy with h | h
      · exact hs.eq_of_length_le h.length_le
      · exact absurd ((hs.trans h).eq_of_length lpq) hpq
    · rw [List.mem_singleton.mp hx]
      refine ⟨inQ, fun y hy hs => ?_⟩
      rcases com y hy with h | h
      · exact absurd ((hs.trans h).eq_of_length lpq.symm).symm hpq
      · exact hs.eq_of_length_le h.length_le
  · rintro ⟨h1, h2⟩
    rcases com x h1 with h | h
    · rw [h2 _ inP h]
      exact List.mem_cons_self
    · rw [h2 _ inQ h]
      exact List.mem_cons_of_mem _ List.mem_cons_self
open PySem.W in
theorem pl_total : TotalLe Ka.rowPl := sortLe_total (listOrd itemOrd) false fun b => keyToks (Ka.rowD b)
end Kb
namespace Kb
open PySem PySem.Spec PyProof.Rows L2
def abcS (r : Nat) : Str := ⟨#[97 + r]⟩
theorem abc_ixx : ∀ r : Fin 26, (Str.ofString "abcdefghijklmnopqrstuvwxyz").cps.toList[r.1]? = some (97 + r.1) := by decide +kernel
theorem abc_nm : ∀ r : Fin 26, isName (abcS r.1) = true := by decide +kernel
theorem abc_ij {r q : Nat} (h : abcS r = abcS q) : r = q := by
  have h1 := congrArg (fun s => s.cps.toList) h
  have h2 : [97 + r] = [97 + q] := h1
  have h3 := List.head_eq_of_cons_eq h2
  omega
def signs (f n : Nat) : List Str := (List.range n).map fun p => abcS ((f + 5 * p) % 26)
theorem signs_len (f n : Nat) : (signs f n).length = n := by
  unfold signs
  rw [List.length_map, List.length_range]
theorem signs_nd (f n : Nat) (h : n ≤ 20) : (signs f n).Nodup := by
  unfold signs
  rw [List.nodup_iff_pairwise_ne, List.pairwise_map]
  refine List.Pairwise.imp_of_mem ?_ (List.pairwise_lt_range)
  intro a b ha hb hab e
  have ha := List.mem_range.mp ha
  have hb := List.mem_range.mp hb
  have := abc_ij e
  omega
theorem signs_name (f n : Nat) : ∀ z ∈ signs f n, isName z = true := fun z hz => by
  unfold signs at hz
  obtain ⟨p, _, rfl⟩ := List.mem_map.mp hz
  exact abc_nm ⟨(f + 5 * p) % 26, Nat.mod_lt _ (by decide)⟩
section
variable {P : Program} {w : World} {K : PySem.W.Frag} {mg : Str → Option Value} {base : Heap}
abbrev nEx : List Str := ["box", "many", "first", "u", "at", "v", "due", "place"]
theorem scExch : FnScope nEx ["box"] (defScope sExch) := ⟨rfl, rfl, rfl, by decide +kernel, rfl, by decide +kernel, by decide +kernel⟩
def spExch : Sp := fun vs H Q _ => ∃ x : Addr, vs = [.ref x] ∧ Box H x ∧ ∀ H', But x H H' → Box H' x → Q (.bl true) H'
theorem ok_exch {f fT fC : Addr} {fd dT dC : FuncData} (F : Fun K "_law_exchanged_right" "_law_exchanged_right" sExch f fd) (FT : Fun K "_law_take" "_law_take" sTake fT dT) (bT : Binds K dT ["box", "many"] []) (gT : mg "_law_take" = some (.ref fT)) (C : AllC K mg) (FC : Fun K "common" "common" sCommon fC dC) (bC : Binds K dC ["u", "v"] []) (gC : mg "common" = some (.ref fC))
    (bA : Binds K C.fd ["rows"] []) (gA : mg "common_all" = some (.ref C.f)) (N : Nones mg) : FnOk P w K mg base CX0 5 f fd ["box"] spExch := by
  have GT : FnOk P w K mg base CX0 1 fT dT ["box", "many"] spTake := ok_take FT N.int
  have GC : FnOk P w K mg base (L2.CX P w) 4 fC dC ["u", "v"] (spCommon K C.C) := ok_common FC C bA gA
  have GA : FnOk P w K mg base (L2.CX P w) 3 C.f C.fd ["rows"] (spAll K C.C) := C.ok
  refine F.ok scExch (fun vs H Q E h => ?_) (fun cdv A outer s H vs Q E hr h => ?_)
  · obtain ⟨x, rfl, _⟩ := h
    rfl
  · obtain ⟨x, rfl, hx, q⟩ := h
    have hr1 : Room 1 _ := hr.mono (by decide)
    have hr3 : Room 3 _ := hr.mono (by decide)
    refine ⟨_, pss_cons (ps_asg (pe_tup (pa_cons (pe_op op_add pe_int (pe_call GT hr1 (by rfl) gT FT.kp bT .nil pass0 (pa_cons (pv 0) (pa_cons pe_int pa_nil)))) (pa_cons (pe_call GT hr1 (by rfl) gT FT.kp bT .nil pass0 (pa_cons (pv 0) (pa_cons pe_int pa_nil))) pa_nil))) (pg_tup rfl (pgs_cons (pg_name (i := 1) scExch.nd rfl (.inl rfl)) (pgs_cons (pg_name (i := 2) scExch.nd rfl (.inr rfl)) pgs_nil))))
      (pss_cons (ps_set (i := 3) scExch.nd rfl (.inl rfl) (pe_callTy call_tuple_of (by rfl) N.tuple (by decide +kernel) (pa_cons (pe_lc (own := [("place", 7)]) (g := gName 7) (tt := tYes) rfl scExch.nd (pi_range1 (by rfl) N.range (pa_cons (pv 1) pa_nil)) (blkOk_by (own := [("place", 7)]) (N := nEx) (sc := defScope sExch) (by decide +kernel)) (fun _ _ _ _ _ => pg_name (i := 7) scExch.nd rfl (Or.inl rfl)) (fun _ _ _ _ _ => pts_nil)
          (fun _ _ _ _ _ => pe_ix ix_str pe_str (pe_op op_mod (pe_callTy call_int1 (by rfl) N.int (by decide +kernel) (pa_cons (pe_op op_add (pv 2) (pe_op op_mul pe_int (pv 7))) pa_nil)) pe_int) (fun _ _ => rfl))) pa_nil)))
      (pss_cons (ps_set (i := 4) scExch.nd rfl (.inl rfl) (pe_call GT hr1 (by rfl) gT FT.kp bT .nil pass0 (pa_cons (pv 0) (pa_cons (pe_op op_sub (pv 1) pe_int) pa_nil))))
      (pss_cons (ps_set (i := 5) scExch.nd rfl (.inl rfl) (pe_op op_catA (pe_op op_catA (pe_slice sl_tupA (pv 3) po_none (po_some (pv 4))) (pe_tup (pa_cons (pe_ix ix_tup (pv 3) (pe_op op_add (pv 4) pe_int) (fun _ _ => rfl)) (pa_cons (pe_ix ix_tup (pv 3) (pv 4) (fun _ _ => rfl)) pa_nil)))) (pe_slice sl_tupA (pv 3) (po_some (pe_op op_add (pv 4) pe_int)) po_none)))
      (pss_cons (ps_set (i := 6) scExch.nd rfl (.inl rfl) (pe_callTy call_tuple_of (by rfl) N.tuple (by decide +kernel) (pa_cons (pe_callB (Ka.cr_sortedN hr.units) (by rfl) N.sorted (by decide +kernel) (pa_cons (pe_lst (pa_cons (pe_op op_catA (pe_slice sl_tupA (pv 3) po_none (po_some (pv 4))) (pe_slice sl_tupA (pv 3) (po_some (pe_op op_add (pv 4) pe_int)) po_none))
          (pa_cons (pe_op op_catA (pe_slice sl_tupA (pv 3) po_none (po_some (pe_op op_add (pv 4) pe_int))) (pe_slice sl_tupA (pv 3) (po_some (pe_op op_add (pv 4) pe_int)) po_none)) pa_nil))) pa_nil)) pa_nil)))
      (pss_one (ps_ret (pe_and (pe_cmpR (op_eqD hr.units) (pe_call GC hr (by rfl) gC FC.kp bC .nil (E := fun _ _ _ => False) (passes_call LamX.takes0 (fun _ _ _ _ h => h)) (pa_cons (pv 3) (pa_cons (pv 5) pa_nil))) (pv 6) (nomark _))
        (pe_one (pe_cmpR (op_eqD hr.units) (pe_call GA hr3 (by rfl) gA C.F.kp bA .nil (E := fun _ _ _ => False) (passes_call LamX.takes0 (fun _ _ _ _ h => h)) (pa_cons (pe_lst (pa_cons (pv 5) (pa_cons (pv 3) (pa_cons (pv 5) pa_nil)))) pa_nil)) (pv 6) (nomark _)))))))))), ?_⟩
    refine ⟨.ref x, rfl, x, 3, rfl, hx, by decide, by decide, fun t H1 ht k1 b1 => ⟨_, _, rfl, rfl, ?_⟩⟩
    refine ⟨.ref x, rfl, x, 26, rfl, b1, by decide, by decide, fun g H2 hg k2 b2 => ⟨smallE (show 2 ≤ 1000000 by decide), fun T nT => ?_⟩⟩
    have en : ((7 : Int) + ((t : Nat) : Int)) = ((7 + t : Nat) : Int) := by omega
    dsimp only
    rw [en]
    have sT := same_new (o := .tup [V.int ((7 + t : Nat) : Int), .int (g : Nat)]) nT
    refine ⟨T, [V.int ((7 + t : Nat) : Int), .int (g : Nat)], rfl, .inl (.inl upd_same), rfl, _, _, rfl, _, _, rfl, rfl, ?_⟩
    have k3 := (k1.trans k2).trans (But.of sT)
    have b3 := b2.mono sT
    generalize upd H2 T (.tup [V.int ((7 + t : Nat) : Int), .int (g : Nat)]) = H3 at k3 b3 ⊢
    obtain ⟨n, hn⟩ : ∃ n, n = 7 + t := ⟨_, rfl⟩
    rw [← hn]
    have hn8 : 7 ≤ n := by omega
    have hn20 : n ≤ 9 := by omega
    have lenS := signs_len g n
    have xB : ∀ {H4 H5 : Hp}, But x H H4 → Same H4 H5 → But x H H5 := fun a b => a.trans (But.of b)
    refine ⟨.int (n : Nat), rfl, _, rfl, by omega, by omega, fun D nD => ?_⟩
    have hDx := b3.ne nD
    refine lc_it (walk_r0 (n := n)) (fun j H4 => But x H H4 ∧ Box H4 x ∧ H4 D = some (.lst (((signs g n).take j).map V.str))) ⟨k3.trans (But.of (same_new nD)), b3.upd hDx, upd_same⟩ (fun _ _ _ _ => True.intro) (fun j y H4 H5 hj h4 yy => ?_) (fun H4 h4 => ?_)
    · obtain ⟨e9, rfl⟩ := yy
      subst e9
      obtain ⟨k4, b4, eD⟩ := h4
      refine ⟨rfl, .int (g : Nat), rfl, .int (j : Nat), rfl, _, _, rfl, rfl, .inl (by decide), ?_⟩
      have er : (((g : Nat) : Int) + 5 * ((j : Nat) : Int)) % 26 = (((g + 5 * j) % 26 : Nat) : Int) := by omega
      have hm : (g + 5 * j) % 26 < 26 := Nat.mod_lt _ (by decide)
      have hgj : (signs g n)[j]? = some (abcS ((g + 5 * j) % 26)) := by
        unfold signs
        rw [List.getElem?_map, List.getElem?_range hj]
        rfl
      refine ⟨_, _, rfl, rfl, .inl ⟨_, rfl, _, 26, rfl, rfl, (show (0 : Int) < 26 by decide), _, _, 97 + (g + 5 * j) % 26, rfl, rfl, by decide +kernel, (by rw [er]; exact atI_nat (abc_ixx ⟨_, hm⟩)), ?_⟩⟩
      refine ⟨_, eD, by rw [List.length_map]; exact small (Nat.le_trans (List.length_take_le _ _) (by omega)), fun c u hc e => ?_, b4.upd hDx, ?_⟩
      · by_cases hcD : c = D
        · subst hcD
          have := (k3 c u hc e)
          rw [nD] at this
          cases this
        · rw [upd_ne hcD]
          exact k4 c u hc e
      · rw [upd_same, take_of_get hgj, List.map_append]
        rfl
    · obtain ⟨k4, b4, eD⟩ := h4
      rw [List.take_of_length_le (Nat.le_of_eq lenS)] at eD
      refine ⟨D, _, rfl, .inl ⟨sqL_new eD, fun l nl => ?_⟩⟩
      have sl := same_new (o := .tup ((signs g n).map V.str)) nl
      have k5 := xB k4 sl
      have b5 := b4.mono sl
      have el : upd H4 l (.tup ((signs g n).map V.str)) l = some (.tup ((signs g n).map V.str)) := upd_same
      have hlx : l ≠ x := b4.ne nl
      generalize upd H4 l (.tup ((signs g n).map V.str)) = H5 at k5 b5 el ⊢
      have hnd := signs_nd g n (by omega)
      have hnm := signs_name g n
      generalize hS : signs g n = us at el hnd hnm lenS
      refine ⟨.ref x, rfl, .int (n : Nat), rfl, _, _, rfl, rfl, x, n - 1, ?_, b5, by omega, by omega, fun i H6 hi k6 b6 => ?_⟩
      · show [V.ref x, V.int (((n : Nat) : Int) - 1)] = _
        rw [show (((n : Nat) : Int) - 1) = ((n - 1 : Nat) : Int) by omega]
      have e6 := k6 _ _ hlx el
      have k7 := k5.trans k6
      have h1 : us[i]? = some us[i] := List.getElem?_eq_getElem (by omega)
      have h2 : us[i + 1]? = some us[i + 1] := List.getElem?_eq_getElem (by omega)
      generalize hX : us[i] = X at h1
      generalize hY : us[i + 1] = Y at h2
      have g1 : (us.map V.str)[i]? = some (.str X) := by rw [List.getElem?_map, h1]; rfl
      have g2 : (us.map V.str)[i + 1]? = some (.str Y) := by rw [List.getElem?_map, h2]; rfl
      have g2' : atI (us.map V.str) (((i : Nat) : Int) + 1) = some (.str Y) := by
        rw [show (((i : Nat) : Int) + 1) = ((i + 1 : Nat) : Int) by omega]
        exact atI_nat g2
      have hsplit : us = us.take i ++ X :: Y :: us.drop (i + 2) := by
        rw [← drop_of_get h2, ← drop_of_get h1, List.take_append_drop]
      have hnd' := hnd
      rw [hsplit] at hnd'
      have hAB := (List.nodup_append.mp hnd').2.1
      rw [List.nodup_cons, List.nodup_cons] at hAB
      obtain ⟨hXn, hYn, _⟩ := hAB
      have hXY : ¬ X = Y := fun e => hXn (e ▸ List.mem_cons_self)
      have hXB : X ∉ us.drop (i + 2) := fun z => hXn (List.mem_cons_of_mem _ z)
      have nX : isName X = true := hnm _ (List.mem_of_getElem? h1)
      have nY : isName Y = true := hnm _ (List.mem_of_getElem? h2)
      have lT : (us.map V.str).length = n := by rw [List.length_map, lenS]
      have hD1 : us.drop (i + 1) = Y :: us.drop (i + 2) := drop_of_get h2
      have hT1 : us.take (i + 1) = us.take i ++ [X] := take_of_get h1
      have hui : (us.take i).length = i := by rw [List.length_take]; omega
      have hdl : (us.drop (i + 2)).length = n - (i + 2) := by rw [List.length_drop, lenS]
      generalize hA : us.take i = A at hsplit hT1 hui
      generalize hB : us.drop (i + 2) = B at hsplit hD1 hXB hYn hdl
      have hTm : (us.map V.str).take i = A.map V.str := by rw [← List.map_take, hA]
      have hTm1 : (us.map V.str).take (i + 1) = (A ++ [X]).map V.str := by rw [← List.map_take, hT1]
      have hDm1 : (us.map V.str).drop (i + 1) = (Y :: B).map V.str := by rw [← List.map_drop, hD1]
      have hDm2 : (us.map V.str).drop (i + 2) = B.map V.str := by rw [← List.map_drop, hB]
      have hnA : ∀ z ∈ A, isName z = true := fun z hz => hnm z (by rw [← hA] at hz; exact List.mem_of_mem_take hz)
      have hnB : ∀ z ∈ B, isName z = true := fun z hz => hnm z (by rw [← hB] at hz; exact List.mem_of_mem_drop hz)
      have nm2 : ∀ (Z W : Str), isName Z = true → isName W = true → ∀ z ∈ A ++ Z :: W :: B, isName z = true := fun Z W hZ hW z hz => by
        rcases List.mem_append.mp hz with h | h
        · exact hnA z h
        · rcases List.mem_cons.mp h with rfl | h
          · exact hZ
          · rcases List.mem_cons.mp h with rfl | h
            · exact hW
            · exact hnB z h
      have nm1 : ∀ (Z : Str), isName Z = true → ∀ z ∈ A ++ Z :: B, isName z = true := fun Z hZ z hz => by
        rcases List.mem_append.mp hz with h | h
        · exact hnA z h
        · rcases List.mem_cons.mp h with rfl | h
          · exact hZ
          · exact hnB z h
      -- v
      refine ⟨.ref l, rfl, ?_⟩
      dsimp only [tNoPart]
      refine ⟨_, rfl, _, rfl, slT_take e6 fun Ha pa sa ha => ?_⟩
      rw [hTm] at ha
      have ea := sa _ _ e6
      refine ⟨.ref l, rfl, .int (i : Nat), rfl, _, _, rfl, rfl, l, _, _, _, rfl, rfl, sqT_new ea, g2', .ref l, rfl, .int (i : Nat), rfl, l, _, _, _, rfl, rfl, sqT_new ea, atI_nat g1, smallE (show 2 ≤ 1000000 by decide), fun t4 n4 => ?_⟩
      have s4 := same_new (o := .tup [V.str Y, .str X]) n4
      refine catT (s4 _ _ ha) upd_same (by rw [List.length_map]; show _ + 2 ≤ _; omega) fun Hb pb sb hb => ?_
      have sB := (sa.trans s4).trans sb
      refine ⟨.ref l, rfl, .int (i : Nat), rfl, _, _, rfl, rfl, _, rfl, ?_⟩
      rw [show (((i : Nat) : Int) + 2) = ((i + 2 : Nat) : Int) by omega]
      dsimp only [tNoPart]
      refine slT_drop (sB _ _ e6) fun Hc pc sc hc => ?_
      rw [hDm2] at hc
      refine catT (sc _ _ hb) hc (by rw [List.length_append, List.length_map, List.length_map]; show _ + 2 + _ ≤ _; omega) fun Hd pv_ sd ev => ?_
      have sD := (sB.trans sc).trans sd
      have eV : A.map V.str ++ [V.str Y, .str X] ++ B.map V.str = (A ++ Y :: X :: B).map V.str := by
        rw [List.map_append, List.map_cons, List.map_cons, List.append_assoc]
        rfl
      rw [eV] at ev
      have eU := sD _ _ e6
      have k9 := xB k7 sD
      have b9 := b6.mono sD
      -- due
      refine ⟨.ref l, rfl, ?_⟩
      dsimp only [tNoPart]
      refine ⟨_, rfl, _, rfl, slT_take eU fun H11 p11 s11 h11 => ?_⟩
      rw [hTm] at h11
      refine ⟨.ref l, rfl, .int (i : Nat), rfl, _, _, rfl, rfl, _, rfl, ?_⟩
      rw [show (((i : Nat) : Int) + 1) = ((i + 1 : Nat) : Int) by omega]
      dsimp only [tNoPart]
      refine slT_drop (s11 _ _ eU) fun H12 p12 s12 h12 => ?_
      rw [hDm1] at h12
      refine catT (s12 _ _ h11) h12 (by rw [List.length_map, List.length_map, List.length_cons]; omega) fun H13 p1 s13 h13 => ?_
      rw [← List.map_append] at h13
      have r13 := (s11.trans s12).trans s13
      refine ⟨.ref l, rfl, ?_⟩
      dsimp only [tNoPart]
      refine ⟨.int (i : Nat), rfl, _, _, rfl, rfl, _, rfl, ?_⟩
      rw [show (((i : Nat) : Int) + 1) = ((i + 1 : Nat) : Int) by omega]
      refine slT_take (r13 _ _ eU) fun H14 p14 s14 h14 => ?_
      rw [hTm1] at h14
      refine ⟨.ref l, rfl, .int (i : Nat), rfl, _, _, rfl, rfl, _, rfl, ?_⟩
      rw [show (((i : Nat) : Int) + 2) = ((i + 2 : Nat) : Int) by omega]
      dsimp only [tNoPart]
      refine slT_drop ((r13.trans s14) _ _ eU) fun H15 p15 s15 h15 => ?_
      rw [hDm2] at h15
      refine catT (s15 _ _ h14) h15 (by rw [List.length_map, List.length_map, List.length_append]; show _ + 1 + _ ≤ _; omega) fun H16 p2 s16 h16 => ?_
      rw [← List.map_append, List.append_assoc] at h16
      have r36 := (s14.trans s15).trans s16
      have h13' := r36 _ _ h13
      refine ⟨smallE (show 2 ≤ 1000000 by decide), fun q1 nq1 => ?_⟩
      have sq1 := same_new (o := .lst [V.ref p1, .ref p2]) nq1
      refine ⟨q1, [(p1, A ++ Y :: B), (p2, A ++ X :: B)], rfl, sqL_new upd_same, fun r hr => ?_, fun q2 nq2 => ?_⟩
      · rcases List.mem_cons.mp hr with rfl | hr
        · exact ⟨sqT_new (sq1 _ _ h13'), by simp⟩
        · rw [List.mem_singleton.mp hr]
          exact ⟨sqT_new (sq1 _ _ h16), by simp⟩
      have memS : ∀ r, r ∈ ([(p1, A ++ Y :: B), (p2, A ++ X :: B)] : List Ka.Row).mergeSort Ka.leRowP ↔ r ∈ ([(p1, A ++ Y :: B), (p2, A ++ X :: B)] : List Ka.Row) := fun r => List.mem_mergeSort
      have permS : ((([(p1, A ++ Y :: B), (p2, A ++ X :: B)] : List Ka.Row).mergeSort Ka.leRowP).map (·.2)).Perm [A ++ Y :: B, A ++ X :: B] := (List.mergeSort_perm _ _).map (fun r : Ka.Row => r.2)
      have sortS : ((([(p1, A ++ Y :: B), (p2, A ++ X :: B)] : List Ka.Row).mergeSort Ka.leRowP).map (·.2)).Pairwise fun a b => Ka.rowPl a b = true := by
        have e : (([(p1, A ++ Y :: B), (p2, A ++ X :: B)] : List Ka.Row).mergeSort Ka.leRowP).map (·.2) = (([(p1, A ++ Y :: B), (p2, A ++ X :: B)] : List Ka.Row).map (·.2)).mergeSort Ka.rowPl := PySem.W.sort_maps (fun r : Ka.Row => r.2) fun _ _ _ _ => rfl
        rw [e]
        exact PySem.W.sort_pairwise pl_total _
      generalize ([(p1, A ++ Y :: B), (p2, A ++ X :: B)] : List Ka.Row).mergeSort Ka.leRowP = ds at memS permS sortS ⊢
      have sq2 := same_new (o := .lst (ds.map fun r => V.ref r.1)) nq2
      refine ⟨q2, _, rfl, .inl ⟨sqL_new upd_same, fun pd npd => ?_⟩⟩
      have sq3 := same_new (o := .tup (ds.map fun r => V.ref r.1)) npd
      have hdue : upd (upd (upd H16 q1 (.lst [V.ref p1, .ref p2])) q2 (.lst (ds.map fun r => V.ref r.1))) pd (.tup (ds.map fun r => V.ref r.1)) pd = some (.tup (adV ds)) := upd_same
      have r16 := (sq1.trans sq2).trans sq3
      have hds : Rows (upd (upd (upd H16 q1 (.lst [V.ref p1, .ref p2])) q2 (.lst (ds.map fun r => V.ref r.1))) pd (.tup (ds.map fun r => V.ref r.1))) ds := fun r hr => by
        rcases List.mem_cons.mp ((memS r).mp hr) with rfl | hr
        · exact r16 _ _ h13'
        · rw [List.mem_singleton.mp hr]
          exact r16 _ _ h16
      have rD := (r13.trans r36).trans r16
      generalize upd (upd (upd H16 q1 (.lst [V.ref p1, .ref p2])) q2 (.lst (ds.map fun r => V.ref r.1))) pd (.tup (ds.map fun r => V.ref r.1)) = H17 at hdue hds rD ⊢
      have eU7 := rD _ _ eU
      have eV7 := rD _ _ ev
      have k10 := xB k9 rD
      have b10 := b9.mono rD
      rw [hsplit] at eU7
      have hcm := comA_swap hXY A B permS sortS
      have ndue : ∀ r ∈ ds.map (·.2), ∀ z ∈ r, isName z = true := fun r hr => by
        have := permS.mem_iff.mp hr
        rcases List.mem_cons.mp this with rfl | h
        · exact nm1 Y nY
        · rw [List.mem_singleton.mp h]
          exact nm1 X nX
      have shD := (shRows ndue).2
      have lu : (A ++ X :: Y :: B).length = n := by rw [← hsplit, lenS]
      have lv : (A ++ Y :: X :: B).length = n := by
        rw [← lu, List.length_append, List.length_append]
        rfl
      refine ⟨.ref l, rfl, .ref pv_, rfl, l, pv_, _, _, rfl, eU7, eV7, by omega, by omega, nm2 X Y nX nY, nm2 Y X nY nX, fun h => absurd h (by omega), fun _ H18 p18 ts s18 np18 ep18 hts hR18 hl18 => ?_⟩
      rw [hcm] at hts
      refine ⟨.ref pd, rfl, .tuple ((ts.map (·.2)).map Ka.rowD), .tuple ((ds.map (·.2)).map Ka.rowD), .tup (sqT_new ep18) (dpRows hR18), .tup (sqT_new (s18 _ _ hdue)) (dpRows (hds.mono s18)), by rw [hts]; exact shD, shD, ?_⟩
      rw [PyData.eqv, eqRows, hts, decide_eq_true rfl]
      refine ⟨true, rfl, iteT ?_⟩
      refine ⟨.ref pv_, rfl, .ref l, rfl, .ref pv_, rfl, smallE (show 3 ≤ 1000000 by decide), fun q4 nq4 => ?_⟩
      have s19 := s18.trans (same_new (o := .lst [V.ref pv_, .ref l, .ref pv_]) nq4)
      refine ⟨q4, [(pv_, A ++ Y :: X :: B), (l, A ++ X :: Y :: B), (pv_, A ++ Y :: X :: B)], rfl, .inl (sqL_new upd_same), fun r hr => ?_, (show 0 < 3 by decide), (show 3 ≤ 100 by decide), fun r hr => ?_, fun h => ?_, fun _ H20 p20 us20 s20 np20 ep20 hts20 hR20 hl20 => ?_⟩
      · simp only [List.mem_cons, List.not_mem_nil, or_false] at hr
        rcases hr with rfl | rfl | rfl
        · exact s19 _ _ eV7
        · exact s19 _ _ eU7
        · exact s19 _ _ eV7
      · simp only [List.mem_cons, List.not_mem_nil, or_false] at hr
        rcases hr with rfl | rfl | rfl
        · exact ⟨by show (A ++ Y :: X :: B).length ≤ 400; omega, nm2 Y X nY nX⟩
        · exact ⟨by show (A ++ X :: Y :: B).length ≤ 400; omega, nm2 X Y nX nY⟩
        · exact ⟨by show (A ++ Y :: X :: B).length ≤ 400; omega, nm2 Y X nY nX⟩
      · have : 12 < (A ++ Y :: X :: B).length := h (pv_, A ++ Y :: X :: B) List.mem_cons_self
        omega
      · have hts20 : us20.map (·.2) = comA [A ++ Y :: X :: B, A ++ X :: Y :: B, A ++ Y :: X :: B] := hts20
        rw [comA_congr (m := [A ++ X :: Y :: B, A ++ Y :: X :: B]) (by simp) (by simp) (fun r => by
          simp only [List.mem_cons, List.not_mem_nil, or_false]
          constructor
          · rintro (h | h | h)
            · exact .inr h
            · exact .inl h
            · exact .inr h
          · rintro (h | h)
            · exact .inr (.inl h)
            · exact .inl h), hcm] at hts20
        have sF := s19.trans s20
        refine ⟨.ref pd, rfl, .tuple ((us20.map (·.2)).map Ka.rowD), .tuple ((ds.map (·.2)).map Ka.rowD), .tup (sqT_new ep20) (dpRows hR20), .tup (sqT_new (sF _ _ hdue)) (dpRows (hds.mono sF)), by rw [hts20]; exact shD, shD, ?_⟩
        rw [PyData.eqv, eqRows, hts20, decide_eq_true rfl]
        exact q _ (xB k10 sF) (b10.mono sF)
end
end Kb
namespace Kb
open PySem PySem.Spec PyProof.Rows L2
section
variable {P : Program} {w : World} {K : PySem.W.Frag} {mg : Str → Option Value} {base : Heap}
theorem scBox : FnScope ["script", "k", "cell"] ["script", "k"] (defScope sBox) := ⟨rfl, rfl, rfl, by decide +kernel, rfl, by decide +kernel, by decide +kernel⟩
def spBox (K : PySem.W.Frag) : Sp := fun vs H Q _ => ∃ (a : Addr) (k : Nat) (ns : List Int), vs = [.ref a, .int (k : Nat)] ∧ SqL K H a (intV ns) ∧ k ≤ 3 ∧ ∀ H' p, Same H H' → H p = none → Box H' p → Q (.ref p) H'
theorem ok_box {f : Addr} {fd : FuncData} (F : Fun K "_law_box" "_law_box" sBox f fd) (mi : mg "int" = none) (ml : mg "len" = none) (ma : mg "abs" = none) : FnOk P w K mg base CX0 1 f fd ["script", "k"] (spBox K) := by
  refine F.ok scBox (fun vs H Q E h => ?_) (fun cdv A outer s H vs Q E hr h => ?_)
  · obtain ⟨a, k, ns, rfl, _⟩ := h
    rfl
  · obtain ⟨a, k, ns, rfl, hA, hk, q⟩ := h
    refine ⟨_, pss_cons (ps_set (i := 2) scBox.nd rfl (.inl rfl) (pe_op op_add (pe_op op_mul pe_int (pv 1)) pe_int))
      (pss_cons (ps_if (pt_cmpR op_lt (pv 1) (pe_callB call_len_seq (by rfl) ml PySem.boot_len (pa_cons (pv 0) pa_nil)) (nomark _))
        (pss_one (ps_set (i := 2) scBox.nd rfl (.inl rfl) (pe_callB call_abs (by rfl) ma (by decide +kernel) (pa_cons (pe_ix ix_list (pv 0) (pv 1) (fun _ _ => rfl)) pa_nil))))
        (pss_one (ps_if (pt_cmpR op_gt (pe_callB call_len_seq (by rfl) ml PySem.boot_len (pa_cons (pv 0) pa_nil)) pe_int (nomark _))
          (pss_one (ps_set (i := 2) scBox.nd rfl (.inl rfl) (pe_op op_add (pv 2) (pe_op op_mul (pe_op op_mod (pe_callTy call_int1 (by rfl) mi (by decide +kernel) (pa_cons (pe_callB call_abs (by rfl) ma (by decide +kernel) (pa_cons
              (pe_ix ix_list (pv 0) (pe_op op_mod (pe_callTy call_int1 (by rfl) mi (by decide +kernel) (pa_cons (pv 1) pa_nil)) (pe_callB call_len_seq (by rfl) ml PySem.boot_len (pa_cons (pv 0) pa_nil))) (fun _ _ => rfl)) pa_nil)) pa_nil)) pe_int) pe_int)))) pss_nil)))
      (pss_one (ps_ret (pe_lst (pa_cons (pe_ix ix_list (pe_lst (pa_cons pe_int (pa_cons (pv 2) pa_nil))) (pe_callTy call_int1 (by rfl) mi (by decide +kernel) (pa_cons (pe_cmpR op_ge (pv 2) (pe_op op_pow pe_int pe_int) (nomark _)) pa_nil)) (fun _ _ => rfl))
        (pa_cons (pe_op op_add (pe_op op_mod (pe_callTy call_int1 (by rfl) mi (by decide +kernel) (pa_cons (pe_op op_add (pe_op op_add (pe_op op_mul (pe_op op_mod (pe_callTy call_int1 (by rfl) mi (by decide +kernel) (pa_cons (pv 2) pa_nil)) pe_int) pe_int) (pe_op op_mul pe_int (pv 1))) pe_int) pa_nil)) pe_int) pe_int) (pa_cons pe_int pa_nil))))))), ?_⟩
    have s1000 : ∀ n, n ≤ 1000000 → n ≤ sizeLine := fun n h => smallE h
    refine ⟨.int (k : Nat), rfl, 7919, (k : Nat), rfl, rfl, .inl (by decide), _, 41543, rfl, rfl, ?_⟩
    refine ⟨.int (k : Nat), rfl, .ref a, rfl, a, _, rfl, .inl hA, _, _, rfl, rfl, _, rfl, ?_⟩
    generalize hX : tRet _ _ = X
    have fin : ∀ c : Int, X [some (.ref a), some (.int (k : Nat)), some (.int c)] H := fun c => by
      rw [← hX]
      refine ⟨.int c, rfl, s1000 2 (by decide), fun l nl => ?_⟩
      have s1 := same_new (o := .lst [.int 0, .int c]) nl
      refine ⟨.int c, rfl, 10, 18, rfl, rfl, ⟨by decide, by decide, by decide⟩, _, _, rfl, rfl, .inr ⟨_, rfl, ?_⟩⟩
      have hat : ∃ e : Int, atI [V.int 0, V.int c] (if decide ((10 : Int) ^ (18 : Int).toNat ≤ c) = true then 1 else 0) = some (.int e) := by
        by_cases h : decide ((10 : Int) ^ (18 : Int).toNat ≤ c) = true
        · rw [if_pos h]
          exact ⟨c, rfl⟩
        · rw [if_neg h]
          exact ⟨0, rfl⟩
      obtain ⟨e, he⟩ := hat
      refine ⟨l, _, _, .int e, rfl, rfl, sqL_new upd_same, he, ?_⟩
      refine ⟨.int c, rfl, .inl ⟨c, rfl, c, 2147483629, rfl, rfl, (by show (0 : Int) < 2147483629; decide), _, 48271, rfl, rfl, .inr (by decide), .int (k : Nat), rfl, 41543, _, rfl, rfl, .inl (by decide), _, _, rfl, rfl, _, 977, rfl, rfl, .inl ⟨_, rfl, _, 2147483629, rfl, rfl, (by show (0 : Int) < 2147483629; decide), _, 1, rfl, rfl, ?_⟩⟩⟩
      refine ⟨s1000 3 (by decide), fun l2 nl2 => ?_⟩
      exact q _ l2 (s1.trans (same_new nl2)) (s1.free nl2) ⟨_, _, _, upd_same⟩
    refine ite2 (fun c => ?_) (fun c => ?_)
    · have c := of_decide_eq_true c
      rw [intV_len] at c
      have hg : ns[k]? = some (ns[k]'(by omega)) := List.getElem?_eq_getElem (by omega)
      exact ⟨.ref a, rfl, .int (k : Nat), rfl, a, _, _, _, rfl, rfl, hA, atI_nat (intV_get hg), _, rfl, fin _⟩
    · refine ⟨.ref a, rfl, a, _, rfl, .inl hA, _, 0, rfl, rfl, _, rfl, ite2 (fun c2 => ?_) (fun c2 => ?_)⟩
      · have c2 := of_decide_eq_true c2
        rw [intV_len] at c2
        obtain ⟨r, hr1, hr2⟩ := mod_nat (k : Int) (n := ns.length) (by omega)
        have hg : ns[r]? = some (ns[r]'(by omega)) := List.getElem?_eq_getElem (by omega)
        refine ⟨_, rfl, .ref a, rfl, .int (k : Nat), rfl, .inl ⟨_, rfl, .ref a, rfl, a, _, rfl, .inl hA, _, _, rfl, rfl, ?_, ?_⟩⟩
        · show (0 : Int) < (((intV ns).length : Nat) : Int)
          rw [intV_len]
          exact c2
        · refine ⟨a, _, _, _, rfl, rfl, hA, at_of (by rw [intV_len]; exact hr2) (intV_get hg), _, rfl, .inl ⟨_, rfl, _, 2147483629, rfl, rfl, (by show (0 : Int) < 2147483629; decide), _, 60719, rfl, rfl, .inr (by decide), _, _, rfl, rfl, fin _⟩⟩
      · exact fin _
end
end Kb
namespace Kb
open PySem PySem.Spec PyProof.Rows L2
theorem cutV_take {xs : List V} {j : Nat} : cutV xs none (some (j : Int)) = xs.take j := by
  unfold cutV
  rw [HT.sIx_nat, HT.sIx_none, List.drop_zero, Nat.sub_zero]
  by_cases h : j ≤ xs.length
  · rw [Nat.min_eq_left h]
  · rw [Nat.min_eq_right (by omega), List.take_length, List.take_of_length_le (by omega)]
section
variable {P : Program} {w : World} {K : PySem.W.Frag} {mg : Str → Option Value} {base : Heap}
theorem scChanged : FnScope ["box", "row", "names", "found", "deed"] ["box", "row", "names"] (defScope sChanged) := ⟨rfl, rfl, rfl, by decide +kernel, rfl, by decide +kernel, by decide +kernel⟩
def spChanged : Sp := fun vs H Q _ => ∃ (x a b : Addr) (us ns : List Str), vs = [.ref x, .ref a, .ref b] ∧ Box H x ∧ H a = some (.tup (us.map V.str)) ∧ b ≠ x ∧ H b = some (.lst (ns.map V.str)) ∧ us.length ≤ 1000 ∧ 0 < ns.length ∧ ns.length ≤ 1000 ∧
  ∀ (p : Addr) (zs : List Str) H', zs.length ≤ 8 → (∀ z ∈ zs, z ∈ us ∨ z ∈ ns) → But x H H' → Box H' x → H p = none → H' p = some (.tup (zs.map V.str)) → Q (.ref p) H'
theorem ok_changed {f fT fP : Addr} {fd fdT fdP : FuncData} (F : Fun K "_law_changed" "_law_changed" sChanged f fd) (FT : Fun K "_law_take" "_law_take" sTake fT fdT) (bT : Binds K fdT ["box", "many"] []) (gT : mg "_law_take" = some (.ref fT)) (FP : Fun K "_law_pick" "_law_pick" sPick fP fdP) (bP : Binds K fdP ["box", "some"] []) (gP : mg "_law_pick" = some (.ref fP))
    (N : Nones mg) : FnOk P w K mg base CX0 3 f fd ["box", "row", "names"] spChanged := by
  have GT : FnOk P w K mg base CX0 1 fT fdT ["box", "many"] spTake := ok_take FT N.int
  have GP : FnOk P w K mg base CX0 2 fP fdP ["box", "some"] spPick := ok_pick FP FT bT gT N.int N.len
  refine F.ok scChanged (fun vs H Q E h => ?_) (fun cdv A outer s H vs Q E hr h => ?_)
  · obtain ⟨x, a, b, us, ns, rfl, _⟩ := h
    rfl
  · obtain ⟨x, a, nb, us, ns, rfl, hx, ha, hbx, hb, hu, h0, h1, q⟩ := h
    have hr1 := hr.mono (show 1 ≤ 2 by decide)
    refine ⟨_, pss_cons (ps_set (i := 3) scChanged.nd rfl (.inl rfl) (pe_lst pa_nil))
      (pss_cons (ps_for PassesOwn.never rfl (pi_tup (pv 1)) (pg_name (i := 4) scChanged.nd rfl (.inl rfl))
        (pss_cons (ps_if (pt_cmpR op_gt (pe_call GT hr1 (by rfl) gT FT.kp bT .nil pass0 (pa_cons (pv 0) (pa_cons pe_int pa_nil))) pe_int (nomark _))
          (pss_one (ps_expr (pe_bm PySem.F.plainAttrs_list PySem.F.slot_list_append PySem.F.type_list_append mt_append (pv 3) (pa_cons (pv 4) pa_nil)))) pss_nil)
        (pss_one (ps_if (pt_cmpR op_eq (pe_call GT hr1 (by rfl) gT FT.kp bT .nil pass0 (pa_cons (pv 0) (pa_cons pe_int pa_nil))) pe_int (nomark _))
          (pss_one (ps_expr (pe_bm PySem.F.plainAttrs_list PySem.F.slot_list_append PySem.F.type_list_append mt_append (pv 3) (pa_cons (pe_call GP hr (by rfl) gP FP.kp bP .nil pass0 (pa_cons (pv 0) (pa_cons (pv 2) pa_nil))) pa_nil)))) pss_nil))))
      (pss_one (ps_ret (pe_callTy call_tuple_of (by rfl) N.tuple (by decide +kernel) (pa_cons (pe_slice sl_list (pv 3) po_none (po_some pe_int)) pa_nil))))), ?_⟩
    refine ⟨smallE (by decide), fun D nD => ?_⟩
    have hDx := hx.ne nD
    have hax : a ≠ x := fun w => by
      obtain ⟨b0, b1, b2, hb⟩ := hx
      rw [← w, ha] at hb
      cases hb
    refine ⟨.ref a, rfl, a, rfl, ⟨_, sqT_new (same_new nD _ _ ha)⟩, ?_⟩
    refine for_tup (K := K) (a := a) (xs := us.map V.str) (fun i σ H' => ∃ (d4 : Option V) (zs : List Str), σ = [some (.ref x), some (.ref a), some (.ref nb), some (.ref D), d4] ∧ But x H H' ∧ Box H' x ∧ H' D = some (.lst (zs.map V.str)) ∧ zs.length ≤ 2 * i ∧ ∀ z ∈ zs, z ∈ us ∨ z ∈ ns)
      ⟨none, [], rfl, But.of (same_new nD), hx.upd hDx, upd_same, Nat.le_refl _, fun z hz => by cases hz⟩ (fun i σ H' _ ⟨_, _, _, k, _⟩ => sqT_new (k _ _ hax ha)) ?_ ?_
    · rintro i y σ H2 hy ⟨d4, zs, rfl, k2, b2, eD, hl, hz⟩
      obtain ⟨d, hd, rfl⟩ := get_map hy
      have hi := lt_of_get hd
      refine ⟨.ref x, rfl, x, 3, rfl, b2, by decide, by decide, fun r H3 hr k3 b3 => ⟨_, 0, rfl, rfl, _, rfl, ?_⟩⟩
      have k23 := k2.trans k3
      have eD3 := k3 _ _ hDx eD
      have app : ∀ (G : Hp) (ys : List Str) (e : Str), But x H G → Box G x → But x H (upd G D (.lst (ys.map V.str ++ [.str e]))) ∧ Box (upd G D (.lst (ys.map V.str ++ [.str e]))) x ∧ upd G D (.lst (ys.map V.str ++ [.str e])) D = some (.lst ((ys ++ [e]).map V.str)) := fun G ys e k b => by
        refine ⟨fun c u hc e => ?_, b.upd hDx, by rw [upd_same, List.map_append]; rfl⟩
        rw [upd_ne (ne_of_none e nD)]
        exact k _ _ hc e
      generalize hX : tIfS (tTest (tOp rEq (tCall spTake [] E0 _) _)) _ _ _ = X
      have fin : ∀ (ys : List Str) (G : Hp), But x H G → Box G x → G D = some (.lst (ys.map V.str)) → ys.length ≤ 2 * i + 1 → (∀ z ∈ ys, z ∈ us ∨ z ∈ ns) → X [some (.ref x), some (.ref a), some (.ref nb), some (.ref D), some (.str d)] G := fun ys G k b eG hl hz => by
        rw [← hX]
        refine ⟨.ref x, rfl, x, 4, rfl, b, by decide, by decide, fun r H4 hr k4 b4 => ⟨rfl, _, rfl, ?_⟩⟩
        refine ite2 (fun c => ?_) (fun c => ?_)
        · refine ⟨.ref D, rfl, .inl ⟨rfl, _, sqL_new (k4 _ _ hDx eG)⟩, .ref x, rfl, .ref nb, rfl, x, nb, _, rfl, b4, hbx, k4 _ _ hbx (k _ _ hbx hb), by rw [List.length_map]; exact h0, by rw [List.length_map]; omega, fun j v H5 hv k5 b5 => ?_⟩
          obtain ⟨z, hzz, rfl⟩ := get_map hv
          obtain ⟨a1, a2, a3⟩ := app H5 ys z ((k.trans k4).trans k5) b5
          refine ⟨D, _, _, rfl, rfl, k5 _ _ hDx (k4 _ _ hDx eG), by rw [List.length_map]; exact small (by omega), _, ys ++ [z], rfl, a1, a2, a3, by rw [List.length_append]; show _ + 1 ≤ _; omega, fun y hy => ?_⟩
          rcases List.mem_append.mp hy with h | h
          · exact hz y h
          · rw [List.mem_singleton.mp h]
            exact .inr (List.mem_of_getElem? hzz)
        · exact ⟨_, ys, rfl, k.trans k4, b4, k4 _ _ hDx eG, by omega, hz⟩
      refine ite2 (fun c => ?_) (fun c => ?_)
      · obtain ⟨a1, a2, a3⟩ := app H3 zs d k23 b3
        refine ⟨.ref D, rfl, .inl ⟨rfl, _, sqL_new eD3⟩, .str d, rfl, D, _, _, rfl, rfl, eD3, by rw [List.length_map]; exact small (by omega), ?_⟩
        refine fin (zs ++ [d]) _ a1 a2 a3 (by rw [List.length_append]; show _ + 1 ≤ _; omega) fun y hy => ?_
        rcases List.mem_append.mp hy with h | h
        · exact hz y h
        · rw [List.mem_singleton.mp h]
          exact .inl (List.mem_of_getElem? hd)
      · exact fin zs H3 k23 b3 eD3 (by omega) hz
    · rintro σ H2 ⟨d4, zs, rfl, k2, b2, eD, hl, hz⟩
      refine ⟨.ref D, rfl, ?_⟩
      dsimp only [tNoPart]
      refine ⟨8, rfl, D, _, rfl, sqL_new eD, fun p np => ?_⟩
      rw [show cutV (zs.map V.str) none (some (8 : Int)) = (zs.map V.str).take 8 from cutV_take (j := 8)]
      have s3 := same_new (o := .lst ((zs.map V.str).take 8)) np
      refine ⟨p, _, rfl, .inl ⟨sqL_new upd_same, fun l nl => ?_⟩⟩
      have s4 := s3.trans (same_new (o := .tup ((zs.map V.str).take 8)) nl)
      refine q l (zs.take 8) _ (List.length_take_le _ _) (fun z h => hz z (List.mem_of_mem_take h)) (k2.trans (But.of s4)) (b2.mono s4) (k2.free b2 (s3.free nl)) (by rw [upd_same, List.map_take])
end
end Kb
/-! tuple * int, the tuple perhaps empty; keywords in the def's order. -/
namespace Ka
open PySem PySem.Spec PyProof.Rows L2
theorem tuple_mul0 (l : Addr) (n : Nat) (dd : Option Addr) (sl : Array (Option Value)) (x : Int) (u : Tok) (c0 : (decide (x < -(2 ^ 63)) || decide (x ≥ 2 ^ 63)) = false) :
    Meets (Builtin.«tuple.__mul__» ⟨[.ref l, .int x u], []⟩) (fun _ R s => s.heap.get? l = some { cls := .type "tuple", dict := dd, data := .seq #[] n, slots := sl } ∧
      R (.ok (.ret (Value.ref l))) { s with heap := s.heap, toks := s.toks }) :=
  .of_wp fun prog w A R s h => by
    obtain ⟨hp, g, d, tk, os⟩ := s
    obtain ⟨hl, h⟩ := h
    have f1 := AutoSeq1.idx_int
    wp_walk using wpAny_loadPart' hl
    repeat (first
      | (refine wpAny_ite_false (decide_eq_false (by rw [c0]; exact Bool.false_ne_true)) ?_; wp_walk using wpAny_loadPart' hl)
      | (refine wpAny_ite_true rfl ?_; wp_walk using wpAny_loadPart' hl))
    exact ⟨_, rfl, h⟩
def rRepA (K : PySem.W.Frag) : R2 := fun x y H Q => ∃ l k xs, x = .ref l ∧ y = .int k ∧ SqT K H l xs ∧ 2 ≤ k ∧ k ≤ 1000 ∧ xs.length ≤ 1000 ∧ (xs = [] → Q (.ref l) H) ∧ ∀ p, H p = none → Q (.ref p) (upd H p (.tup (List.replicate k.toNat xs).flatten))
section
variable {X : Cx}
theorem op_repA : OpR X (binaryOp .Mult) (rRepA X.K) := by
  intro pins s σ H x y v u Q I rx ry h
  obtain ⟨l, k, xs, rfl, rfl, hT, h1, h2, hz, q0, q⟩ := h
  by_cases hne : xs = []
  · subst hne
    cases rx
    obtain ⟨t, rfl⟩ := ry
    obtain ⟨its, r, ⟨⟨cls, dd, data, sl⟩, ho, hc, n, hd⟩, hs⟩ := I.tuple hT
    simp only at hc hd
    subst hc hd
    cases r
    have c0 : (decide (k < -(2 ^ 63)) || decide (k ≥ 2 ^ 63)) = false := by
      rw [decide_eq_false (by omega), decide_eq_false (by omega)] <;> rfl
    refine wpAny_binaryOp_repeat_ref (T := "tuple") (U := "int") (by decide) ⟨_, ho, rfl⟩ (fun s' => typeIs_int s' k t) noFill_tuple_mul F.fills_int_mul F.slot_int_rmul repeat_tuple F.slot_int_index.lookup
      (call_meets F.slot_int_rmul (typeIs_int s k t) F.entry_int_rmul (F.args_int_rmul_2 _ _) (int_rmul_tuple k t l #[] n dd sl)
        ⟨ho, rfl, ⟨_, ho, rfl⟩, call_meets F.slot_tuple_mul ⟨_, ho, rfl⟩ F.entry_tuple_mul (F.args_tuple_mul_2 _ _) (tuple_mul0 l n dd sl k t c0) ⟨ho, ?_⟩⟩)
    exact ⟨.ref l, H, I, rfl, q0 rfl⟩
  · exact op_repT pins s σ H _ _ v u Q I rx ry ⟨l, k, xs, rfl, rfl, hT, hne, h1, h2, hz, q⟩
end
/-- two parameters, given by name in their order -/
def ioG {α : Type} (us ws : List α) : List α := match us, ws with
  | [], [a, b] => [a, b]
  | _, _ => []
theorem kb_two {K : PySem.W.Frag} {fd : FuncData} {a b : Str} (h : ∀ x y : Value, bindArgs fd ⟨[], [(a, x), (b, y)]⟩ = pure [(a, x), (b, y)]) : KBinds K fd [a, b] [a, b] ioG ioG := by
  constructor
  · intro s us ws _ hl
    match us, ws, hl with
    | [], [x, y], _ => exact BindsTo.of_eq (h x y)
    | [], [], hl => exact absurd hl (by simp [ioG])
    | [], [_], hl => exact absurd hl (by simp [ioG])
    | [], _ :: _ :: _ :: _, hl => exact absurd hl (by simp [ioG])
    | _ :: _, _, hl => exact absurd hl (by simp [ioG])
  · intro vs us zs ws r rz
    cases r with
    | nil =>
      cases rz with
      | nil => exact .nil
      | cons a r =>
        cases r with
        | nil => exact .nil
        | cons b r =>
          cases r with
          | nil => exact .cons a (.cons b .nil)
          | cons _ _ => exact .nil
    | cons _ _ => exact .nil
end Ka
namespace Kb
open PySem PySem.Spec PyProof.Rows L2
theorem tabs_but {T : List (Addr × Str)} {H H' : Hp} {x : Addr} {xs : List V} (t : LamX.Tabs T H) (h : H x = some (.lst xs)) (k : But x H H') : LamX.Tabs T H' := fun p hp => by
  obtain ⟨ps, h1, h2, h3⟩ := t p hp
  refine ⟨ps, k _ _ (ne_of h1 h fun w => nomatch w) h1, h2, fun pos cv hc => ?_⟩
  obtain ⟨c, e1, e2⟩ := h3 pos cv hc
  refine ⟨c, e1, k _ _ (ne_of e2 h fun w => ?_) e2⟩
  have w' : HO.ext _ = HO.lst xs := w
  cases w'
/-- a def that is called by its name -/
structure Cal (K : PySem.W.Frag) (mg : Str → Option Value) (name : Str) (f : Addr) (fd : FuncData) (ps : List Str) : Prop where
  kp : PySem.W.keepIn K (.ref f) = true
  b : Binds K fd ps []
  g : mg name = some (.ref f)
/-- all but x and the tables stands -/
def ButN (x : Addr) (H H' : Hp) : Prop := ∀ c u, c ≠ x → H c = some u → (∀ ps, u ≠ .tbl ps) → H' c = some u
theorem ButN.of {x : Addr} {H H' : Hp} (k : But x H H') : ButN x H H' := fun c u h e _ => k c u h e
theorem ButN.ofN {x : Addr} {H H' : Hp} (k : LamX.ExtN H H') : ButN x H H' := fun c u _ e n => k c u e n
theorem ButN.trans {x : Addr} {H H' H'' : Hp} (a : ButN x H H') (b : ButN x H' H'') : ButN x H H'' := fun c u h e n => b c u h (a c u h e n) n
theorem Box.ext {x : Addr} {H H' : Hp} (b : Box H x) (k : LamX.ExtN H H') : Box H' x := let ⟨b0, b1, b2, e⟩ := b; ⟨b0, b1, b2, k _ _ e fun ps w => by cases w⟩
theorem tabs_box {T : List (Addr × Str)} {H H' : Hp} {x : Addr} (t : LamX.Tabs T H) (b : Box H x) (k : But x H H') : LamX.Tabs T H' := let ⟨_, _, _, e⟩ := b; tabs_but t e k
theorem tup_ne {x p : Addr} {H : Hp} {xs : List V} (b : Box H x) (h : H p = some (.tup xs)) : p ≠ x := fun w => by
  obtain ⟨b0, b1, b2, hb⟩ := b
  rw [w, hb] at h
  cases h
theorem adV_app (a b : List Ka.Row) : adV (a ++ b) = adV a ++ adV b := List.map_append
theorem rows_but {H H' : Hp} {x : Addr} {rs : List Ka.Row} (h : Rows H rs) (b : Box H x) (k : But x H H') : Rows H' rs := fun r hr => k _ _ (tup_ne b (h r hr)) (h r hr)
/-- what stands within a turn of the law: the box at x, the names, the rows at pr, what was told at pt -/
structure Tn (T : List (Addr × Str)) (H1 G : Hp) (x pn pr pt : Addr) (nl : List Str) (rs ts : List Ka.Row) : Prop where
  b : Box G x
  k : ButN x H1 G
  t : LamX.Tabs T G
  nx : pn ≠ x
  rx : pr ≠ x
  en : G pn = some (.lst (nl.map V.str))
  er : G pr = some (.lst (adV rs))
  hR : Rows G rs
  et : G pt = some (.tup (adV ts))
  hT : Rows G ts
theorem Tn.but {T : List (Addr × Str)} {H1 G G' : Hp} {x pn pr pt : Addr} {nl : List Str} {rs ts : List Ka.Row} (s : Tn T H1 G x pn pr pt nl rs ts) (k : But x G G') (b : Box G' x) : Tn T H1 G' x pn pr pt nl rs ts :=
  ⟨b, s.k.trans (ButN.of k), tabs_box s.t s.b k, s.nx, s.rx, k _ _ s.nx s.en, k _ _ s.rx s.er, rows_but s.hR s.b k, k _ _ (tup_ne s.b s.et) s.et, rows_but s.hT s.b k⟩
theorem Tn.same {T : List (Addr × Str)} {H1 G G' : Hp} {x pn pr pt : Addr} {nl : List Str} {rs ts : List Ka.Row} (s : Tn T H1 G x pn pr pt nl rs ts) (k : Same G G') : Tn T H1 G' x pn pr pt nl rs ts := s.but (But.of k) (s.b.mono k)
theorem Tn.ext {T : List (Addr × Str)} {H1 G G' : Hp} {x pn pr pt : Addr} {nl : List Str} {rs ts : List Ka.Row} (s : Tn T H1 G x pn pr pt nl rs ts) (k : LamX.ExtN G G') (t : LamX.Tabs T G') : Tn T H1 G' x pn pr pt nl rs ts :=
  ⟨s.b.ext k, s.k.trans (ButN.ofN k), t, s.nx, s.rx, lst_stay k s.en, lst_stay k s.er, fun r hr => tup_stay k (s.hR r hr), tup_stay k s.et, fun r hr => tup_stay k (s.hT r hr)⟩
section
variable {P : Program} {w : World} {K : PySem.W.Frag} {mg : Str → Option Value} {base : Heap}
abbrev nLaw : List Str := ["script", "k", "box", "names", "first", "rows", "turn", "handed", "told"]
theorem scLaw : FnScope nLaw ["script"] (defScope sLaw) := ⟨rfl, rfl, rfl, by decide +kernel, rfl, by decide +kernel, by decide +kernel⟩
def spLaw (K : PySem.W.Frag) (P1 P2 : Addr) : Sp := fun vs H Q _ => ∃ (a : Addr) (ns : List Int), vs = [.ref a] ∧ SqL K H a (intV ns) ∧ LamX.Tabs (TL P1 P2) H ∧ ∀ H', Q (.bl true) H'
theorem ok_law {f fB fNa fT fRo fCh fC fRi fBo fEx P1 P2 : Addr} {fd dB dNa dT dRo dCh dC dRi dBo dEx : FuncData} (F : Fun K "law" "law" sLaw f fd) (N : Nones mg) (C : AllC K mg)
    (GB : FnOk P w K mg base CX0 1 fB dB ["script", "k"] (spBox K)) (CB : Cal K mg "_law_box" fB dB ["script", "k"])
    (GNa : FnOk P w K mg base CX0 3 fNa dNa ["box", "many"] spNames) (CNa : Cal K mg "_law_names" fNa dNa ["box", "many"])
    (GT : FnOk P w K mg base CX0 1 fT dT ["box", "many"] spTake) (CT : Cal K mg "_law_take" fT dT ["box", "many"])
    (GRo : FnOk P w K mg base CX0 3 fRo dRo ["box", "names", "most"] spRow) (CRo : Cal K mg "_law_row" fRo dRo ["box", "names", "most"])
    (GCh : FnOk P w K mg base CX0 3 fCh dCh ["box", "row", "names"] spChanged) (CCh : Cal K mg "_law_changed" fCh dCh ["box", "row", "names"])
    (GA : FnOk P w K mg base (L2.CX P w) 3 C.f C.fd ["rows"] (spAll K C.C)) (CA : Cal K mg "common_all" C.f C.fd ["rows"]) (kA : KBinds K C.fd ["rows"] ["rows"] Ka.snG Ka.snG)
    (GC : FnOk P w K mg base (L2.CX P w) 4 fC dC ["u", "v"] (spCommon K C.C)) (CC : Cal K mg "common" fC dC ["u", "v"]) (kC : KBinds K dC ["u", "v"] ["u", "v"] Ka.ioG Ka.ioG)
    (GRi : FnOk P w K mg base CX0 3 fRi dRi ["told", "rows"] (spRight K P1 P2)) (CRi : Cal K mg "_law_right" fRi dRi ["told", "rows"])
    (GBo : FnOk P w K mg base CX0 7 fBo dBo ["name", "other", "many"] (spBound P1 P2)) (CBo : Cal K mg "_law_bound_right" fBo dBo ["name", "other", "many"])
    (GEx : FnOk P w K mg base CX0 5 fEx dEx ["box"] spExch) (CEx : Cal K mg "_law_exchanged_right" fEx dEx ["box"]) :
    FnOk P w K mg base CX0 8 f fd ["script"] (spLaw K P1 P2) := by
  refine F.ok scLaw (fun vs H Q E h => ?_) (fun cdv A outer s H vs Q E hr h => ?_)
  · obtain ⟨a, ns, rfl, _⟩ := h
    rfl
  · obtain ⟨a, ns, rfl, hA, hT, q⟩ := h
    have hr1 := hr.mono (show 1 ≤ 7 by decide)
    have hr3 := hr.mono (show 3 ≤ 7 by decide)
    have hr4 := hr.mono (show 4 ≤ 7 by decide)
    have hr5 := hr.mono (show 5 ≤ 7 by decide)
    refine ⟨_, pss_cons (ps_for PassesOwn.never rfl (pi_range1 (by rfl) N.range (pa_cons pe_int pa_nil)) (pg_name (i := 1) scLaw.nd rfl (.inl rfl))
        (pss_cons (ps_set (i := 2) scLaw.nd rfl (.inl rfl) (pe_call GB hr1 (by rfl) CB.g CB.kp CB.b .nil pass0 (pa_cons (pv 0) (pa_cons (pv 1) pa_nil))))
        (pss_cons (ps_set (i := 3) scLaw.nd rfl (.inl rfl) (pe_call GNa hr3 (by rfl) CNa.g CNa.kp CNa.b .nil pass0 (pa_cons (pv 2) (pa_cons (pe_op op_add pe_int (pe_call GT hr1 (by rfl) CT.g CT.kp CT.b .nil pass0 (pa_cons (pv 2) (pa_cons pe_int pa_nil)))) pa_nil))))
        (pss_cons (ps_par (i := 4) (j := 5) rfl scLaw.nd rfl rfl (by decide) rfl rfl (pa_cons (pe_call GRo hr3 (by rfl) CRo.g CRo.kp CRo.b .nil pass0 (pa_cons (pv 2) (pa_cons (pv 3) (pa_cons pe_int pa_nil)))) (pa_cons (pe_lst pa_nil) pa_nil)) (by rfl))
        (pss_cons (ps_for PassesOwn.never rfl (pi_range1 (by rfl) N.range (pa_cons (pe_op op_add pe_int (pe_call GT hr1 (by rfl) CT.g CT.kp CT.b .nil pass0 (pa_cons (pv 2) (pa_cons pe_int pa_nil)))) pa_nil)) (pg_name (i := 6) scLaw.nd rfl (.inl rfl))
          (pss_one (ps_expr (pe_bm PySem.F.plainAttrs_list PySem.F.slot_list_append PySem.F.type_list_append mt_append (pv 5) (pa_cons (pe_ifExp (pt_cmpR op_eq (pe_call GT hr1 (by rfl) CT.g CT.kp CT.b .nil pass0 (pa_cons (pv 2) (pa_cons pe_int pa_nil))) pe_int (nomark _))
            (pe_call GCh hr3 (by rfl) CCh.g CCh.kp CCh.b .nil pass0 (pa_cons (pv 2) (pa_cons (pv 4) (pa_cons (pv 3) pa_nil)))) (pe_call GRo hr3 (by rfl) CRo.g CRo.kp CRo.b .nil pass0 (pa_cons (pv 2) (pa_cons (pv 3) (pa_cons pe_int pa_nil))))) pa_nil)))))
        (pss_cons (ps_if (PW.pt (pw_and (pt_cmpR (op_neD hr.units) (pv 5) (pe_lst pa_nil) (nomark _)) (pw_and1 (pt_cmpR op_eq (pe_call GT hr1 (by rfl) CT.g CT.kp CT.b .nil pass0 (pa_cons (pv 2) (pa_cons pe_int pa_nil))) pe_int (nomark _)))))
          (pss_one (ps_asg (pe_op Ka.op_repA (pe_ix ix_list (pv 5) pe_int (fun _ _ => rfl)) (pe_op op_add pe_int (pe_call GT hr1 (by rfl) CT.g CT.kp CT.b .nil pass0 (pa_cons (pv 2) (pa_cons pe_int pa_nil))))) (pg_sub (pv 5) pe_int set_list))) pss_nil)
        (pss_cons (ps_set (i := 5) scLaw.nd rfl (.inl rfl) (pe_op op_cat (pe_lst (pa_cons (pv 4) pa_nil)) (pv 5)))
        (pss_cons (ps_set (i := 7) scLaw.nd rfl (.inl rfl) (pe_callTy call_list_of (by rfl) N.list (by decide +kernel) (pa_cons (pv 5) pa_nil)))
        (pss_cons (ps_set (i := 8) scLaw.nd rfl (.inl rfl) (pe_call GA hr3 (by rfl) CA.g CA.kp CA.b .nil (E := fun _ _ _ => False) (passes_call LamX.takes0 (fun _ _ _ _ h => h)) (pa_cons (pv 7) pa_nil)))
        (pss_cons (ps_if (PW.pt (pw_or (pt_cmpR (op_neD hr.units) (pv 7) (pv 5) (nomark _)) (pw_or1 (pt_not (pt_val (pe_call GRi hr3 (by rfl) CRi.g CRi.kp CRi.b .nil pass0 (pa_cons (pv 8) (pa_cons (pv 5) pa_nil)))))))) (pss_one (ps_ret pe_bl)) pss_nil)
        (pss_cons (ps_if (PW.pt (pw_or (pt_cmpR (op_neD hr.units) (pe_call GA hr3 (by rfl) CA.g CA.kp CA.b .nil (E := fun _ _ _ => False) (passes_call LamX.takes0 (fun _ _ _ _ h => h)) (pa_cons (pe_op op_catA (pe_callTy call_tuple_of (by rfl) N.tuple (by decide +kernel) (pa_cons (pe_revL (pv 5)) pa_nil)) (pe_tup (pa_cons (pv 4) pa_nil))) pa_nil)) (pv 8) (nomark _))
          (pw_or1 (pt_cmpR (op_neD hr.units) (Ka.pe_callK0 GA hr3 (by rfl) CA.g CA.kp kA (E := fun _ _ _ => False) (passes_call LamX.takes0 (fun _ _ _ _ h => h)) (pk_cons (pe_op op_cat (pv 5) (pe_slice sl_list (pv 5) po_none (po_some pe_int))) pk_nil)) (pv 8) (nomark _))))) (pss_one (ps_ret pe_bl)) pss_nil)
        (pss_cons (ps_if (pt_not (pt_val (pe_call GRi hr3 (by rfl) CRi.g CRi.kp CRi.b .nil pass0 (pa_cons (pe_call GC hr4 (by rfl) CC.g CC.kp CC.b .nil (E := fun _ _ _ => False) (passes_call LamX.takes0 (fun _ _ _ _ h => h)) (pa_cons (pv 4) (pa_cons (pe_ix ix_list (pv 5) (pe_op op_sub (pe_callB call_len_seq (by rfl) N.len PySem.boot_len (pa_cons (pv 5) pa_nil)) pe_int) (fun _ _ => rfl)) pa_nil)))
            (pa_cons (pe_lst (pa_cons (pv 4) (pa_cons (pe_ix ix_list (pv 5) (pe_op op_sub (pe_callB call_len_seq (by rfl) N.len PySem.boot_len (pa_cons (pv 5) pa_nil)) pe_int) (fun _ _ => rfl)) pa_nil))) pa_nil))))) (pss_one (ps_ret pe_bl)) pss_nil)
        (pss_cons (ps_if (pt_cmpR (op_neD hr.units) (Ka.pe_callK0 GC hr4 (by rfl) CC.g CC.kp kC (E := fun _ _ _ => False) (passes_call LamX.takes0 (fun _ _ _ _ h => h)) (pk_cons (pe_ix ix_list (pv 5) (pe_op op_sub (pe_callB call_len_seq (by rfl) N.len PySem.boot_len (pa_cons (pv 5) pa_nil)) pe_int) (fun _ _ => rfl)) (pk_cons (pv 4) pk_nil)))
          (pe_call GC hr4 (by rfl) CC.g CC.kp CC.b .nil (E := fun _ _ _ => False) (passes_call LamX.takes0 (fun _ _ _ _ h => h)) (pa_cons (pv 4) (pa_cons (pe_ix ix_list (pv 5) (pe_op op_sub (pe_callB call_len_seq (by rfl) N.len PySem.boot_len (pa_cons (pv 5) pa_nil)) pe_int) (fun _ _ => rfl)) pa_nil))) (nomark _)) (pss_one (ps_ret pe_bl)) pss_nil)
        (pss_cons (ps_if (PW.pt (pw_and (pt_cmpR op_eq (pe_call GT hr1 (by rfl) CT.g CT.kp CT.b .nil pass0 (pa_cons (pv 2) (pa_cons pe_int pa_nil))) pe_int (nomark _)) (pw_and1 (pt_not (pt_val (pe_call GBo hr (by rfl) CBo.g CBo.kp CBo.b .nil pass0 (pa_cons (pe_ix ix_list (pv 3) pe_int (fun _ _ => rfl)) (pa_cons (pe_ix ix_list (pv 3) pe_int (fun _ _ => rfl)) (pa_cons (pe_op op_add pe_int (pe_call GT hr1 (by rfl) CT.g CT.kp CT.b .nil pass0 (pa_cons (pv 2) (pa_cons pe_int pa_nil)))) pa_nil))))))))) (pss_one (ps_ret pe_bl)) pss_nil)
        (pss_one (ps_if (PW.pt (pw_and (pt_cmpR op_eq (pe_call GT hr1 (by rfl) CT.g CT.kp CT.b .nil pass0 (pa_cons (pv 2) (pa_cons pe_int pa_nil))) pe_int (nomark _)) (pw_and1 (pt_not (pt_val (pe_call GEx hr5 (by rfl) CEx.g CEx.kp CEx.b .nil pass0 (pa_cons (pv 2) pa_nil))))))) (pss_one (ps_ret pe_bl)) pss_nil))))))))))))))))
      (pss_one (ps_ret pe_bl)), ?_⟩
    have s1000 : ∀ n, n ≤ 1000000 → n ≤ sizeLine := fun n h => smallE h
    have sh0 : SeqAt.shaped (.list []) = true := (shRows (l := []) (fun r hr => by cases hr)).1
    refine ⟨3, rfl, by decide, by decide, ?_⟩
    refine for_range (lo := 0) (n := 3) (fun i σ H' => ∃ d1 d2 d3 d4 d5 d6 d7 d8, σ = [some (.ref a), d1, d2, d3, d4, d5, d6, d7, d8] ∧ LamX.ExtN H H' ∧ LamX.Tabs (TL P1 P2) H') ⟨none, none, none, none, none, none, none, none, rfl, LamX.ExtN.refl H, hT⟩ ?_ ?_
    · rintro i σ H0 hi ⟨d1, d2, d3, d4, d5, d6, d7, d8, rfl, x0, T0⟩
      rw [Int.zero_add]
      -- box, names
      refine ⟨.ref a, rfl, .int (i : Nat), rfl, a, i, ns, rfl, Ka.sqL_ext hA x0, by omega, fun H1 x s01 nx b1 => ?_⟩
      refine ⟨.ref x, rfl, .ref x, rfl, x, 3, rfl, b1, by decide, by decide, fun r3 H2 hr3' k2 b2 => ?_⟩
      refine ⟨2, _, rfl, rfl, x, 2 + r3, (by show [V.ref x, V.int (2 + (r3 : Int))] = _; rw [show (2 : Int) + (r3 : Int) = ((2 + r3 : Nat) : Int) by omega]), b2, by omega, fun pn nl H3 hnl nd nam k3 b3 npn epn => ?_⟩
      have hpx : pn ≠ x := b2.ne npn
      have nl0 : 0 < nl.length := by omega
      have nl1 : 1 < nl.length := by omega
      -- first, rows
      refine ⟨.ref x, rfl, .ref pn, rfl, x, pn, 6, nl, rfl, b3, hpx, epn, nl0, by omega, by decide, fun pf zf H4 hv4 in4 k4 b4 np4 ep4 => ⟨Nat.zero_le _, fun pr npr => ⟨_, _, rfl, ?_⟩⟩⟩
      have k14 : But x H1 H4 := (k2.trans k3).trans k4
      have T4 := tabs_box (T0.ext s01) b1 k14
      have en4 := k4 _ _ hpx epn
      have hprx := b4.ne npr
      have nF : ∀ z ∈ zf, isName z = true := fun z hz => nam z (in4 z hz)
      have s5 := same_new (o := .lst []) npr
      have er5 : upd H4 pr (.lst []) pr = some (.lst []) := upd_same
      have b5 := b4.mono s5
      generalize upd H4 pr (.lst []) = H5 at s5 er5 b5 ⊢
      -- the rows
      refine ⟨.ref x, rfl, x, 4, rfl, b5, by decide, by decide, fun r5 H6 hr5 k6 b6 => ⟨1, _, rfl, rfl, _, rfl, by omega, by omega, ?_⟩⟩
      have en5 : ((1 : Int) + ((r5 : Nat) : Int)).toNat = r5 + 1 := by omega
      rw [en5]
      refine for_range (lo := 0) (n := r5 + 1) (fun j σ H' => ∃ (d6 : Option V) (qs : List Ka.Row), σ = [some (.ref a), some (.int (i : Nat)), some (.ref x), some (.ref pn), some (.ref pf), some (.ref pr), d6, d7, d8] ∧ But x H4 H' ∧ Box H' x ∧ H' pr = some (.lst (adV qs)) ∧ Rows H' qs ∧ (∀ r ∈ qs, r.2.length ≤ 8 ∧ ∀ z ∈ r.2, isName z = true) ∧ qs.length = j)
        ⟨_, [], rfl, (But.of s5).trans k6, b6, k6 _ _ hprx er5, (fun r hr => by cases hr), (fun r hr => by cases hr), rfl⟩ ?_ ?_
      · rintro j σ H7 hj ⟨d6', qs, rfl, k7, b7, er7, hR7, hq7, hl7⟩
        have app : ∀ (p : Addr) (z : List Str) (G : Hp) (d : Option V), But x H7 G → Box G x → G p = some (.tup (z.map V.str)) → z.length ≤ 8 → (∀ y ∈ z, isName y = true) → ∃ (d6 : Option V) (qs' : List Ka.Row), [some (V.ref a), some (.int (i : Nat)), some (.ref x), some (.ref pn), some (.ref pf), some (.ref pr), d, d7, d8] = [some (.ref a), some (.int (i : Nat)), some (.ref x), some (.ref pn), some (.ref pf), some (.ref pr), d6, d7, d8] ∧ But x H4 (upd G pr (.lst (adV qs ++ [.ref p]))) ∧ Box (upd G pr (.lst (adV qs ++ [.ref p]))) x ∧ upd G pr (.lst (adV qs ++ [.ref p])) pr = some (.lst (adV qs')) ∧ Rows (upd G pr (.lst (adV qs ++ [.ref p]))) qs' ∧ (∀ r ∈ qs', r.2.length ≤ 8 ∧ ∀ z ∈ r.2, isName z = true) ∧ qs'.length = j + 1 := fun p z G d kG bG ep hz nz => by
          have erG := kG _ _ hprx er7
          have hne : ∀ (c : Addr) (xs : List V), G c = some (.tup xs) → c ≠ pr := fun c xs e w => by
            rw [w, erG] at e
            cases e
          refine ⟨d, qs ++ [(p, z)], rfl, fun c u hc e => ?_, bG.upd hprx, ?_, fun r hr => ?_, fun r hr => ?_, by rw [List.length_append, hl7]; rfl⟩
          · rw [upd_ne (ne_of_none e npr)]
            exact kG _ _ hc (k7 _ _ hc e)
          · rw [upd_same, adV_app]
            rfl
          · rcases List.mem_append.mp hr with h | h
            · have e := kG _ _ (tup_ne b7 (hR7 r h)) (hR7 r h)
              rw [upd_ne (hne _ _ e)]
              exact e
            · rw [List.mem_singleton.mp h, upd_ne (hne _ _ ep)]
              exact ep
          · rcases List.mem_append.mp hr with h | h
            · exact hq7 r h
            · rw [List.mem_singleton.mp h]
              exact ⟨hz, nz⟩
        have hsz : (adV qs).length < sizeLine := by
          rw [adV_len]
          exact small (by omega)
        refine ⟨.ref pr, rfl, .inl ⟨rfl, _, sqL_new er7⟩, .ref x, rfl, x, 2, rfl, b7, by decide, by decide, fun r H8 hr8 k8 b8 => ⟨rfl, _, rfl, ?_⟩⟩
        have k48 := k7.trans k8
        refine ite2 (fun c => ?_) (fun c => ?_)
        · exact ⟨.ref x, rfl, .ref pf, rfl, .ref pn, rfl, x, pf, pn, zf, nl, rfl, b8, k48 _ _ (tup_ne b4 ep4) ep4, hpx, k48 _ _ hpx en4, by omega, nl0, by omega, fun p z H9 hz9 hin9 k9 b9 np9 ep9 => ⟨pr, _, _, rfl, rfl, k9 _ _ hprx (k8 _ _ hprx er7), hsz, app p z H9 _ (k8.trans k9) b9 ep9 hz9 fun y hy => (hin9 y hy).elim (nF y) (nam y)⟩⟩
        · exact ⟨.ref x, rfl, .ref pn, rfl, x, pn, 8, nl, rfl, b8, hpx, k48 _ _ hpx en4, nl0, by omega, by decide, fun p z H9 hz9 hin9 k9 b9 np9 ep9 => ⟨pr, _, _, rfl, rfl, k9 _ _ hprx (k8 _ _ hprx er7), hsz, app p z H9 _ (k8.trans k9) b9 ep9 hz9 fun y hy => nam y (hin9 y hy)⟩⟩
      rintro σ H7 ⟨d6', qs, rfl, k7, b7, er7, hR7, hq7, hl7⟩
      have qne : qs ≠ [] := fun e => by
        rw [e] at hl7
        cases hl7
      refine ⟨.ref pr, rfl, Nat.zero_le _, fun t nt => ?_⟩
      have st := same_new (o := .lst []) nt
      refine ⟨.list ((qs.map (·.2)).map Ka.rowD), .list (([] : List (List Str)).map Ka.rowD), .lst (sqL_new (st _ _ er7)) (dpRows (hR7.mono st)), .lst (sqL_new upd_same) .nil, (shRows fun r hr z hz => by
        obtain ⟨g, hg, rfl⟩ := List.mem_map.mp hr
        exact (hq7 g hg).2 z hz).1, sh0, ?_⟩
      rw [PyData.eqv, eqRows, decide_eq_false (fun z => qne (List.map_eq_nil_iff.mp z))]
      refine ⟨_, rfl, iteT ?_⟩
      have k8 := k7.trans (But.of st)
      have b8 := b7.mono st
      have er8 := st _ _ er7
      have hR8 := hR7.mono st
      generalize upd H7 t (.lst []) = H8 at k8 b8 er8 hR8 ⊢
      refine ⟨.ref x, rfl, x, 3, rfl, b8, by decide, by decide, fun r9 H9 hr9 k9 b9 => ⟨rfl, _, rfl, ?_⟩⟩
      generalize hX : tSeq (tAsg (tOp rCat _ _) _) _ _ = X
      have fin : ∀ (qs : List Ka.Row) (G : Hp), But x H4 G → Box G x → G pr = some (.lst (adV qs)) → Rows G qs → (∀ r ∈ qs, r.2.length ≤ 24 ∧ ∀ z ∈ r.2, isName z = true) → qs.length = r5 + 1 →
          X [some (.ref a), some (.int (i : Nat)), some (.ref x), some (.ref pn), some (.ref pf), some (.ref pr), d6', d7, d8] G := fun qs G kG bG erG hRG hqG hlG => by
        rw [← hX]
        refine ⟨.ref pf, rfl, s1000 1 (by decide), fun t nt => ⟨.ref pr, rfl, t, pr, _, _, rfl, rfl, upd_same, same_new nt _ _ erG, by rw [adV_len]; exact s1000 _ (by show 1 + _ ≤ _; omega), fun p5 np5 => ?_⟩⟩
        have st := same_new (o := .lst [V.ref pf]) nt
        have s5 := st.trans (same_new (o := .lst ([V.ref pf] ++ adV qs)) np5)
        have e5 : upd (upd G t (.lst [V.ref pf])) p5 (.lst ([V.ref pf] ++ adV qs)) p5 = some (.lst (adV ((pf, zf) :: qs))) := upd_same
        have hp5x : p5 ≠ x := (bG.mono st).ne np5
        generalize upd (upd G t (.lst [V.ref pf])) p5 (.lst ([V.ref pf] ++ adV qs)) = G5 at s5 e5 ⊢
        have hR5 : Rows G5 ((pf, zf) :: qs) := fun r hr => by
          rcases List.mem_cons.mp hr with rfl | hr
          · exact s5 _ _ (kG _ _ (tup_ne b4 ep4) ep4)
          · exact s5 _ _ (hRG r hr)
        have hok : ∀ r ∈ (pf, zf) :: qs, r.2.length ≤ 400 ∧ ∀ z ∈ r.2, isName z = true := fun r hr => by
          rcases List.mem_cons.mp hr with rfl | hr
          · exact ⟨by show zf.length ≤ 400; omega, nF⟩
          · exact ⟨Nat.le_trans (hqG r hr).1 (by decide), (hqG r hr).2⟩
        have hlR : ((pf, zf) :: qs).length ≤ 5 := by rw [List.length_cons]; omega
        have f12 : (pf, zf).2.length ≤ 12 := by show zf.length ≤ 12; omega
        have k5 := kG.trans (But.of s5)
        have b5' := bG.mono s5
        have T5 := tabs_box T4 b4 k5
        have k15 := k14.trans k5
        -- handed, told
        refine ⟨.ref p5, rfl, p5, _, rfl, .inl (sqL_new e5), fun p6 np6 => ?_⟩
        have s6 := same_new (o := .lst (adV ((pf, zf) :: qs))) np6
        have e6 : upd G5 p6 (.lst (adV ((pf, zf) :: qs))) p6 = some (.lst (adV ((pf, zf) :: qs))) := upd_same
        generalize upd G5 p6 (.lst (adV ((pf, zf) :: qs))) = G6 at s6 e6 ⊢
        refine ⟨.ref p6, rfl, p6, (pf, zf) :: qs, rfl, .inl (sqL_new e6), hR5.mono s6, Nat.succ_pos _, by omega, hok, fun h => absurd (h (pf, zf) List.mem_cons_self) (Nat.not_lt.mpr f12), fun _ G7 p7 ts s7 np7 ep7 hts hT7 hl7' => ?_⟩
        have s57 := s6.trans s7
        have S7 : Tn (TL P1 P2) H1 G7 x pn p5 p7 nl ((pf, zf) :: qs) ts := ⟨b5'.mono s57, ButN.of (k15.trans (But.of s57)), T5.ext s57, hpx, hp5x, s57 _ _ (k5 _ _ hpx en4), s57 _ _ e5, hR5.mono s57, ep7, hT7⟩
        have hsub : ∀ r ∈ ts.map (·.2), r.Sublist zf := fun r hr => by
          rw [hts, List.map_cons] at hr
          exact (comA_mem.mp hr).1 zf List.mem_cons_self
        have nT : ∀ r ∈ ts.map (·.2), ∀ z ∈ r, isName z = true := fun r hr z hz => nF z ((hsub r hr).subset hz)
        have nR : ∀ r ∈ ((pf, zf) :: qs).map (·.2), ∀ z ∈ r, isName z = true := fun r hr z hz => by
          obtain ⟨g, hg, rfl⟩ := List.mem_map.mp hr
          exact (hok g hg).2 z hz
        have shT := (shRows nT).2
        have shR' := (shRows nR).1
        -- handed != rows
        refine ⟨.ref p6, rfl, .ref p5, rfl, .list ((((pf, zf) :: qs).map (·.2)).map Ka.rowD), .list ((((pf, zf) :: qs).map (·.2)).map Ka.rowD), .lst (sqL_new (s7 _ _ e6)) (dpRows S7.hR), .lst (sqL_new S7.er) (dpRows S7.hR), shR', shR', ?_⟩
        rw [PyData.eqv, eqRows, decide_eq_true rfl]
        refine ⟨_, rfl, iteF ?_⟩
        -- not _law_right(told, rows)
        refine ⟨.ref p7, rfl, .ref p5, rfl, p7, p5, ts, qs, (pf, zf), rfl, S7.et, S7.hT, S7.er, S7.hR, hts, hl7', by omega, by show zf.length ≤ 8; omega, hok, S7.t, fun G8 x8 T8 => ⟨true, rfl, iteF ?_⟩⟩
        have S8 := S7.ext x8 T8
        generalize hR : (pf, zf) :: qs = R at S8 hok hlR hts
        have hfR : (pf, zf) ∈ R := by rw [← hR]; exact List.mem_cons_self
        have hRne : R.map (·.2) ≠ [] := by rw [← hR]; simp
        have ef8 : ∀ {G : Hp} {pt : Addr} {ts : List Ka.Row}, Tn (TL P1 P2) H1 G x pn p5 pt nl R ts → G pf = some (.tup (zf.map V.str)) := fun S => S.hR (pf, zf) hfR
        -- common_all(tuple(rows[::-1]) + (first,)) != told
        refine ⟨.ref p5, rfl, p5, _, rfl, sqL_new S8.er, fun p9 np9 => ?_⟩
        have S9 := S8.same (same_new (o := .lst (adV R).reverse) np9)
        refine ⟨p9, _, rfl, .inl ⟨sqL_new upd_same, fun p10 np10 => ?_⟩⟩
        have S10 := S9.same (same_new (o := .tup (adV R).reverse) np10)
        have e10 := upd_same (H := upd G8 p9 (.lst (adV R).reverse)) (a := p10) (o := .tup (adV R).reverse)
        generalize upd (upd G8 p9 (.lst (adV R).reverse)) p10 (.tup (adV R).reverse) = G10 at S10 e10 ⊢
        refine ⟨.ref pf, rfl, s1000 1 (by decide), fun p11 np11 => ?_⟩
        have s11 := same_new (o := .tup [V.ref pf]) np11
        refine catN (sqT_new (s11 _ _ e10)) upd_same (by simp) (by rw [List.length_reverse, adV_len]; show _ + 1 ≤ _; omega) fun G12 p12 s12 e12 => ?_
        have erev : (adV R).reverse ++ [V.ref pf] = adV (R.reverse ++ [(pf, zf)]) := by
          rw [adV_app]
          unfold adV
          rw [List.map_reverse]
          rfl
        rw [erev] at e12
        have S12 := (S10.same s11).same s12
        have inR : ∀ r ∈ R.reverse ++ [(pf, zf)], r ∈ R := fun r hr => by
          rcases List.mem_append.mp hr with h | h
          · exact List.mem_reverse.mp h
          · rw [List.mem_singleton.mp h]
            exact hfR
        refine ⟨p12, R.reverse ++ [(pf, zf)], rfl, .inr (sqT_new e12), fun r hr => S12.hR r (inR r hr), by rw [List.length_append]; show 0 < _ + 1; omega, by rw [List.length_append, List.length_reverse]; show _ + 1 ≤ 100; omega, fun r hr => hok r (inR r hr), fun h => absurd (h (pf, zf) (List.mem_append_right _ List.mem_cons_self)) (Nat.not_lt.mpr f12), fun _ G13 p13 us13 s13 np13 ep13 hus13 hR13 hl13 => ?_⟩
        have S13 := S12.same s13
        have c13 : us13.map (·.2) = ts.map (·.2) := by
          rw [hus13, hts]
          refine comA_congr (by simp) hRne fun r => ?_
          rw [List.mem_map, List.mem_map]
          exact ⟨fun ⟨g, h, e⟩ => ⟨g, inR g h, e⟩, fun ⟨g, h, e⟩ => ⟨g, List.mem_append_left _ (List.mem_reverse.mpr h), e⟩⟩
        refine ⟨.ref p7, rfl, .tuple ((us13.map (·.2)).map Ka.rowD), .tuple ((ts.map (·.2)).map Ka.rowD), .tup (sqT_new ep13) (dpRows hR13), .tup (sqT_new S13.et) (dpRows S13.hT), by rw [c13]; exact shT, shT, ?_⟩
        rw [PyData.eqv, eqRows, c13, decide_eq_true rfl]
        refine ⟨_, rfl, iteF ?_⟩
        -- common_all(rows=rows + rows[:1]) != told
        refine ⟨.ref p5, rfl, .ref p5, rfl, ?_⟩
        dsimp only [tNoPart]
        refine ⟨1, rfl, p5, _, rfl, sqL_new S13.er, fun p14 np14 => ?_⟩
        rw [show cutV (adV R) none (some (1 : Int)) = (adV R).take 1 from cutV_take (j := 1)]
        have s14 := same_new (o := .lst ((adV R).take 1)) np14
        have S14 := S13.same s14
        refine ⟨p5, p14, _, _, rfl, rfl, S14.er, upd_same, by rw [List.length_take, adV_len]; exact s1000 _ (by omega), fun p15 np15 => ?_⟩
        have ecut : adV R ++ (adV R).take 1 = adV (R ++ R.take 1) := by
          rw [adV_app]
          unfold adV
          rw [List.map_take]
        rw [ecut]
        have S15 := S14.same (same_new (o := .lst (adV (R ++ R.take 1))) np15)
        have inR2 : ∀ r ∈ R ++ R.take 1, r ∈ R := fun r hr => by
          rcases List.mem_append.mp hr with h | h
          · exact h
          · exact List.mem_of_mem_take h
        refine ⟨p15, R ++ R.take 1, rfl, .inl (sqL_new upd_same), fun r hr => S15.hR r (inR2 r hr), List.length_pos_of_mem (List.mem_append_left _ hfR), by rw [List.length_append, List.length_take]; omega, fun r hr => hok r (inR2 r hr), fun h => absurd (h (pf, zf) (List.mem_append_left _ hfR)) (Nat.not_lt.mpr f12), fun _ G16 p16 us16 s16 np16 ep16 hus16 hR16 hl16 => ?_⟩
        have S16 := S15.same s16
        have c16 : us16.map (·.2) = ts.map (·.2) := by
          rw [hus16, hts]
          refine comA_congr (fun z => hRne (by rw [List.map_append, List.append_eq_nil_iff] at z; exact z.1)) hRne fun r => ?_
          rw [List.mem_map, List.mem_map]
          exact ⟨fun ⟨g, h, e⟩ => ⟨g, inR2 g h, e⟩, fun ⟨g, h, e⟩ => ⟨g, List.mem_append_left _ h, e⟩⟩
        refine ⟨.ref p7, rfl, .tuple ((us16.map (·.2)).map Ka.rowD), .tuple ((ts.map (·.2)).map Ka.rowD), .tup (sqT_new ep16) (dpRows hR16), .tup (sqT_new S16.et) (dpRows S16.hT), by rw [c16]; exact shT, shT, ?_⟩
        rw [PyData.eqv, eqRows, c16, decide_eq_true rfl]
        refine ⟨_, rfl, iteF ?_⟩
        -- the last row
        have hRn : R ≠ [] := fun e => by
          rw [e] at hfR
          cases hfR
        obtain ⟨Ri, rl, hRl⟩ : ∃ Ri rl, R = Ri ++ [rl] := ⟨R.dropLast, R.getLast hRn, (List.dropLast_concat_getLast hRn).symm⟩
        have hlm : rl ∈ R := by rw [hRl]; exact List.mem_append_right _ List.mem_cons_self
        have hix : atI (adV R) (((adV R).length : Nat) - 1 : Int) = some (.ref rl.1) := by
          have h := atI_nat (xs := adV R) (j := Ri.length) (v := V.ref rl.1) (by rw [hRl]; unfold adV; rw [List.map_append, List.getElem?_append_right (by rw [List.length_map]; exact Nat.le_refl _), List.length_map, Nat.sub_self]; rfl)
          rw [show ((Ri.length : Nat) : Int) = (((adV R).length : Nat) - 1 : Int) by rw [adV_len, hRl, List.length_append]; show _ = ((Ri.length + 1 : Nat) : Int) - 1; omega] at h
          exact h
        have okl := hok rl hlm
        have zfl : zf.length ≤ 400 := by omega
        -- _law_right(common(first, rows[len(rows) - 1]), [first, rows[len(rows) - 1]])
        refine ⟨.ref pf, rfl, .ref p5, rfl, .ref p5, rfl, p5, _, rfl, .inl (sqL_new S16.er), _, _, rfl, rfl, p5, _, _, _, rfl, rfl, sqL_new S16.er, hix, pf, rl.1, zf, rl.2, rfl, ef8 S16, S16.hR rl hlm, zfl, okl.1, nF, okl.2, fun h => absurd h (by omega), fun _ G17 p17 us17 s17 np17 ep17 hus17 hR17 hl17 => ?_⟩
        have S17 := S16.same s17
        refine ⟨.ref pf, rfl, .ref p5, rfl, .ref p5, rfl, p5, _, rfl, .inl (sqL_new S17.er), _, _, rfl, rfl, p5, _, _, _, rfl, rfl, sqL_new S17.er, hix, s1000 2 (by decide), fun p18 np18 => ?_⟩
        have s18 := same_new (o := .lst [V.ref pf, .ref rl.1]) np18
        have S18 := S17.same s18
        refine ⟨p17, p18, us17, [rl], (pf, zf), rfl, s18 _ _ ep17, hR17.mono s18, upd_same, fun r hr => ?_, hus17, hl17, (show 1 ≤ 50 by decide), by show zf.length ≤ 8; omega, fun r hr => ?_, S18.t, fun G19 x19 T19 => ⟨true, rfl, iteF ?_⟩⟩
        · rcases List.mem_cons.mp hr with rfl | hr
          · exact ef8 S18
          · rw [List.mem_singleton.mp hr]
            exact S18.hR rl hlm
        · rcases List.mem_cons.mp hr with rfl | hr
          · exact ⟨zfl, nF⟩
          · rw [List.mem_singleton.mp hr]
            exact okl
        have S19 := S18.ext x19 T19
        -- common(u=rows[len(rows) - 1], v=first) != common(first, rows[len(rows) - 1])
        refine ⟨.ref p5, rfl, .ref p5, rfl, p5, _, rfl, .inl (sqL_new S19.er), _, _, rfl, rfl, p5, _, _, _, rfl, rfl, sqL_new S19.er, hix, .ref pf, rfl, rl.1, pf, rl.2, zf, rfl, S19.hR rl hlm, ef8 S19, okl.1, zfl, okl.2, nF, fun _ h => absurd h (by omega), fun _ G20 p20 us20 s20 np20 ep20 hus20 hR20 hl20 => ?_⟩
        have S20 := S19.same s20
        refine ⟨.ref pf, rfl, .ref p5, rfl, .ref p5, rfl, p5, _, rfl, .inl (sqL_new S20.er), _, _, rfl, rfl, p5, _, _, _, rfl, rfl, sqL_new S20.er, hix, pf, rl.1, zf, rl.2, rfl, ef8 S20, S20.hR rl hlm, zfl, okl.1, nF, okl.2, fun h => absurd h (by omega), fun _ G21 p21 us21 s21 np21 ep21 hus21 hR21 hl21 => ?_⟩
        have S21 := S20.same s21
        have c21 : us20.map (·.2) = us21.map (·.2) := by
          rw [hus20, hus21]
          refine comA_congr (by simp) (by simp) fun r => ?_
          simp only [List.mem_cons, List.not_mem_nil, or_false]
          exact Or.comm
        have n21 : ∀ r ∈ us21.map (·.2), ∀ z ∈ r, isName z = true := fun r hr z hz => by
          rw [hus21] at hr
          exact nF z (((comA_mem.mp hr).1 zf List.mem_cons_self).subset hz)
        have sh21 := (shRows n21).2
        refine ⟨.tuple ((us20.map (·.2)).map Ka.rowD), .tuple ((us21.map (·.2)).map Ka.rowD), .tup (sqT_new (s21 _ _ ep20)) (dpRows (hR20.mono s21)), .tup (sqT_new ep21) (dpRows hR21), by rw [c21]; exact sh21, sh21, ?_⟩
        rw [PyData.eqv, eqRows, c21, decide_eq_true rfl]
        refine ⟨_, rfl, iteF ?_⟩
        -- _law_bound_right
        refine ⟨.ref x, rfl, x, 3, rfl, S21.b, by decide, by decide, fun r22 G22 hr22 k22 b22 => ⟨rfl, _, rfl, ?_⟩⟩
        have S22 := S21.but k22 b22
        generalize hY : tIfS (tAnd (tTest (tOp rEq (tCall spTake [] E0 _) _)) (tNot (tB (tCall spExch [] E0 _)))) _ _ _ = Y
        have done : ∀ {G : Hp}, Tn (TL P1 P2) H1 G x pn p5 p7 nl R ts → LamX.ExtN H G ∧ LamX.Tabs (TL P1 P2) G := fun Sg => by
          refine ⟨fun c u e n => ?_, Sg.t⟩
          have e0 := x0 c u e n
          exact Sg.k c u (ne_of_none e0 nx) (s01 _ _ e0) n
        have fin2 : ∀ G, Tn (TL P1 P2) H1 G x pn p5 p7 nl R ts → Y [some (.ref a), some (.int (i : Nat)), some (.ref x), some (.ref pn), some (.ref pf), some (.ref p5), d6', some (.ref p6), some (.ref p7)] G := fun G S => by
          rw [← hY]
          refine ⟨.ref x, rfl, x, 6, rfl, S.b, by decide, by decide, fun r G1 hr k1 b1' => ⟨rfl, _, rfl, ite2 (fun c => ?_) (fun c => ?_)⟩⟩
          · have S1 := S.but k1 b1'
            refine ⟨.ref x, rfl, x, rfl, S1.b, fun G2 k2' b2' => ⟨true, rfl, iteF ?_⟩⟩
            obtain ⟨h1, h2⟩ := done (S1.but k2' b2')
            exact ⟨_, _, _, _, _, _, _, _, rfl, h1, h2⟩
          · obtain ⟨h1, h2⟩ := done (S.but k1 b1')
            exact ⟨_, _, _, _, _, _, _, _, rfl, h1, h2⟩
        refine ite2 (fun c => ?_) (fun c => fin2 G22 S22)
        have g0 : (nl.map V.str)[0]? = some (.str (nl[0]'nl0)) := by
          rw [List.getElem?_map, List.getElem?_eq_getElem nl0]
          rfl
        have g1 : (nl.map V.str)[1]? = some (.str (nl[1]'nl1)) := by
          rw [List.getElem?_map, List.getElem?_eq_getElem nl1]
          rfl
        refine ⟨.ref pn, rfl, pn, _, 0, _, rfl, rfl, sqL_new S22.en, atI_nat (j := 0) g0, .ref pn, rfl, pn, _, 1, _, rfl, rfl, sqL_new S22.en, atI_nat (j := 1) g1, .ref x, rfl, x, 2, rfl, S22.b, by decide, by decide, fun r23 G23 hr23 k23 b23 => ?_⟩
        have S23 := S22.but k23 b23
        refine ⟨12, _, rfl, rfl, nl[0]'nl0, nl[1]'nl1, 12 + r23, ?_, nam _ (List.getElem_mem nl0), nam _ (List.getElem_mem nl1), by omega, by omega, S23.t, fun G24 x24 T24 => ⟨true, rfl, iteF (fin2 G24 (S23.ext x24 T24))⟩⟩
        show [V.str _, V.str _, V.int (12 + (r23 : Int))] = _
        rw [show (12 : Int) + (r23 : Int) = ((12 + r23 : Nat) : Int) by omega]
      have k49 := k8.trans k9
      have er9 := k9 _ _ hprx er8
      have hR9 := rows_but hR8 b8 k9
      refine ite2 (fun c => ?_) (fun c => fin qs H9 k49 b9 er9 hR9 (fun r hr => ⟨Nat.le_trans (hq7 r hr).1 (by decide), (hq7 r hr).2⟩) hl7)
      cases qs with
      | nil => exact absurd rfl qne
      | cons q0 qs =>
        have ok0 := hq7 q0 List.mem_cons_self
        refine ⟨.ref pr, rfl, pr, _, 0, .ref q0.1, rfl, rfl, sqL_new er9, atI_nat (j := 0) rfl, .ref x, rfl, x, 2, rfl, b9, by decide, by decide, fun r10 H10 hr10 k10 b10 => ?_⟩
        have k410 := k49.trans k10
        have er10 := k10 _ _ hprx er9
        have hR10 := rows_but hR9 b9 k10
        have hset : ∀ (p : Addr) (z : List Str) (G : Hp), Same H10 G → G p = some (.tup (z.map V.str)) → z.length ≤ 24 → (∀ y ∈ z, isName y = true) → X [some (.ref a), some (.int (i : Nat)), some (.ref x), some (.ref pn), some (.ref pf), some (.ref pr), d6', d7, d8] (upd G pr (.lst ((adV (q0 :: qs)).set 0 (.ref p)))) := fun p z G sG ep hz nz => by
          have erG := sG _ _ er10
          have hne : ∀ (c : Addr) (xs : List V), G c = some (.tup xs) → c ≠ pr := fun c xs e w => by
            rw [w, erG] at e
            cases e
          refine fin ((p, z) :: qs) _ (fun c u hc e => ?_) ((b10.mono sG).upd hprx) (by rw [upd_same]; rfl) (fun r hr => ?_) (fun r hr => ?_) (by rw [List.length_cons]; exact hl7)
          · rw [upd_ne (ne_of_none e npr)]
            exact sG _ _ (k410 _ _ hc e)
          · rcases List.mem_cons.mp hr with rfl | hr
            · rw [upd_ne (hne _ _ ep)]
              exact ep
            · have e := sG _ _ (hR10 r (List.mem_cons_of_mem _ hr))
              rw [upd_ne (hne _ _ e)]
              exact e
          · rcases List.mem_cons.mp hr with rfl | hr
            · exact ⟨hz, nz⟩
            · have := hq7 r (List.mem_cons_of_mem _ hr)
              exact ⟨Nat.le_trans this.1 (by decide), this.2⟩
        have e0 := hR10 q0 List.mem_cons_self
        have hix0 : ixN (adV (q0 :: qs)).length 0 = some 0 := by
          rw [adV_len, List.length_cons]
          unfold ixN
          simp
        refine ⟨2, _, rfl, rfl, q0.1, _, _, rfl, rfl, sqT_new e0, by omega, by omega, by rw [List.length_map]; omega, fun hz => ?_, fun p np => ?_⟩
        · exact ⟨.ref pr, rfl, pr, _, 0, 0, rfl, rfl, er10, hix0, hset q0.1 q0.2 H10 (fun _ _ h => h) e0 (Nat.le_trans ok0.1 (by decide)) ok0.2⟩
        · have sp := same_new (o := .tup (List.replicate ((2 : Int) + ((r10 : Nat) : Int)).toNat (q0.2.map V.str)).flatten) np
          have erep : (List.replicate ((2 : Int) + ((r10 : Nat) : Int)).toNat (q0.2.map V.str)).flatten = ((List.replicate (2 + r10) q0.2).flatten).map V.str := by
            rw [show ((2 : Int) + ((r10 : Nat) : Int)).toNat = 2 + r10 by omega, List.map_flatten, List.map_replicate]
          refine ⟨.ref pr, rfl, pr, _, 0, 0, rfl, rfl, sp _ _ er10, hix0, hset p ((List.replicate (2 + r10) q0.2).flatten) _ sp (by rw [upd_same, ← erep]) ?_ fun y hy => ?_⟩
          · rw [PyProof.Rows.lm_len_rep_flat]
            have := Nat.mul_le_mul (show 2 + r10 ≤ 3 by omega) ok0.1
            omega
          · obtain ⟨l, hl, hy⟩ := List.mem_flatten.mp hy
            rw [List.eq_of_mem_replicate hl] at hy
            exact ok0.2 y hy
    · rintro σ H' ⟨d1, d2, d3, d4, d5, d6, d7, d8, rfl, _, _⟩
      exact q H'
end
end Kb
namespace Kb
open PySem PySem.Spec PyProof.Rows L2
/-! ### the end: what the top has written -/
theorem all_mk {l : PySem.W.OpenLaw} {w : World} {K : PySem.W.Frag} {h : Heap} {mg : Str → Option Value} {fa C S P1 P2 aRi aBo : Addr} (X : K.In h) (G : h.Ns mainGlobals mg) (hfa : mg "law" = some (.ref fa)) (hTab1 : h.get? P1 = some (PySem.W.tabObj #[])) (hTab2 : h.get? P2 = some (PySem.W.tabObj #[]))
    {fOr fIn fCm fCa fRw fTw fPb fGa fBx fTk fPk fLt fNs fRo fCg fLi fIa fSa fRi fSd fBo fEx fLa fIt : Addr} {odOr anOr odIn anIn odCm anCm odCa anCa odRw anRw odTw anTw odPb anPb odGa anGa odBx anBx odTk anTk odPk anPk odLt anLt odNs anNs odRo anRo odCg anCg odLi anLi odIa anIa odSa anSa odRi anRi odSd anSd odBo anBo odEx anEx odLa anLa odIt anIt : Option Addr} {slOr slIn slCm slCa slRw slTw slPb slGa slBx slTk slPk slLt slNs slRo slCg slLi slIa slSa slRi slSd slBo slEx slLa slIt : Array (Option Value)}
    {ocOr kVOr dcOr pmOr ctOr cdOr ocIn kVIn dcIn pmIn ctIn cdIn ocCm kVCm dcCm pmCm ctCm cdCm ocCa kVCa dcCa pmCa ctCa cdCa ocRw kVRw dcRw pmRw ctRw cdRw ocTw kVTw dcTw pmTw ctTw cdTw ocPb kVPb dcPb pmPb ctPb cdPb ocGa kVGa dcGa pmGa ctGa cdGa ocBx kVBx dcBx pmBx ctBx cdBx ocTk kVTk dcTk pmTk ctTk cdTk ocPk kVPk dcPk pmPk ctPk cdPk ocLt kVLt dcLt pmLt ctLt cdLt ocNs kVNs dcNs pmNs ctNs cdNs ocRo kVRo dcRo pmRo ctRo cdRo ocCg kVCg dcCg pmCg ctCg cdCg ocLi kVLi dcLi pmLi ctLi cdLi ocIa kVIa dcIa pmIa ctIa cdIa ocSa kVSa dcSa pmSa ctSa cdSa ocRi kVRi dcRi pmRi ctRi ocSd kVSd dcSd pmSd ctSd cdSd ocBo kVBo dcBo pmBo ctBo ocEx kVEx dcEx pmEx ctEx cdEx ocLa kVLa dcLa pmLa ctLa cdLa ocIt kVIt dcIt pmIt ctIt cdIt : Value} {t12 : Tok}
    (nOr : PySem.W.nsIn K mainGlobals "row_order" = some (some (.ref fOr)))
    (lOr : K.lookup fOr = some ⟨ocOr, odOr, .func (PySem.W.fnOf "row_order" "row_order" (defArgs sOrder) (defBody sOrder) (defScope sOrder) .none kVOr dcOr pmOr anOr cdOr ctOr), slOr⟩)
    (cOr : PySem.W.codeIn K cdOr "row_order" = true) (kOr : PySem.W.keepIn K (.ref fOr) = true)
    (nIn : PySem.W.nsIn K mainGlobals "in_order" = some (some (.ref fIn)))
    (lIn : K.lookup fIn = some ⟨ocIn, odIn, .func (PySem.W.fnOf "in_order" "in_order" (defArgs sInOrder) (defBody sInOrder) (defScope sInOrder) .none kVIn dcIn pmIn anIn cdIn ctIn), slIn⟩)
    (cIn : PySem.W.codeIn K cdIn "in_order" = true) (kIn : PySem.W.keepIn K (.ref fIn) = true)
    (nCm : PySem.W.nsIn K mainGlobals "common" = some (some (.ref fCm)))
    (lCm : K.lookup fCm = some ⟨ocCm, odCm, .func (PySem.W.fnOf "common" "common" (defArgs sCommon) (defBody sCommon) (defScope sCommon) .none kVCm dcCm pmCm anCm cdCm ctCm), slCm⟩)
    (cCm : PySem.W.codeIn K cdCm "common" = true) (kCm : PySem.W.keepIn K (.ref fCm) = true)
    (nCa : PySem.W.nsIn K mainGlobals "common_all" = some (some (.ref fCa)))
    (lCa : K.lookup fCa = some ⟨ocCa, odCa, .func (PySem.W.fnOf "common_all" "common_all" (defArgs sCommonAll) (defBody sCommonAll) (defScope sCommonAll) .none kVCa dcCa pmCa anCa cdCa ctCa), slCa⟩)
    (cCa : PySem.W.codeIn K cdCa "common_all" = true) (kCa : PySem.W.keepIn K (.ref fCa) = true)
    (nRw : PySem.W.nsIn K mainGlobals "rows_within" = some (some (.ref fRw)))
    (lRw : K.lookup fRw = some ⟨ocRw, odRw, .func (PySem.W.fnOf "rows_within" "rows_within" (defArgs sRowsWithin) (defBody sRowsWithin) (defScope sRowsWithin) .none kVRw dcRw pmRw anRw cdRw ctRw), slRw⟩)
    (cRw : PySem.W.codeIn K cdRw "rows_within" = true) (kRw : PySem.W.keepIn K (.ref fRw) = true)
    (nTw : PySem.W.nsIn K mainGlobals "those_within" = some (some (.ref fTw)))
    (lTw : K.lookup fTw = some ⟨ocTw, odTw, .func (PySem.W.fnOf "those_within" "those_within" (defArgs sThose) (defBody sThose) (defScope sThose) .none kVTw dcTw pmTw anTw cdTw ctTw), slTw⟩)
    (cTw : PySem.W.codeIn K cdTw "those_within" = true) (kTw : PySem.W.keepIn K (.ref fTw) = true)
    (nPb : PySem.W.nsIn K mainGlobals "places_behind" = some (some (.ref fPb)))
    (lPb : K.lookup fPb = some ⟨ocPb, odPb, .func (PySem.W.fnOf "places_behind" "places_behind" (defArgs sPlaces) (defBody sPlaces) (defScope sPlaces) .none kVPb dcPb pmPb anPb cdPb ctPb), slPb⟩)
    (cPb : PySem.W.codeIn K cdPb "places_behind" = true) (kPb : PySem.W.keepIn K (.ref fPb) = true)
    (nGa : PySem.W.nsIn K mainGlobals "greatest_of_all" = some (some (.ref fGa)))
    (lGa : K.lookup fGa = some ⟨ocGa, odGa, .func (PySem.W.fnOf "greatest_of_all" "greatest_of_all" (defArgs sGreatAll) (defBody sGreatAll) (defScope sGreatAll) .none kVGa dcGa pmGa anGa cdGa ctGa), slGa⟩)
    (cGa : PySem.W.codeIn K cdGa "greatest_of_all" = true) (kGa : PySem.W.keepIn K (.ref fGa) = true)
    (nBx : PySem.W.nsIn K mainGlobals "_law_box" = some (some (.ref fBx)))
    (lBx : K.lookup fBx = some ⟨ocBx, odBx, .func (PySem.W.fnOf "_law_box" "_law_box" (defArgs sBox) (defBody sBox) (defScope sBox) .none kVBx dcBx pmBx anBx cdBx ctBx), slBx⟩)
    (cBx : PySem.W.codeIn K cdBx "_law_box" = true) (kBx : PySem.W.keepIn K (.ref fBx) = true)
    (nTk : PySem.W.nsIn K mainGlobals "_law_take" = some (some (.ref fTk)))
    (lTk : K.lookup fTk = some ⟨ocTk, odTk, .func (PySem.W.fnOf "_law_take" "_law_take" (defArgs sTake) (defBody sTake) (defScope sTake) .none kVTk dcTk pmTk anTk cdTk ctTk), slTk⟩)
    (cTk : PySem.W.codeIn K cdTk "_law_take" = true) (kTk : PySem.W.keepIn K (.ref fTk) = true)
    (nPk : PySem.W.nsIn K mainGlobals "_law_pick" = some (some (.ref fPk)))
    (lPk : K.lookup fPk = some ⟨ocPk, odPk, .func (PySem.W.fnOf "_law_pick" "_law_pick" (defArgs sPick) (defBody sPick) (defScope sPick) .none kVPk dcPk pmPk anPk cdPk ctPk), slPk⟩)
    (cPk : PySem.W.codeIn K cdPk "_law_pick" = true) (kPk : PySem.W.keepIn K (.ref fPk) = true)
    (nLt : PySem.W.nsIn K mainGlobals "_law_letter" = some (some (.ref fLt)))
    (lLt : K.lookup fLt = some ⟨ocLt, odLt, .func (PySem.W.fnOf "_law_letter" "_law_letter" (defArgs sLet) (defBody sLet) (defScope sLet) .none kVLt dcLt pmLt anLt cdLt ctLt), slLt⟩)
    (cLt : PySem.W.codeIn K cdLt "_law_letter" = true) (kLt : PySem.W.keepIn K (.ref fLt) = true)
    (nNs : PySem.W.nsIn K mainGlobals "_law_names" = some (some (.ref fNs)))
    (lNs : K.lookup fNs = some ⟨ocNs, odNs, .func (PySem.W.fnOf "_law_names" "_law_names" (defArgs sNames) (defBody sNames) (defScope sNames) .none kVNs dcNs pmNs anNs cdNs ctNs), slNs⟩)
    (cNs : PySem.W.codeIn K cdNs "_law_names" = true) (kNs : PySem.W.keepIn K (.ref fNs) = true)
    (nRo : PySem.W.nsIn K mainGlobals "_law_row" = some (some (.ref fRo)))
    (lRo : K.lookup fRo = some ⟨ocRo, odRo, .func (PySem.W.fnOf "_law_row" "_law_row" (defArgs sRow) (defBody sRow) (defScope sRow) .none kVRo dcRo pmRo anRo cdRo ctRo), slRo⟩)
    (cRo : PySem.W.codeIn K cdRo "_law_row" = true) (kRo : PySem.W.keepIn K (.ref fRo) = true)
    (nCg : PySem.W.nsIn K mainGlobals "_law_changed" = some (some (.ref fCg)))
    (lCg : K.lookup fCg = some ⟨ocCg, odCg, .func (PySem.W.fnOf "_law_changed" "_law_changed" (defArgs sChanged) (defBody sChanged) (defScope sChanged) .none kVCg dcCg pmCg anCg cdCg ctCg), slCg⟩)
    (cCg : PySem.W.codeIn K cdCg "_law_changed" = true) (kCg : PySem.W.keepIn K (.ref fCg) = true)
    (nLi : PySem.W.nsIn K mainGlobals "_law_lies_in" = some (some (.ref fLi)))
    (lLi : K.lookup fLi = some ⟨ocLi, odLi, .func (PySem.W.fnOf "_law_lies_in" "_law_lies_in" (defArgs sLiesIn) (defBody sLiesIn) (defScope sLiesIn) .none kVLi dcLi pmLi anLi cdLi ctLi), slLi⟩)
    (cLi : PySem.W.codeIn K cdLi "_law_lies_in" = true) (kLi : PySem.W.keepIn K (.ref fLi) = true)
    (nIa : PySem.W.nsIn K mainGlobals "_law_in_all" = some (some (.ref fIa)))
    (lIa : K.lookup fIa = some ⟨ocIa, odIa, .func (PySem.W.fnOf "_law_in_all" "_law_in_all" (defArgs sInAll) (defBody sInAll) (defScope sInAll) .none kVIa dcIa pmIa anIa cdIa ctIa), slIa⟩)
    (cIa : PySem.W.codeIn K cdIa "_law_in_all" = true) (kIa : PySem.W.keepIn K (.ref fIa) = true)
    (nSa : PySem.W.nsIn K mainGlobals "_law_all_struck" = some (some (.ref fSa)))
    (lSa : K.lookup fSa = some ⟨ocSa, odSa, .func (PySem.W.fnOf "_law_all_struck" "_law_all_struck" (defArgs sStruckAll) (defBody sStruckAll) (defScope sStruckAll) .none kVSa dcSa pmSa anSa cdSa ctSa), slSa⟩)
    (cSa : PySem.W.codeIn K cdSa "_law_all_struck" = true) (kSa : PySem.W.keepIn K (.ref fSa) = true)
    (nRi : PySem.W.nsIn K mainGlobals "_law_right" = some (some (.ref fRi)))
    (lRi : K.lookup fRi = some ⟨ocRi, odRi, .func (PySem.W.fnOf "_law_right" "_law_right" (defArgs sRight) (defBody sRight) (defScope sRight) .none kVRi dcRi pmRi anRi (.ref aRi) ctRi), slRi⟩)
    (cRi : PySem.W.codeIn K (.ref aRi) "_law_right" = true) (kRi : PySem.W.keepIn K (.ref fRi) = true)
    (nSd : PySem.W.nsIn K mainGlobals "_law_said" = some (some (.ref fSd)))
    (lSd : K.lookup fSd = some ⟨ocSd, odSd, .func (PySem.W.fnOf "_law_said" "_law_said" (defArgs sSaid) (defBody sSaid) (defScope sSaid) .none kVSd dcSd pmSd anSd cdSd ctSd), slSd⟩)
    (cSd : PySem.W.codeIn K cdSd "_law_said" = true) (kSd : PySem.W.keepIn K (.ref fSd) = true)
    (nBo : PySem.W.nsIn K mainGlobals "_law_bound_right" = some (some (.ref fBo)))
    (lBo : K.lookup fBo = some ⟨ocBo, odBo, .func (PySem.W.fnOf "_law_bound_right" "_law_bound_right" (defArgs sBound) (defBody sBound) (defScope sBound) .none kVBo dcBo pmBo anBo (.ref aBo) ctBo), slBo⟩)
    (cBo : PySem.W.codeIn K (.ref aBo) "_law_bound_right" = true) (kBo : PySem.W.keepIn K (.ref fBo) = true)
    (nEx : PySem.W.nsIn K mainGlobals "_law_exchanged_right" = some (some (.ref fEx)))
    (lEx : K.lookup fEx = some ⟨ocEx, odEx, .func (PySem.W.fnOf "_law_exchanged_right" "_law_exchanged_right" (defArgs sExch) (defBody sExch) (defScope sExch) .none kVEx dcEx pmEx anEx cdEx ctEx), slEx⟩)
    (cEx : PySem.W.codeIn K cdEx "_law_exchanged_right" = true) (kEx : PySem.W.keepIn K (.ref fEx) = true)
    (nLa : PySem.W.nsIn K mainGlobals "law" = some (some (.ref fLa)))
    (lLa : K.lookup fLa = some ⟨ocLa, odLa, .func (PySem.W.fnOf "law" "law" (defArgs sLaw) (defBody sLaw) (defScope sLaw) .none kVLa dcLa pmLa anLa cdLa ctLa), slLa⟩)
    (cLa : PySem.W.codeIn K cdLa "law" = true) (kLa : PySem.W.keepIn K (.ref fLa) = true)
    {nm q : Str} {Nn : Addr} {bs bm : List Value} {sn : List Str} {sub : List Value} {ab : Bool} {col : Option Bool} {dd : Option Addr} {m0 m1 m2 m3 m5 : Option Value}
    (aC : PySem.W.nsIn K mainGlobals "Refused" = some (some (.ref C))) (aS : PySem.W.nsIn K mainGlobals "StillError" = some (some (.ref S)))
    (xL : K.lookup C = some (excClassObj nm q C Nn bs bm true sn sub ab col dd m0 m1 m2 m3 m5 "ValueError.__new__")) (hbm : PySem.HandSPX.refsVE bm = true)
    (sa : PySem.W.findIn K (.ref C) "__setattr__" = some (some (.builtin "object.__setattr__"))) (ga : PySem.W.findIn K (.ref C) "__getattribute__" = some (some (.builtin "BaseException.__getattribute__"))) (gg : PySem.W.findIn K (.ref C) "__getattr__" = some none) (nAt : PySem.W.findIn K (.ref C) "word" = some none)
    (aIt : PySem.W.findIn K (.ref C) "__init__" = some (some (.ref fIt))) (tIt : PySem.W.typeIn K (.ref fIt) = some (.type "function"))
    (lIt : K.lookup fIt = some ⟨ocIt, odIt, .func (PySem.W.fnOf "__init__" "Refused.__init__" (defArgs sRefInit) (defBody sRefInit) (defScope sRefInit) .none kVIt dcIt pmIt anIt cdIt ctIt), slIt⟩) (cIt : PySem.W.codeIn K cdIt "Refused.__init__" = true) (kIt : PySem.W.keepIn K (.ref fIt) = true)
    (kC : PySem.W.keepIn K (.ref C) = true) (eC : PySem.W.subIn K (.ref C) (.type "BaseException") = some true) (tC : PySem.W.typeIn K (.ref C) = some (.type "type")) (hC : PySem.W.hasDictIn K C = true) (iC : PySem.W.isClsIn K C = true) (sC : PySem.W.subIn K (.ref C) (.ref C) = some true)
    (xc : PySem.W.findIn K (.ref C) "__class__" = some (some (.builtin "object.__class__"))) (xn : PySem.W.specialIn K (.builtin "object.__class__") "__get__" = some (some (.builtin "getset_descriptor.__get__"))) (xt : PySem.W.takesIn K (.builtin "object.__class__") = some true) (xm : PySem.W.mroIn K C (.type "object") = some true)
    (kS : PySem.W.kitOne K (.ref C) (.ref S) = some true) (kV : PySem.W.kitOne K (.ref C) (.type "ValueError") = some true)
    (v12 : PySem.W.nsIn K mainGlobals "LONGEST_COMMON" = some (some (.int 12 t12)))
    (nP1 : K.lookup P1 = none) (cP1 : PySem.W.codeHdIn K aRi P1 = true) (nP2 : K.lookup P2 = none) (cP2 : PySem.W.codeHdIn K aBo P2 = true) (hPP : P1 ≠ P2)
    (z0 : PySem.W.nsIn K mainGlobals "len" = some none) (z1 : PySem.W.nsIn K mainGlobals "range" = some none) (z2 : PySem.W.nsIn K mainGlobals "iter" = some none) (z3 : PySem.W.nsIn K mainGlobals "enumerate" = some none) (z4 : PySem.W.nsIn K mainGlobals "reversed" = some none) (z5 : PySem.W.nsIn K mainGlobals "tuple" = some none) (z6 : PySem.W.nsIn K mainGlobals "list" = some none) (z7 : PySem.W.nsIn K mainGlobals "sorted" = some none) (z8 : PySem.W.nsIn K mainGlobals "any" = some none) (z9 : PySem.W.nsIn K mainGlobals "all" = some none) (z10 : PySem.W.nsIn K mainGlobals "int" = some none) (z11 : PySem.W.nsIn K mainGlobals "str" = some none) (z12 : PySem.W.nsIn K mainGlobals "bool" = some none) (z13 : PySem.W.nsIn K mainGlobals "abs" = some none) (z14 : PySem.W.nsIn K mainGlobals "min" = some none) (z15 : PySem.W.nsIn K mainGlobals "max" = some none) (z16 : PySem.W.nsIn K mainGlobals "sum" = some none) (z17 : PySem.W.nsIn K mainGlobals "isinstance" = some none) (z18 : PySem.W.nsIn K mainGlobals "ValueError" = some none) (z19 : PySem.W.nsIn K mainGlobals "dict" = some none) :
    LamX.LawAtS l w K CX0 8 63 "script" mg fa h := by
  have e := hfa.symm.trans (PySem.W.mg_of X G nLa)
  cases e
  have N : Nones mg := ⟨PySem.W.mg_none_of X G z0, PySem.W.mg_none_of X G z1, PySem.W.mg_none_of X G z2, PySem.W.mg_none_of X G z3, PySem.W.mg_none_of X G z4, PySem.W.mg_none_of X G z5, PySem.W.mg_none_of X G z6, PySem.W.mg_none_of X G z7, PySem.W.mg_none_of X G z8, PySem.W.mg_none_of X G z9, PySem.W.mg_none_of X G z10, PySem.W.mg_none_of X G z11, PySem.W.mg_none_of X G z12, PySem.W.mg_none_of X G z13, PySem.W.mg_none_of X G z14, PySem.W.mg_none_of X G z15, PySem.W.mg_none_of X G z16, PySem.W.mg_none_of X G z17, PySem.W.mg_none_of X G z18⟩
  have md := PySem.W.mg_none_of X G z19
  have FOr := fun_mk (st := sOrder) lOr cOr kOr
  have gOr := PySem.W.mg_of X G nOr
  have bOr := FOr.binds (ps := ["row"]) fun _ _ _ _ _ _ us hl => match us, hl with | [_], _ => rfl
  have FIn := fun_mk (st := sInOrder) lIn cIn kIn
  have gIn := PySem.W.mg_of X G nIn
  have bIn := FIn.binds (ps := ["rows"]) fun _ _ _ _ _ _ us hl => match us, hl with | [_], _ => rfl
  have FCm := fun_mk (st := sCommon) lCm cCm kCm
  have gCm := PySem.W.mg_of X G nCm
  have bCm := FCm.binds (ps := ["u", "v"]) fun _ _ _ _ _ _ us hl => match us, hl with | [_, _], _ => rfl
  have FCa := fun_mk (st := sCommonAll) lCa cCa kCa
  have gCa := PySem.W.mg_of X G nCa
  have bCa := FCa.binds (ps := ["rows"]) fun _ _ _ _ _ _ us hl => match us, hl with | [_], _ => rfl
  have FRw := fun_mk (st := sRowsWithin) lRw cRw kRw
  have gRw := PySem.W.mg_of X G nRw
  have bRw := FRw.binds (ps := ["row"]) fun _ _ _ _ _ _ us hl => match us, hl with | [_], _ => rfl
  have FTw := fun_mk (st := sThose) lTw cTw kTw
  have gTw := PySem.W.mg_of X G nTw
  have bTw := FTw.binds (ps := ["rows", "behind"]) fun _ _ _ _ _ _ us hl => match us, hl with | [_, _], _ => rfl
  have FPb := fun_mk (st := sPlaces) lPb cPb kPb
  have gPb := PySem.W.mg_of X G nPb
  have bPb := FPb.binds (ps := ["row", "deeds"]) fun _ _ _ _ _ _ us hl => match us, hl with | [_, _], _ => rfl
  have FGa := fun_mk (st := sGreatAll) lGa cGa kGa
  have gGa := PySem.W.mg_of X G nGa
  have bGa := FGa.binds (ps := ["rows"]) fun _ _ _ _ _ _ us hl => match us, hl with | [_], _ => rfl
  have FBx := fun_mk (st := sBox) lBx cBx kBx
  have gBx := PySem.W.mg_of X G nBx
  have bBx := FBx.binds (ps := ["script", "k"]) fun _ _ _ _ _ _ us hl => match us, hl with | [_, _], _ => rfl
  have FTk := fun_mk (st := sTake) lTk cTk kTk
  have gTk := PySem.W.mg_of X G nTk
  have bTk := FTk.binds (ps := ["box", "many"]) fun _ _ _ _ _ _ us hl => match us, hl with | [_, _], _ => rfl
  have FPk := fun_mk (st := sPick) lPk cPk kPk
  have gPk := PySem.W.mg_of X G nPk
  have bPk := FPk.binds (ps := ["box", "some"]) fun _ _ _ _ _ _ us hl => match us, hl with | [_, _], _ => rfl
  have FLt := fun_mk (st := sLet) lLt cLt kLt
  have gLt := PySem.W.mg_of X G nLt
  have bLt := FLt.binds (ps := ["box"]) fun _ _ _ _ _ _ us hl => match us, hl with | [_], _ => rfl
  have FNs := fun_mk (st := sNames) lNs cNs kNs
  have gNs := PySem.W.mg_of X G nNs
  have bNs := FNs.binds (ps := ["box", "many"]) fun _ _ _ _ _ _ us hl => match us, hl with | [_, _], _ => rfl
  have FRo := fun_mk (st := sRow) lRo cRo kRo
  have gRo := PySem.W.mg_of X G nRo
  have bRo := FRo.binds (ps := ["box", "names", "most"]) fun _ _ _ _ _ _ us hl => match us, hl with | [_, _, _], _ => rfl
  have FCg := fun_mk (st := sChanged) lCg cCg kCg
  have gCg := PySem.W.mg_of X G nCg
  have bCg := FCg.binds (ps := ["box", "row", "names"]) fun _ _ _ _ _ _ us hl => match us, hl with | [_, _, _], _ => rfl
  have FLi := fun_mk (st := sLiesIn) lLi cLi kLi
  have gLi := PySem.W.mg_of X G nLi
  have bLi := FLi.binds (ps := ["u", "v"]) fun _ _ _ _ _ _ us hl => match us, hl with | [_, _], _ => rfl
  have FIa := fun_mk (st := sInAll) lIa cIa kIa
  have gIa := PySem.W.mg_of X G nIa
  have bIa := FIa.binds (ps := ["row", "rows"]) fun _ _ _ _ _ _ us hl => match us, hl with | [_, _], _ => rfl
  have FSa := fun_mk (st := sStruckAll) lSa cSa kSa
  have gSa := PySem.W.mg_of X G nSa
  have bSa := FSa.binds (ps := ["row"]) fun _ _ _ _ _ _ us hl => match us, hl with | [_], _ => rfl
  have FRi := fun_mk (st := sRight) lRi cRi kRi
  have gRi := PySem.W.mg_of X G nRi
  have bRi := FRi.binds (ps := ["told", "rows"]) fun _ _ _ _ _ _ us hl => match us, hl with | [_, _], _ => rfl
  have FSd := fun_mk (st := sSaid) lSd cSd kSd
  have gSd := PySem.W.mg_of X G nSd
  have bSd := FSd.binds (ps := ["work"]) fun _ _ _ _ _ _ us hl => match us, hl with | [_], _ => rfl
  have FBo := fun_mk (st := sBound) lBo cBo kBo
  have gBo := PySem.W.mg_of X G nBo
  have bBo := FBo.binds (ps := ["name", "other", "many"]) fun _ _ _ _ _ _ us hl => match us, hl with | [_, _, _], _ => rfl
  have FEx := fun_mk (st := sExch) lEx cEx kEx
  have gEx := PySem.W.mg_of X G nEx
  have bEx := FEx.binds (ps := ["box"]) fun _ _ _ _ _ _ us hl => match us, hl with | [_], _ => rfl
  have FLa := fun_mk (st := sLaw) lLa cLa kLa
  have gLa := PySem.W.mg_of X G nLa
  have bLa := FLa.binds (ps := ["script"]) fun _ _ _ _ _ _ us hl => match us, hl with | [_], _ => rfl
  have FIt := fun_mk (st := sRefInit) lIt cIt kIt
  have bIt := FIt.binds (ps := ["self", "word"]) fun _ _ _ _ _ _ us hl => match us, hl with | [_, _], _ => rfl
  have kbCm : KBinds K _ ["u", "v"] ["u", "v"] Ka.ioG Ka.ioG := Ka.kb_two (fd := PySem.W.fnOf "common" "common" (defArgs sCommon) (defBody sCommon) (defScope sCommon) .none kVCm dcCm pmCm anCm cdCm ctCm) fun x y => rfl
  have kbCa : KBinds K _ ["rows"] ["rows"] Ka.snG Ka.snG := Ka.kb_one (fd := PySem.W.fnOf "common_all" "common_all" (defArgs sCommonAll) (defBody sCommonAll) (defScope sCommonAll) .none kVCa dcCa pmCa anCa cdCa ctCa) fun x => rfl
  have gC := PySem.W.mg_of X G aC
  have gS := PySem.W.mg_of X G aS
  have oex : OexC K C := ⟨⟨nm, q, Nn, bs, bm, sn, sub, ab, col, dd, m0, m1, m2, m3, m5, xL, hbm⟩, sa, eC, tC, kC⟩
  have R : RefC K mg C fIt _ := ⟨oex, aIt, tIt, nAt, gC, FIt, bIt⟩
  have Z : CatchC K mg C S := ⟨PySem.W.exm_ref eC hC tC sC, ⟨ga, gg, eC, hC⟩, ⟨ga, gg, eC, hC, xc, xn, xt, xm⟩, iC, gS, kS, kV⟩
  refine ⟨PySem.W.fnOf "law" "law" (defArgs sLaw) (defBody sLaw) (defScope sLaw) .none kVLa dcLa pmLa anLa cdLa ctLa, [(aRi, P1), (aBo, P2)], spLaw K P1 P2, fun p hp => ?_, fun p hp => ?_, fun p hp => ?_, fun s u => BindsTo.of_eq rfl, fun H a ns hl hb hP hS => ?_, fun base hb hg hTB => ?_⟩
  · rcases List.mem_cons.mp hp with rfl | hp
    · exact hTab1
    · rw [List.mem_singleton.mp hp]
      exact hTab2
  · rcases List.mem_cons.mp hp with rfl | hp
    · exact nP1
    · rw [List.mem_singleton.mp hp]
      exact nP2
  · rcases List.mem_cons.mp hp with rfl | hp
    · exact PySem.W.codeHd_of_K X cP1
    · rw [List.mem_singleton.mp hp]
      exact PySem.W.codeHd_of_K X cP2
  · exact ⟨a, ns, rfl, hS, (fun p hp => by
      rcases List.mem_cons.mp hp with rfl | hp
      · exact LamX.TabS.nil (hP _ List.mem_cons_self)
      · rw [List.mem_singleton.mp hp]
        exact LamX.TabS.nil (hP _ (List.mem_cons_of_mem _ List.mem_cons_self))), fun H' => rfl⟩
  · have TB1 := hTB (aRi, P1) List.mem_cons_self
    have TB2 := hTB (aBo, P2) (List.mem_cons_of_mem _ List.mem_cons_self)
    obtain ⟨AC, eAC, eAD, eCC⟩ : ∃ AC : AllC K mg, AC.f = fCa ∧ AC.fd = PySem.W.fnOf "common_all" "common_all" (defArgs sCommonAll) (defBody sCommonAll) (defScope sCommonAll) .none kVCa dcCa pmCa anCa cdCa ctCa ∧ AC.C = C :=
      ⟨⟨fCa, fIn, fOr, fRw, fTw, fPb, fGa, C, fIt, _, _, _, _, _, _, _, _, t12, R, FCa, FIn, bIn, gIn, FOr, gOr, FRw, bRw, gRw, FTw, bTw, gTw, FPb, bPb, gPb, FGa, bGa, gGa, PySem.W.mg_of X G v12, N, md⟩, rfl, rfl, rfl⟩
    have BA : Binds K AC.fd ["rows"] [] := by rw [eAD]; exact bCa
    have GAg : mg "common_all" = some (.ref AC.f) := by rw [eAC]; exact gCa
    have KA : PySem.W.keepIn K (.ref AC.f) = true := by rw [eAC]; exact kCa
    have KBA : KBinds K AC.fd ["rows"] ["rows"] Ka.snG Ka.snG := by rw [eAD]; exact kbCa
    have ZA : CatchC K mg AC.C S := by rw [eCC]; exact Z
    have GRi := ok_right (P := l.prog) (w := w) (base := base) lRi cRi TB1 hPP ⟨FIa, FLi, FSa, bIa, bLi, bSa, gIa, gLi, gSa⟩ N
    have GBo := ok_bound (P := l.prog) (w := w) (base := base) (C := AC) lBo cBo TB2 hPP ⟨FSd, bSd, gSd, FCm, bCm, gCm, BA, GAg, ZA⟩ N
    exact ok_law FLa N AC (ok_box FBx N.int N.len N.abs) ⟨kBx, bBx, gBx⟩ (ok_names FNs FTk bTk gTk FPk bPk gPk FLt bLt gLt N) ⟨kNs, bNs, gNs⟩ (ok_take FTk N.int) ⟨kTk, bTk, gTk⟩
      (ok_row FRo FTk bTk gTk FPk bPk gPk N.int N.len N.tuple N.range) ⟨kRo, bRo, gRo⟩ (ok_changed FCg FTk bTk gTk FPk bPk gPk N) ⟨kCg, bCg, gCg⟩ AC.ok ⟨KA, BA, GAg⟩ KBA (ok_common FCm AC BA GAg) ⟨kCm, bCm, gCm⟩ kbCm
      GRi ⟨kRi, bRi, gRi⟩ GBo ⟨kBo, bBo, gBo⟩ (ok_exch FEx FTk bTk gTk AC FCm bCm gCm BA GAg N) ⟨kEx, bEx, gEx⟩
end Kb
open PySem PySem.W PyProof.Rows in
set_option maxHeartbeats 0 in
theorem PySem.Challenge.cw_stillowed_k02_whole_common_rows_holds : PySem.Challenge.rw_stillowed_k02_whole_common_rows.Holds := by
  w_on; o_law; k_head; (case hw => w_witness2)
  k_fill
  refine LamX.walk_ofTs (l := PySem.Challenge.rw_stillowed_k02_whole_common_rows) (n := 63) (k := 8) (x := "script") (CX := fun _ => L2.CX0) rfl (by decide) rfl ⟨rfl, by decide, by decide⟩ (fun w h Y => PySem.W.km_in_of Y) ?F (fun _ _ _ _ _ z => z)
  case F =>
    intro w mg fa h Y KX G hmg
    refine' Kb.all_mk KX G hmg (PySem.W.km_tabs_of Y _ (List.mem_cons_of_mem _ List.mem_cons_self)) (PySem.W.km_tabs_of Y _ List.mem_cons_self) ?nOr ?lOr ?cOr ?kOr ?nIn ?lIn ?cIn ?kIn ?nCm ?lCm ?cCm ?kCm ?nCa ?lCa ?cCa ?kCa ?nRw ?lRw ?cRw ?kRw ?nTw ?lTw ?cTw ?kTw ?nPb ?lPb ?cPb ?kPb ?nGa ?lGa ?cGa ?kGa ?nBx ?lBx ?cBx ?kBx ?nTk ?lTk ?cTk ?kTk ?nPk ?lPk ?cPk ?kPk ?nLt ?lLt ?cLt ?kLt ?nNs ?lNs ?cNs ?kNs ?nRo ?lRo ?cRo ?kRo ?nCg ?lCg ?cCg ?kCg ?nLi ?lLi ?cLi ?kLi ?nIa ?lIa ?cIa ?kIa ?nSa ?lSa ?cSa ?kSa ?nRi ?lRi ?cRi ?kRi ?nSd ?lSd ?cSd ?kSd ?nBo ?lBo ?cBo ?kBo ?nEx ?lEx ?cEx ?kEx ?nLa ?lLa ?cLa ?kLa ?aC ?aS ?xL ?hbm ?sa ?ga ?gg ?nAt ?aIt ?tIt ?lIt ?cIt ?kIt ?kC ?eC ?tC ?hC ?iC ?sC ?xc ?xn ?xt ?xm ?kS ?kV ?v12 ?nP1 ?cP1 ?nP2 ?cP2 ?hPP ?z0 ?z1 ?z2 ?z3 ?z4 ?z5 ?z6 ?z7 ?z8 ?z9 ?z10 ?z11 ?z12 ?z13 ?z14 ?z15 ?z16 ?z17 ?z18 ?z19
    (case nOr => k_is)
    (case lOr => k_is)
    (case cOr => k_is)
    (case kOr => k_is)
    (case nIn => k_is)
    (case lIn => k_is)
    (case cIn => k_is)
    (case kIn => k_is)
    (case nCm => k_is)
    (case lCm => k_is)
    (case cCm => k_is)
    (case kCm => k_is)
    (case nCa => k_is)
    (case lCa => k_is)
    (case cCa => k_is)
    (case kCa => k_is)
    (case nRw => k_is)
    (case lRw => k_is)
    (case cRw => k_is)
    (case kRw => k_is)
    (case nTw => k_is)
    (case lTw => k_is)
    (case cTw => k_is)
    (case kTw => k_is)
    (case nPb => k_is)
    (case lPb => k_is)
    (case cPb => k_is)
    (case kPb => k_is)
    (case nGa => k_is)
    (case lGa => k_is)
    (case cGa => k_is)
    (case kGa => k_is)
    (case nBx => k_is)
    (case lBx => k_is)
    (case cBx => k_is)
    (case kBx => k_is)
    (case nTk => k_is)
    (case lTk => k_is)
    (case cTk => k_is)
    (case kTk => k_is)
    (case nPk => k_is)
    (case lPk => k_is)
    (case cPk => k_is)
    (case kPk => k_is)
    (case nLt => k_is)
    (case lLt => k_is)
    (case cLt => k_is)
    (case kLt => k_is)
    (case nNs => k_is)
    (case lNs => k_is)
    (case cNs => k_is)
    (case kNs => k_is)
    (case nRo => k_is)
    (case lRo => k_is)
    (case cRo => k_is)
    (case kRo => k_is)
    (case nCg => k_is)
    (case lCg => k_is)
    (case cCg => k_is)
    (case kCg => k_is)
    (case nLi => k_is)
    (case lLi => k_is)
    (case cLi => k_is)
    (case kLi => k_is)
    (case nIa => k_is)
    (case lIa => k_is)
    (case cIa => k_is)
    (case kIa => k_is)
    (case nSa => k_is)
    (case lSa => k_is)
    (case cSa => k_is)
    (case kSa => k_is)
    (case nRi => k_is)
    (case lRi => k_is)
    (case cRi => k_is)
    (case kRi => k_is)
    (case nSd => k_is)
    (case lSd => k_is)
    (case cSd => k_is)
    (case kSd => k_is)
    (case nBo => k_is)
    (case lBo => k_is)
    (case cBo => k_is)
    (case kBo => k_is)
    (case nEx => k_is)
    (case lEx => k_is)
    (case cEx => k_is)
    (case kEx => k_is)
    (case nLa => k_is)
    (case lLa => k_is)
    (case cLa => k_is)
    (case kLa => k_is)
    (case aC => k_is)
    (case aS => k_is)
    (case xL => k_is)
    (case hbm => first | decide +kernel | rfl | k_is)
    (case sa => k_is)
    (case ga => k_is)
    (case gg => k_is)
    (case nAt => k_is)
    (case aIt => k_is)
    (case tIt => k_is)
    (case lIt => k_is)
    (case cIt => k_is)
    (case kIt => k_is)
    (case kC => k_is)
    (case eC => k_is)
    (case tC => k_is)
    (case hC => k_is)
    (case iC => k_is)
    (case sC => first | rfl | k_is)
    (case xc => k_is)
    (case xn => k_is)
    (case xt => k_is)
    (case xm => k_is)
    (case kS => first | k_is | rfl | decide +kernel)
    (case kV => first | k_is | rfl | decide +kernel)
    (case v12 => k_is)
    (case nP1 => first | k_is | rfl | decide +kernel)
    (case cP1 => first | k_is | rfl | decide +kernel)
    (case nP2 => first | k_is | rfl | decide +kernel)
    (case cP2 => first | k_is | rfl | decide +kernel)
    (case hPP => decide)
    (case z0 => k_is)
    (case z1 => k_is)
    (case z2 => k_is)
    (case z3 => k_is)
    (case z4 => k_is)
    (case z5 => k_is)
    (case z6 => k_is)
    (case z7 => k_is)
    (case z8 => k_is)
    (case z9 => k_is)
    (case z10 => k_is)
    (case z11 => k_is)
    (case z12 => k_is)
    (case z13 => k_is)
    (case z14 => k_is)
    (case z15 => k_is)
    (case z16 => k_is)
    (case z17 => k_is)
    (case z18 => k_is)
    (case z19 => k_is)
