import PyProof.Rows.All
import Wide.All
import OpenK.AllK
import Wide.FinOn
import PyProof.TupleIter
import PyProof.WalksMore
import HandS.ForMost
import HandS.IterNext
import HandS.IterVal
import KE.GoesMore
import PyProof.EnumMake
import HandS.Style
import KE.SortKeyHeap
import KE.KLam
import KE.KDictCopyH
import HandS.SortKw
import HandS.Lambda
import HandS.DictComp
import HandS.Walk
import HandS.Gcd
import KE.SortData
import KE.DataMinMax
import PyProof.DictUpdate
import PySem.Challenge.RW_stillowed_k13_bounds_and_tallest_books
import HandS.Zip
import HandS.Rev
import HandS.Evl
import HandS.Wide
import HandS.TupLe
import HandS.Deep
import HandS.TupAny
import HandS.IsInst
import PyProof.P3Eq
import HandS.TupLen
import HandS.More
import HandS.Flow
import HandS.ForExc
import HandS.ExcInit
import HandS.ExcField
import HandS.ExcIs
import KE.KExcIs
import KE.DataEq
import HandS.EndTab
import KE.KNestM
set_option Elab.async false
set_option linter.all false
set_option maxRecDepth 100000
set_option maxHeartbeats 8000000
/-! The mathematics of fits (own text; no part of the kit). -/
namespace Ka

variable {α : Type} [DecidableEq α]

/-- may the place stand behind the fit so far -/
def okAfter (fit : List Nat) (at_ : Nat) : Bool :=
  match fit.getLast? with
  | none => true
  | some l => decide (l < at_)

/-- the places by which a fit is lengthened -/
def nexts (v : List α) (x : α) (fit : List Nat) : List Nat :=
  (List.range v.length).filter fun i => decide (v[i]? = some x) && okAfter fit i

def growAll (v : List α) (x : α) (found : List (List Nat)) : List (List Nat) :=
  found.flatMap fun fit => (nexts v x fit).map fun i => fit ++ [i]

/-- all fits, as a loop over u finds them -/
def allFrom (v : List α) : List α → List (List Nat) → List (List Nat)
  | [], found => found
  | x :: u, found => allFrom v u (growAll v x found)

def allFits (u v : List α) : List (List Nat) := allFrom v u [[]]

theorem allFrom_append (v : List α) : ∀ (u w : List α) (found : List (List Nat)), allFrom v (u ++ w) found = allFrom v w (allFrom v u found)
  | [], _, _ => rfl
  | x :: u, w, found => allFrom_append v u w (growAll v x found)

theorem allFits_snoc (u : List α) (x : α) (v : List α) : allFits (u ++ [x]) v = growAll v x (allFits u v) := by
  unfold allFits
  rw [allFrom_append]
  rfl

/-! ### what a fit is -/
structure IsFit (u v : List α) (g : List Nat) : Prop where
  len : g.length = u.length
  asc : ∀ i j a b : Nat, i < j → g[i]? = some a → g[j]? = some b → a < b
  hit : ∀ i a : Nat, g[i]? = some a → v[a]? = u[i]?

theorem okAfter_iff (fit : List Nat) (i : Nat) : okAfter fit i = true ↔ ∀ l, fit.getLast? = some l → l < i := by
  unfold okAfter
  cases h : fit.getLast? with
  | none => simp
  | some l => simp

theorem mem_growAll {v : List α} {x : α} {found : List (List Nat)} {g : List Nat} :
    g ∈ growAll v x found ↔ ∃ fit i, fit ∈ found ∧ g = fit ++ [i] ∧ v[i]? = some x ∧ okAfter fit i = true := by
  unfold growAll nexts
  simp only [List.mem_flatMap, List.mem_map, List.mem_filter, List.mem_range, Bool.and_eq_true, decide_eq_true_eq]
  constructor
  · rintro ⟨fit, hf, i, ⟨hi, hx, ho⟩, rfl⟩
    exact ⟨fit, i, hf, rfl, hx, ho⟩
  · rintro ⟨fit, i, hf, rfl, hx, ho⟩
    refine ⟨fit, hf, i, ⟨?_, hx, ho⟩, rfl⟩
    exact (List.getElem?_eq_some_iff.mp hx).1

theorem snoc_get {β : Type} (l : List β) (x : β) (i : Nat) : (l ++ [x])[i]? = if i < l.length then l[i]? else if i = l.length then some x else none := by
  rw [List.getElem?_append]
  split
  · rfl
  · split
    · rename_i h1 h2
      subst h2
      simp
    · rename_i h1 h2
      have : 1 ≤ i - l.length := by omega
      rw [List.getElem?_eq_none]
      simpa using this

theorem isFit_snoc {u v : List α} {x : α} {fit : List Nat} {i : Nat} :
    IsFit (u ++ [x]) v (fit ++ [i]) ↔ IsFit u v fit ∧ v[i]? = some x ∧ okAfter fit i = true := by
  constructor
  · intro h
    have hl : fit.length = u.length := by
      have := h.len
      simp at this
      exact this
    refine ⟨⟨hl, fun a b p q hab hp hq => ?_, fun a p hp => ?_⟩, ?_, ?_⟩
    · have h1 := (List.getElem?_eq_some_iff.mp hp).1
      have h2 := (List.getElem?_eq_some_iff.mp hq).1
      refine h.asc a b p q hab ?_ ?_
      · rw [snoc_get, if_pos h1]; exact hp
      · rw [snoc_get, if_pos h2]; exact hq
    · have h1 := (List.getElem?_eq_some_iff.mp hp).1
      have := h.hit a p (by rw [snoc_get, if_pos h1]; exact hp)
      rw [this, snoc_get, if_pos (by omega)]
    · have := h.hit fit.length i (by rw [snoc_get, if_neg (Nat.lt_irrefl _), if_pos rfl])
      rw [this, snoc_get, if_neg (by omega), if_pos (by omega)]
    · rw [okAfter_iff]
      intro l hl'
      rw [List.getLast?_eq_getElem?] at hl'
      have h1 := (List.getElem?_eq_some_iff.mp hl').1
      exact h.asc (fit.length - 1) fit.length l i (by omega) (by rw [snoc_get, if_pos h1]; exact hl') (by rw [snoc_get, if_neg (Nat.lt_irrefl _), if_pos rfl])
  · rintro ⟨h, hx, ho⟩
    rw [okAfter_iff] at ho
    have hl := h.len
    refine ⟨by simp [hl], fun a b p q hab hp hq => ?_, fun a p hp => ?_⟩
    · rw [snoc_get] at hp hq
      split at hq
      · rename_i hb
        rw [if_pos (by omega)] at hp
        exact h.asc a b p q hab hp hq
      · split at hq
        · rename_i hb hb2
          cases hq
          rw [if_pos (by omega)] at hp
          have hlast : ∃ l, fit.getLast? = some l := by
            cases e : fit.getLast? with
            | none =>
              rw [List.getLast?_eq_none_iff] at e
              subst e
              simp at hb2
              omega
            | some l => exact ⟨l, rfl⟩
          obtain ⟨l, el⟩ := hlast
          have h1 := ho l el
          by_cases e : a = fit.length - 1
          · rw [List.getLast?_eq_getElem?, ← e, hp] at el
            cases el
            exact h1
          · rw [List.getLast?_eq_getElem?] at el
            have h2 : a < fit.length := by omega
            exact Nat.lt_trans (h.asc a (fit.length - 1) p l (by omega) hp el) h1
        · cases hq
    · rw [snoc_get] at hp
      split at hp
      · rename_i h1
        rw [h.hit a p hp, snoc_get, if_pos (by omega)]
      · split at hp
        · rename_i h1 h2
          cases hp
          rw [hx, snoc_get, if_neg (by omega), if_pos (by omega)]
        · cases hp

theorem isFit_nil {v : List α} {g : List Nat} : IsFit ([] : List α) v g ↔ g = [] := by
  constructor
  · intro h
    have := h.len
    simpa using this
  · rintro rfl
    exact ⟨rfl, fun i j a b _ h => by simp at h, fun i a h => by simp at h⟩

theorem snoc_ind {β : Type} {P : List β → Prop} (h0 : P []) (h1 : ∀ l x, P l → P (l ++ [x])) : ∀ l, P l := by
  intro l
  have : ∀ r : List β, P r.reverse := by
    intro r
    induction r with
    | nil => exact h0
    | cons x r ih => rw [List.reverse_cons]; exact h1 _ _ ih
  simpa using this l.reverse

theorem mem_allFits (v : List α) : ∀ (u : List α) (g : List Nat), g ∈ allFits u v ↔ IsFit u v g := by
  refine snoc_ind (fun g => ?_) fun u x ih g => ?_
  · rw [isFit_nil]
    simp [allFits, allFrom]
  · rw [allFits_snoc, mem_growAll]
    constructor
    · rintro ⟨fit, i, hf, rfl, hx, ho⟩
      exact isFit_snoc.mpr ⟨(ih fit).mp hf, hx, ho⟩
    · intro h
      have hl := h.len
      obtain ⟨fit, i, rfl⟩ : ∃ fit i, g = fit ++ [i] := by
        rcases List.eq_nil_or_concat g with e | ⟨fit, i, e⟩
        · subst e
          simp at hl
        · exact ⟨fit, i, by rw [e]; simp⟩
      obtain ⟨h1, h2, h3⟩ := isFit_snoc.mp h
      exact ⟨fit, i, (ih fit).mpr h1, rfl, h2, h3⟩

/-! ### how many fits there are -/
def cnt (u v : List α) : Nat := (allFits u v).length

theorem cnt_nil (v : List α) : cnt ([] : List α) v = 1 := rfl

theorem growAll_nil (x : α) (found : List (List Nat)) : growAll ([] : List α) x found = [] := by
  unfold growAll nexts
  simp

theorem cnt_snoc_nil (u : List α) (x : α) : cnt (u ++ [x]) ([] : List α) = 0 := by
  unfold cnt
  rw [allFits_snoc, growAll_nil]
  rfl

def low (n : Nat) (g : List Nat) : Bool := g.all fun i => decide (i < n)

theorem filter_map_comm {β γ : Type} (f : β → γ) (p : γ → Bool) (l : List β) : (l.map f).filter p = (l.filter (p ∘ f)).map f := List.filter_map

theorem nexts_snoc (v : List α) (d x : α) (fit : List Nat) :
    nexts (v ++ [d]) x fit = nexts v x fit ++ (if d = x ∧ okAfter fit v.length = true then [v.length] else []) := by
  unfold nexts
  rw [List.length_append, List.length_singleton, List.range_succ, List.filter_append]
  congr 1
  · apply List.filter_congr
    intro i hi
    have hi' : i < v.length := List.mem_range.mp hi
    rw [snoc_get, if_pos hi']
  · rw [List.filter_cons, List.filter_nil]
    rw [snoc_get, if_neg (Nat.lt_irrefl _), if_pos rfl]
    by_cases e : d = x
    · subst e
      simp
    · simp [e]

theorem nexts_lt {v : List α} {x : α} {fit : List Nat} {i : Nat} (h : i ∈ nexts v x fit) : i < v.length := by
  unfold nexts at h
  exact List.mem_range.mp (List.mem_filter.mp h).1

theorem low_snoc (n : Nat) (fit : List Nat) (i : Nat) : low n (fit ++ [i]) = (low n fit && decide (i < n)) := by
  unfold low
  simp

theorem last_high {v : List α} {fit : List Nat} {g : List Nat} {x : α} (h : fit.getLast? = some g.length) : True := trivial

/-- the fits in v ++ [d] that lie in v are those in v, in the same order -/
theorem filter_low (v : List α) (d : α) : ∀ u : List α, (∀ g ∈ allFits u (v ++ [d]), low v.length g = true ∨ g.getLast? = some v.length) ∧ (allFits u (v ++ [d])).filter (low v.length) = allFits u v := by
  refine snoc_ind ⟨fun g hg => ?_, ?_⟩ fun u x ih => ?_
  · have : g = [] := by simpa [allFits, allFrom] using hg
    subst this
    exact .inl rfl
  · rfl
  · obtain ⟨ih1, ih2⟩ := ih
    refine ⟨fun g hg => ?_, ?_⟩
    · rw [allFits_snoc, mem_growAll] at hg
      obtain ⟨fit, i, hf, rfl, hx, ho⟩ := hg
      have hi : i < (v ++ [d]).length := (List.getElem?_eq_some_iff.mp hx).1
      simp at hi
      rcases ih1 fit hf with h | h
      · by_cases e : i < v.length
        · left
          rw [low_snoc, h, decide_eq_true e]
          rfl
        · right
          have : i = v.length := by omega
          simp [this]
      · rw [okAfter_iff] at ho
        have := ho _ h
        omega
    · rw [allFits_snoc, allFits_snoc, ← ih2]
      unfold growAll
      generalize allFits u (v ++ [d]) = L at ih1
      clear ih2
      induction L with
      | nil => rfl
      | cons fit L ihL =>
        have ih1' : ∀ g ∈ L, low v.length g = true ∨ g.getLast? = some v.length := fun g hg => ih1 g (List.mem_cons_of_mem _ hg)
        rw [List.flatMap_cons, List.filter_append, ihL ih1', List.filter_cons]
        have hsplit : ((nexts (v ++ [d]) x fit).map fun i => fit ++ [i]).filter (low v.length) = if low v.length fit = true then (nexts v x fit).map fun i => fit ++ [i] else [] := by
          rw [List.filter_map, nexts_snoc, List.filter_append]
          have h2 : ((if d = x ∧ okAfter fit v.length = true then [v.length] else []).filter (low v.length ∘ fun i => fit ++ [i])) = [] := by
            split
            · simp [low_snoc]
            · rfl
          rw [h2, List.append_nil]
          by_cases hl : low v.length fit = true
          · rw [if_pos hl]
            congr 1
            rw [List.filter_eq_self]
            intro i hi
            have := nexts_lt hi
            simp [low_snoc, hl, this]
          · rw [if_neg hl]
            have : (nexts v x fit).filter (low v.length ∘ fun i => fit ++ [i]) = [] := by
              rw [List.filter_eq_nil_iff]
              intro i hi
              simp [low_snoc, hl]
            rw [this]
            rfl
        rw [hsplit]
        by_cases hl : low v.length fit = true
        · rw [if_pos hl, if_pos hl, List.flatMap_cons]
        · rw [if_neg hl, if_neg hl, List.nil_append]

theorem sum_nexts (v : List α) (x : α) (found : List (List Nat)) : (growAll v x found).length = (found.map fun fit => (nexts v x fit).length).sum := by
  unfold growAll
  rw [List.length_flatMap]
  congr 1
  apply List.map_congr_left
  intro fit _
  rw [List.length_map]

/-- the one recurrence -/
theorem cnt_snoc_snoc (u : List α) (x : α) (v : List α) (d : α) : cnt (u ++ [x]) (v ++ [d]) = cnt (u ++ [x]) v + (if d = x then cnt u v else 0) := by
  unfold cnt
  rw [allFits_snoc, allFits_snoc, sum_nexts, sum_nexts]
  obtain ⟨h1, h2⟩ := filter_low v d u
  rw [← h2]
  generalize allFits u (v ++ [d]) = L at h1
  clear h2
  induction L with
  | nil => simp
  | cons fit L ih =>
    have h1' : ∀ g ∈ L, low v.length g = true ∨ g.getLast? = some v.length := fun g hg => h1 g (List.mem_cons_of_mem _ hg)
    rw [List.map_cons, List.sum_cons, ih h1', List.filter_cons, nexts_snoc, List.length_append]
    rcases h1 fit (List.mem_cons_self) with h | h
    · rw [if_pos h, List.map_cons, List.sum_cons, List.length_cons]
      have ho : okAfter fit v.length = true := by
        rw [okAfter_iff]
        intro l hl
        have hm : l ∈ fit := List.mem_of_getLast? hl
        unfold low at h
        have := (List.all_eq_true.mp h) l hm
        simpa using this
      by_cases e : d = x
      · simp [e, ho]
        omega
      · simp [e]
        try omega
    · have hn : ¬ low v.length fit = true := by
        intro hl
        have hm : v.length ∈ fit := List.mem_of_getLast? h
        unfold low at hl
        have := (List.all_eq_true.mp hl) _ hm
        simp at this
      have ho : okAfter fit v.length = false := by
        unfold okAfter
        rw [h]
        simp
      have h0 : nexts v x fit = [] := by
        unfold nexts
        rw [List.filter_eq_nil_iff]
        intro i hi
        have hi' := List.mem_range.mp hi
        have : okAfter fit i = false := by
          unfold okAfter
          rw [h]
          simp
          omega
        simp [this]
      rw [if_neg hn, h0, ho]
      simp

end Ka
/-! iter(t) of a tuple of texts, and x in it. -/
namespace Ka
open PySem PySem.Spec PyProof.Rows L2

theorem entry_ci : entryFor table "proto.contains_iter" = some Builtin.«proto.contains_iter» := entryFor_of_fast (by kernel_rfl)
theorem tu_nocontains : typeLookup (.type "tuple_iterator") "__contains__" = pure none := by rw [typeLookup_type, builtinLookup_eq_fast]; kernel_rfl

section
variable {prog : Program} {w : World} {A : Around} {E : Value → Shared → Prop} {s : Shared}

/-- what has become of the iterator: the text was found at j, or it is used up -/
def Went (it t : Addr) (zs : List Str) (z : Str) (i : Nat) (h h' : Heap) (b : Bool) : Prop :=
  (b = true ∧ ∃ j, i ≤ j ∧ zs[j]? = some z ∧ (∀ k, i ≤ k → k < j → zs[k]? ≠ some z) ∧ h'.IsTupleIter it t (j + 1) ∧ Heap.ExtBut it h h') ∨
  (b = false ∧ (∀ k, i ≤ k → zs[k]? ≠ some z) ∧ Heap.ExtBut it h h')

theorem ci_loop {it t : Addr} {items : Array Value} {zs : List Str} {z : Str} {tk : Tok} {R : Result → Shared → Prop} (hne : t ≠ it) (hh : A.handled = none)
    (hs : Vals (zs.map V.str) items.toList) : ∀ (n i : Nat) (s : Shared), zs.length - i = n → s.heap.IsTupleIter it t i → s.heap.IsTuple t items →
      (∀ h' b, Went it t zs z i s.heap h' b → R (.ok (.ret (.bool b))) { s with heap := h' }) → codeAny (model prog w) A (.builtin "proto.contains_iter" ⟨[.ref it, .str z tk], []⟩) R s := by
  intro n
  induction n with
  | zero =>
    intro i s hn hit ht q
    have hx : items[i]? = none := by
      have hl := hs.length
      simp only [List.length_map, Array.length_toList] at hl
      rw [Array.getElem?_eq_none_iff]
      omega
    refine codeAny_builtin entry_ci ?_
    show wpAny _ _ (pyNext (.ref it) >>= _) _ _ s
    refine wpAny_bind (wpAny_pyNext_tuple_end hh hit ht hx fun h' e => ?_)
    refine wpAny_bind (wpAny_rule (wpAny_pure ?_))
    exact q h' false (.inr ⟨rfl, fun k hk hz => by
      have := (List.getElem?_eq_some_iff.mp hz).1
      omega, e⟩)
  | succ n ih =>
    intro i s hn hit ht q
    have hi : i < zs.length := by omega
    have hz : (zs.map V.str)[i]? = some (.str zs[i]) := by
      rw [List.getElem?_map, List.getElem?_eq_getElem hi]
      rfl
    obtain ⟨u, hu, ru⟩ := hs.get hz
    obtain ⟨t1, rfl⟩ := ru
    have hx : items[i]? = some (.str zs[i] t1) := by rw [← Array.getElem?_toList]; exact hu
    refine codeAny_builtin entry_ci ?_
    show wpAny _ _ (pyNext (.ref it) >>= _) _ _ s
    refine wpAny_bind (wpAny_pyNext_tuple_item hit ht hx fun h' hit' sb => ?_)
    show wpAny _ _ (eqBool (.str zs[i] t1) (.str z tk) >>= _) _ _ _
    refine wpAny_bind (wpAny_eqBool_str ?_)
    by_cases e : zs[i] = z
    · rw [decide_eq_true e]
      refine wpAny_bind (wpAny_rule (wpAny_pure ?_))
      exact q h' true (.inl ⟨rfl, i, Nat.le_refl _, by rw [List.getElem?_eq_getElem hi, e], fun k h1 h2 => by omega, hit', sb.extBut⟩)
    · rw [decide_eq_false e]
      refine wpAny_pure ⟨Code.quiet_builtin _ (by decide +kernel), ?_⟩
      refine ih (i + 1) { s with heap := h' } (by omega) hit' (by
        obtain ⟨o, ho, r⟩ := ht
        exact ⟨o, (sb.2 t hne).trans ho, r⟩) fun h2 b g => ?_
      refine q h2 b ?_
      have lift : ∀ k, i ≤ k → k ≠ i → i + 1 ≤ k := fun k h1 h2 => by omega
      have hzi : zs[i]? ≠ some z := by
        rw [List.getElem?_eq_getElem hi]
        exact fun w => e (Option.some.inj w)
      rcases g with ⟨rfl, j, h1, h3, h4, h5, h6⟩ | ⟨rfl, h1, h3⟩
      · refine .inl ⟨rfl, j, by omega, h3, fun k a c => ?_, h5, sb.extBut.trans h6⟩
        by_cases ek : k = i
        · rw [ek]; exact hzi
        · exact h4 k (lift k a ek) c
      · refine .inr ⟨rfl, fun k a => ?_, sb.extBut.trans h3⟩
        by_cases ek : k = i
        · rw [ek]; exact hzi
        · exact h1 k (lift k a ek)

theorem contains_ti {it t : Addr} {items : Array Value} {zs : List Str} {z : Str} {tk : Tok} {i : Nat} {Q : Bool → Shared → Prop} (hne : t ≠ it) (hh : A.handled = none)
    (hs : Vals (zs.map V.str) items.toList) (hit : s.heap.IsTupleIter it t i) (ht : s.heap.IsTuple t items)
    (q : ∀ h' b, Went it t zs z i s.heap h' b → Q b { s with heap := h' }) : wpAny (model prog w) A (contains (.ref it) (.str z tk)) Q E s := by
  unfold contains
  refine wpAny_holding ?_
  show wpAny _ _ (specialOf (.ref it) "__contains__" >>= _) _ _ s
  refine wpAny_bind (wpAny_specialOf hit.typeIs tu_nocontains ?_)
  refine wpAny_ite_split (fun hab => absurd hab (by decide)) (fun _ => ?_)
  refine wpAny_bind (wpAny_callSpecialUnlessNone?_none hit.typeIs tu_nocontains ?_)
  refine wpAny_bind (wpAny_rule ?_)
  refine wpAny_bind (wpAny_tryCatch (wpAny_mono (wpAny_pyIter_tupleiter (E := fun _ _ => False) hit (Q := fun v s' => v = .ref it ∧ s' = s) ⟨rfl, rfl⟩) (fun v s' hv => ?_) fun _ _ x => x.elim))
  obtain ⟨rfl, rfl⟩ := hv
  refine wpAny_bind (wpAny_runValue (ci_loop hne hh hs _ i _ rfl hit ht fun h' b g => ?_))
  exact wpAny_pure (q h' b g)

theorem call_iter_tuple {t : Addr} {items : Array Value} {Q : Value → Shared → Prop} (ht : s.heap.IsTuple t items)
    (h : Q (.ref s.heap.objs.size) { s with heap := s.heap.push { cls := .type "tuple_iterator", data := .fields #[.ref t, .int 0 0] } }) : wpAny (model prog w) A (call (.builtin "iter") [.ref t]) Q E s := by
  refine Calls.call_function_entry (by decide +kernel) (by decide +kernel) PySem.W.kdk_entry_iter (PySem.W.kdk_args_iter _) ?_
  unfold Builtin.«iter»
  refine wpAny_bind (m := someArgs "iter" 1 2 _) (wpAny_of_eq (a := [Value.ref t]) (by first | rfl | kernel_rfl!) ?_)
  show wpAny _ _ (pyIter (.ref t) >>= _) _ _ _
  refine wpAny_bind (wpAny_pyIter_tuple ht ?_)
  exact wpAny_pure ⟨_, rfl, h⟩
end

/-- at it an iterator over the tuple at t, the next place is i -/
def TupI (t it : Addr) (i : Nat) : HO := .ext fun h => h.IsTupleIter it t i
section
variable {X : Cx}
theorem ti_ok {P : Program} {w : World} {H : Hp} {h : Heap} {t it : Addr} {i : Nat} (e : h.IsTupleIter it t i) : ObjOk P w H h it (TupI t it i) :=
  ⟨e, let ⟨o, ho, _⟩ := e; ⟨o, ho⟩, fun h1 h2 q k => let ⟨o, ho, r⟩ := q; ⟨o, k _ ho, r⟩⟩

def rIterT (K : PySem.W.Frag) (n : Nat) : List V → Hp → VK → Prop := fun xs H Q => ∃ (t : Addr) (zs : List V), xs = [.ref t] ∧ SqT K H t zs ∧ ∀ it, H it = none → n ≤ it → Q (.ref it) (upd H it (TupI t it 0))
theorem call_iterT : CallR X (.builtin "iter") (rIterT X.K X.s_0.heap.objs.size) := by
  intro pins s σ H xs us Q I r h
  obtain ⟨l, zs, rfl, hq, q⟩ := h
  obtain rfl := Vals.ref1 r
  obtain ⟨its, rv, pl, hz⟩ := I.tuple hq
  refine call_iter_tuple pl ?_
  exact ⟨.ref s.heap.objs.size, _, I.laid (t' := s.toks) (fun b u e => Heap.get?_push_of_some _ e) (Nat.le_refl _) (ti_ok ⟨_, Heap.get?_push_size _ rfl, rfl, rfl⟩), rfl, q _ (I.hok.fresh (Nat.le_refl _)) I.sz⟩

/-- x in it; where it is used up, it is forgotten -/
def rInTI (K : PySem.W.Frag) (n : Nat) : R2 := fun x y H Q => ∃ (z : Str) (it t : Addr) (zs : List Str) (i : Nat), x = .str z ∧ y = .ref it ∧ n ≤ it ∧ H it = some (TupI t it i) ∧ SqT K H t (zs.map V.str) ∧
  ((∃ j, i ≤ j ∧ zs[j]? = some z ∧ (∀ k, i ≤ k → k < j → zs[k]? ≠ some z) ∧ Q (.bl true) (upd H it (TupI t it (j + 1)))) ∨ ((∀ k, i ≤ k → zs[k]? ≠ some z) ∧ Q (.bl false) (ItX.dropH H it)))
theorem op_inTI (hc : X.calm = true) : OpR X (compareOp .In) (rInTI X.K X.s_0.heap.objs.size) := by
  intro pins s σ H x y v u Q I rx ry h
  obtain ⟨z, it, t, zs, i, rfl, rfl, hn, hit, hq, q⟩ := h
  obtain ⟨tk, rfl⟩ := rx
  cases ry
  obtain ⟨its, rv, pl, hz⟩ := I.tuple hq
  have hI : s.heap.IsTupleIter it t i := (I.hok it _ hit).1
  have hne : t ≠ it := by
    intro e
    subst e
    obtain ⟨o, ho, hc, _⟩ := hI
    obtain ⟨o', ho', hc', _⟩ := pl
    rw [ho] at ho'
    cases ho'
    rw [hc] at hc'
    revert hc'
    simp
  have mu : Mut (H it) := by rw [hit]; exact True.intro
  show wpAny _ _ (contains (.ref it) (.str z tk) >>= fun b => pure (Value.bool b)) _ _ s
  refine wpAny_bind (contains_ti hne (I.ok.hd hc) (by simpa using rv) hI pl fun h' b g => wpAny_pure ?_)
  rcases g with ⟨rfl, j, h1, h3, h4, h5, h6⟩ | ⟨rfl, h1, h3⟩
  · rcases q with ⟨j', a1, a3, a4, q⟩ | ⟨a1, _⟩
    · have e : j' = j := by
        rcases Nat.lt_trichotomy j j' with l | l | l
        · exact absurd h3 (a4 j h1 l)
        · exact l.symm
        · exact absurd a3 (h4 j' a1 l)
      subst e
      exact ⟨.bl true, _, I.write (x := it) (e := it) (t' := s.toks) mu (.inl rfl) (fun b o nb e => h6 b o nb e) (let ⟨o, ho, _⟩ := h5; ⟨o, ho⟩) (ti_ok h5), rfl, q⟩
    · exact absurd h3 (a1 j h1)
  · rcases q with ⟨j', a1, a3, a4, q⟩ | ⟨a1, q⟩
    · exact absurd a3 (h1 j' a1)
    · have I2 := ItX.inv_drop I hit
      obtain ⟨f0, f1, f2, f3, f4, f5⟩ := ItX.inv_fp I hit hn
      exact ⟨.bl false, _, I2.turned (t' := s.toks) (fun b o nb e => h3 b o nb e) f0 f1 f3 f4 f5, rfl, q⟩
end
end Ka
/-! enumerate(t) of a tuple; xs[i] op= e of a list. -/
namespace Ka
open PySem PySem.Spec PyProof.Rows L2
open AutoSeq1 (wpAny_loadPart')

theorem meets_enumerate_newT (l : Addr) (items : Array Value) (o : Obj) (ho : o.cls = .type "tuple") (hd : ∃ n, o.data = .seq items n) :
    Meets (Builtin.«enumerate.__new__» ⟨[.type "enumerate", .ref l], []⟩) (fun _ R s => s.heap.get? l = some o ∧
      R (.ok (.ret (.ref (s.heap.push { cls := .type "tuple_iterator", data := .fields #[.ref l, .int 0 0] }).objs.size)))
        { s with heap := (s.heap.push { cls := .type "tuple_iterator", data := .fields #[.ref l, .int 0 0] }).push { cls := .type "enumerate", data := .fields #[.none, .bool false, .ref s.heap.objs.size, rawInt 0, .none, .none] } }) :=
  .of_wp fun prog w A R s h => by
    obtain ⟨hp, g, d, tk, os⟩ := s; obtain ⟨hl, h⟩ := h
    obtain ⟨c, dct, dt, sl⟩ := o
    obtain ⟨n, hd⟩ := hd
    replace ho : c = .type "tuple" := ho
    replace hd : dt = .seq items n := hd
    subst ho hd
    have hsub := sub_enumerate
    have hL : Heap.IsTuple (Shared.heap ⟨hp, g, d, tk, os⟩) l items := ⟨_, hl, rfl, n, rfl⟩
    wp_walk using wpAny_loadPart' hl
    refine wpAny_stack_any fun st => wpAny_pure ?_
    split
    · rename_i c _ _ _ _ _
      cases (c == Value.type "enumerate")
      · wp_walk using wpAny_loadPart' hl, wpAny_pyIter_tuple hL
        exact ⟨_, rfl, h⟩
      · wp_walk using wpAny_loadPart' hl, wpAny_pyIter_tuple hL
        exact ⟨_, rfl, h⟩
    · wp_walk using wpAny_loadPart' hl, wpAny_pyIter_tuple hL
      exact ⟨_, rfl, h⟩

section
variable {prog : Program} {w : World} {A : Around} {E : Value → Shared → Prop} {s : Shared}
theorem call_enumerate_tuple {l : Addr} {items : Array Value} {Q : Value → Shared → Prop} (hL : s.heap.IsTuple l items)
    (h : ∀ h', IsEnum h' (s.heap.objs.size + 1) s.heap.objs.size 0 .none → h'.IsTupleIter s.heap.objs.size l 0 → h'.objs.size = s.heap.objs.size + 2 →
      (∀ b o, s.heap.get? b = some o → h'.get? b = some o) → Q (.ref (s.heap.objs.size + 1)) { s with heap := h' }) :
    wpAny (model prog w) A (call (.type "enumerate") [.ref l]) Q E s := by
  obtain ⟨o, hl, hc, hd⟩ := hL
  refine callType_new F.called_enumerate (by decide) (F.typeCall_enumerate_1 _) (F.newCall_enumerate_1 _) (fun obj => F.args_object_init_2 obj _) F.entry_enumerate_new
    (meets_enumerate_newT l items o hc hd) ⟨hl, ?_⟩
  have hz : (s.heap.push { cls := .type "tuple_iterator", data := .fields #[.ref l, .int 0 0] }).objs.size = s.heap.objs.size + 1 := Heap.size_push ..
  show _ ∧ _
  rw [hz]
  have he : IsEnum ((s.heap.push { cls := .type "tuple_iterator", data := .fields #[.ref l, .int 0 0] }).push
      { cls := .type "enumerate", data := .fields #[.none, .bool false, .ref s.heap.objs.size, rawInt 0, .none, .none] }) (s.heap.objs.size + 1) s.heap.objs.size 0 .none := by
    have := Heap.get?_push_size (s.heap.push { cls := .type "tuple_iterator", data := .fields #[.ref l, .int 0 0] })
      (o := { cls := .type "enumerate", data := .fields #[.none, .bool false, .ref s.heap.objs.size, rawInt 0, .none, .none] }) rfl
    rw [hz] at this; exact this
  refine ⟨⟨_, he, rfl⟩, h _ he ⟨_, Heap.get?_push_of_some _ (Heap.get?_push_size _ rfl), rfl, rfl⟩ (by rw [Heap.size_push, hz]) fun b o x => Heap.get?_push_of_some _ (Heap.get?_push_of_some _ x)⟩
end

/-- the tuple at a, each item in a new pair -/
def Iet (K : PySem.W.Frag) (a : Addr) : It :=
  ⟨fun i H => ∃ (xs : List V) (x : V), SqT K H a xs ∧ xs[i]? = some x, fun i H v H' => ∃ T x, v = .ref T ∧ H T = none ∧ H' = upd H T (.tup [.int (i : Nat), x]) ∧ ∀ xs, SqT K H a xs → xs[i]? = some x, fun i H => ∃ xs : List V, SqT K H a xs ∧ xs.length ≤ i⟩
theorem turn_enumT {P : Program} {w : World} {K : PySem.W.Frag} {elts : List Expr} {kk : Nat} {tpos : Pos} (a e it : Addr) (hae : a ≠ e) (hai : a ≠ it) (len : Nat) :
    Turn P w K (.Tuple elts kk tpos) (Iet K a) [e, it] e (fun i h => (∃ old, IsEnum h e it ((i : Nat) : Int) old) ∧ h.IsTupleIter it a i ∧ e ≠ it) where
  mem := by simp
  obj := fun i h st b hb => by
    obtain ⟨⟨old, he⟩, ⟨o, ho, hc, hd⟩, _⟩ := st
    have e' : b = e ∨ b = it := by simpa using hb
    rcases e' with z | z
    · rw [z]; exact ⟨_, he, fun v q => nomatch q⟩
    · rw [z]; exact ⟨o, ho, fun v q => by rw [hd] at q; cases q⟩
  keep := fun i h h' st k => let ⟨⟨old, he⟩, hi, hne⟩ := st; ⟨⟨old, k e (by simp) _ he⟩, hi.at fun o q => k it (by simp) o q, hne⟩
  item := by
    intro X hP hw hK hc i pins s σ H E I hf st hg
    subst hP hw hK
    obtain ⟨⟨old, he⟩, hit, hne⟩ := st
    obtain ⟨xs, x, hq, hx⟩ := hg
    obtain ⟨its, rv, p, hz⟩ := I.tuple hq
    obtain ⟨u, hu, ru⟩ := rv.get hx
    have hel : e < s.heap.objs.size := Heap.lt_size he
    have hil : it < s.heap.objs.size := by obtain ⟨_, q, _⟩ := hit; exact Heap.lt_size q
    have hit0 : i < its.toArray.size := by
      have := (List.getElem?_eq_some_iff.mp hu).1
      simpa using this
    refine wpAny_pyNext_enum_itemD (Draws.tuple (A := X.A.in1) (by first | exact I.ok.hd hc | (show X.A.handled = none; exact I.ok.hd hc)) it a hai its.toArray) he ⟨hit, p⟩ hit0 hne (by simp [hne, Ne.symm hae]) fun x' h' tk hx' ho hst hT hsz hk => ?_
    have ex : x' = u := by
      have h2 : its.toArray[i]? = some u := by simpa using hu
      rw [h2] at hx'
      exact (Option.some.inj hx').symm
    subst ex
    refine ⟨_, rfl, wpAny_letOwnedTupleGo_enum (s := { s with heap := h', toks := tk + 1 }) ho fun h'' he' sb => ?_⟩
    have hT2 : h''.get? s.heap.objs.size = some { cls := .type "tuple", data := .seq #[.int i tk, x'] } := (sb.2 _ (Nat.ne_of_gt hel)).trans hT
    have new : ObjOk X.prog X.w (upd H s.heap.objs.size (.tup [.int (i : Nat), x])) h'' s.heap.objs.size (.tup [.int (i : Nat), x]) :=
      ⟨by show 2 ≤ sizeLine; decide, [.int i tk, x'], .cons ⟨_, rfl⟩ (.cons ru .nil), ⟨_, hT2, rfl, _, rfl⟩⟩
    have I1 : Inv X pins σ (upd H s.heap.objs.size (.tup [.int (i : Nat), x])) { s with heap := h'', toks := tk + 1 } :=
      I.turnedNew (ch := [e, it]) (fun b ob hb q => (sb.2 b (fun z => hb (by simp [z]))).trans (hk b ob (fun z => hb (by simp [z])) (fun z => hb (by simp [z])) q)) hf (Nat.le_refl _) new
    refine ⟨.ref s.heap.objs.size, _, I1, rfl, ⟨_, x, rfl, I.hok.fresh (Nat.le_refl _), rfl, fun ys hy => by rw [I.tuple_inj hy hq]; exact hx⟩, ⟨⟨x', ?_⟩, hst.1.at fun o q => (sb.2 it (Ne.symm hne)).trans q, hne⟩, fun b hb => ?_⟩
    · have e1 : ((i + 1 : Nat) : Int) = (i : Int) + 1 := by omega
      rw [e1]; exact he'
    · have hb' : b < s.heap.objs.size := by
        have e' : b = e ∨ b = it := by simpa using hb
        rcases e' with z | z
        · rw [z]; exact hel
        · rw [z]; exact hil
      rw [upd_ne (Nat.ne_of_lt hb')]
      exact (hf b hb).1
  done := by
    intro X hP hw hK hc i pins s σ H E I hf st hg
    subst hP hw hK
    obtain ⟨⟨old, he⟩, hit, hne⟩ := st
    obtain ⟨xs, hq, hx⟩ := hg
    obtain ⟨its, rv, p, hz⟩ := I.tuple hq
    obtain ⟨f0, f1, f2, f3, f4, f5⟩ := hf it (by simp)
    have hl := rv.length
    have hT : s.TypeIs (.ref e) "enumerate" := ⟨_, he, rfl⟩
    unfold pyNext
    refine wpAny_bind (wpAny_attempt (wpAny_callSpecial?_slot (name := Str.ofString "__next__") hT F.slot_enumerate_next
      (wpAny_call_entry F.slot_enumerate_next hT F.entry_enumerate_next ?_ (F.args_enumerate_next_1 _))))
    show wpAny _ _ (field (.ref e) 2 >>= _) _ _ _
    refine wpAny_bind (wpAny_field he rfl (x := .ref it) rfl ?_)
    refine wpAny_bind (wpAny_nextOf_tuple_end (by first | exact I.ok.hd hc | (show X.A.handled = none; exact I.ok.hd hc)) hit p (by rw [Array.getElem?_eq_none_iff]; simp; omega) fun h' x he' hx' => ?_)
    obtain ⟨o, ho, hc'⟩ := hx'
    refine wpAny_bind (wpAny_isInstance (T := "StopIteration") (b := true) ⟨o, ho, hc'⟩ isSubtype_stop ?_)
    exact wpAny_pure ⟨rfl, I.turned (t' := s.toks) (fun b o hb q => he' b o hb q) f0 f1 f3 f4 f5⟩
  self := fun A i s Q E st h => let ⟨⟨_, he⟩, _⟩ := st; wpAny_pyIter_enum he h
def iEnumT (K : PySem.W.Frag) (ta : TA) : TI := fun σ H R => ta σ H fun vs H1 => ∃ a xs, vs = [.ref a] ∧ SqT K H1 a xs ∧ R (Iet K a) H1
theorem pi_enumT {X : Cx} {e : Expr} {ta : TA} {p pos tpos : Pos} {elts : List Expr} {kk : Nat} (hg : Gl X "enumerate") (hm : X.mg "enumerate" = none) (ha : PA X [e] ta) (hs : starEach [e] X.env = [(false, eval e X.env)] := by rfl) :
    PI X (.Tuple elts kk tpos) (.Call (.Name "enumerate" p) [e] [] pos) (iEnumT X.K ta) := by
  refine ⟨fun pins s σ H R I h => ?_⟩
  refine Call_ (ld_blt I hg hm boot_enumerate (PyProof.Rows.callWith_type1 (thn (ha.run pos pins s σ H _ I h) fun us s1 ⟨vs, H1, I1, r1, q1⟩ => ?_) hs rfl))
  obtain ⟨a, xs, ex, hq, q⟩ := q1
  subst ex
  cases r1 with
  | cons r rr =>
    cases rr
    cases r
    obtain ⟨its, rv, p', hz⟩ := I1.tuple hq
    have hal : a < s1.heap.objs.size := by obtain ⟨_, z, _⟩ := p'; exact Heap.lt_size z
    refine call_enumerate_tuple p' fun h' he hit hsz hk => wpAny_pyIter_enum he ?_
    have I2 : Inv X pins σ H1 { s1 with heap := h' } := I1.kept (t' := s1.toks) hk
    refine ⟨s1.heap.objs.size + 1, [s1.heap.objs.size + 1, s1.heap.objs.size], _, _, H1, rfl, I2, turn_enumT a (s1.heap.objs.size + 1) s1.heap.objs.size (Nat.ne_of_lt (Nat.lt_succ_of_lt hal)) (Nat.ne_of_lt hal) 0, ⟨⟨.none, he⟩, hit, Nat.succ_ne_self _⟩, fun b hb => ?_, q⟩
    have e' : b = s1.heap.objs.size + 1 ∨ b = s1.heap.objs.size := by simpa using hb
    have hle : s1.heap.objs.size ≤ b := by
      rcases e' with z | z
      · rw [z]; exact Nat.le_add_right _ _
      · rw [z]; exact Nat.le_refl _
    exact I1.fpOk hle (I1.hok.fresh hle)

/-- a loop over enumerate(t), by one word a turn -/
theorem for_enumT {K : PySem.W.Frag} {a : Addr} {xs : List V} {g : TG} {tb : TS} {D : Ends} {σ : L2.St} {H : Hp} (Pv : Nat → L2.St → Hp → Prop) (h0 : Pv 0 σ H) (hl : ∀ i σ H, Pv i σ H → SqT K H a xs)
    (hs : ∀ i x T σ H, xs[i]? = some x → Pv i σ H → H T = none → g (.ref T) σ (upd H T (.tup [.int (i : Nat), x])) fun σ2 H2 => tb { D with nx := Pv (i + 1), ct := Pv (i + 1), bk := D.nx } σ2 H2)
    (hd : ∀ σ H, Pv xs.length σ H → D.nx σ H) :
    ∃ W : Nat → Nat → L2.St → Hp → Prop, (∃ m, W 0 m σ H) ∧ ∀ i m σ H, W i m σ H →
      ((Iet K a).stop i H ∧ D.nx σ H) ∨ ((Iet K a).go i H ∧ ∃ N : L2.St → Hp → Prop, (∀ σ' H', N σ' H' → ∃ m', m' < m ∧ W (i + 1) m' σ' H') ∧ ∀ x H', (Iet K a).yld i H x H' → g x σ H' fun σ2 H2 => tb { D with nx := N, ct := N, bk := D.nx } σ2 H2) := by
  refine ⟨fun i m σ H => m = xs.length - i ∧ i ≤ xs.length ∧ Pv i σ H, ⟨_, rfl, Nat.zero_le _, h0⟩, ?_⟩
  rintro i m σ H ⟨rfl, hi, p⟩
  have q := hl i σ H p
  by_cases hlt : i < xs.length
  · refine .inr ⟨⟨xs, xs[i], q, List.getElem?_eq_getElem hlt⟩, Pv (i + 1), fun σ' H' p' => ⟨xs.length - (i + 1), by omega, rfl, hlt, p'⟩, fun x H' y => ?_⟩
    obtain ⟨T, z, rfl, nT, rfl, hz⟩ := y
    exact hs i z T σ H (hz xs q) p nT
  · have e : i = xs.length := by omega
    refine .inl ⟨⟨xs, q, Nat.le_of_eq e.symm⟩, hd σ H ?_⟩
    rw [← e]
    exact p

/-! ### xs[i] op= e -/
def gtL (K : PySem.W.Frag) : V → V → Hp → VK → Prop := fun x y H Q => ∃ p xs j v, x = .ref p ∧ y = .int ((j : Nat) : Int) ∧ SqL K H p xs ∧ j < 2 ^ 62 ∧ xs[j]? = some v ∧ Q v H
theorem get_list {X : Cx} : PGet X (gtL X.K) := by
  intro pins s σ H o i ov iv Q I ro ri h
  obtain ⟨p, xs, j, v, rfl, rfl, hq, hj, hv, q⟩ := h
  cases ro
  obtain ⟨t, rfl⟩ := ri
  obtain ⟨its, r, pl, hz⟩ := I.list hq
  obtain ⟨u, hu, ru⟩ := r.get hv
  exact wpAny_getItem_list pl.isList (by omega) (by omega) (by simpa using hu) ⟨v, H, I, ru, q⟩
end Ka
/-! t[::-1] of a tuple. -/
namespace Ka
open PySem PySem.Spec PyProof.Rows L2 HT

theorem back_places (n : Nat) : Builtin.Slice.slicePlaces ((n : Int) - 1) (-1) (-1) = n := by
  unfold Builtin.Slice.slicePlaces
  rw [if_neg (by decide)]
  by_cases h : n = 0
  · subst h
    rfl
  · rw [if_pos (by omega)]
    have e : ((n : Int) - 1 - -1 - 1) / (- -1) + 1 = n := by
      rw [show (-(-1 : Int)) = 1 by decide, Int.ediv_one]
      omega
    rw [e]
    exact Int.toNat_natCast n

theorem back_some (xs : Array Value) (f : Nat → Option Value) (hf : ∀ k, k < xs.size → f k = xs.toList.reverse[k]?) : ∀ l : List Nat, (∀ k ∈ l, k < xs.size) → l.filterMap f = l.map fun k => xs.toList.reverse[k]?.getD .none
  | [], _ => rfl
  | k :: l, h => by
    have hk : k < xs.size := h k List.mem_cons_self
    have h2 : k < xs.toList.reverse.length := by simpa using hk
    rw [List.filterMap_cons, hf k hk, List.map_cons, back_some xs f hf l fun j hj => h j (List.mem_cons_of_mem _ hj), List.getElem?_eq_getElem h2]
    rfl
theorem back_items (xs : Array Value) : ((List.range xs.size).filterMap fun (k : Nat) => xs[((xs.size : Int) - 1 + (k : Int) * -1).toNat]?) = xs.toList.reverse := by
  rw [back_some xs _ (fun k hk => ?_) _ fun k hk => List.mem_range.mp hk]
  · apply List.ext_getElem?
    intro i
    rw [List.getElem?_map]
    by_cases hi : i < xs.size
    · have h2 : i < xs.toList.reverse.length := by simpa using hi
      rw [List.getElem?_range hi, Option.map_some, List.getElem?_eq_getElem h2]
      rfl
    · rw [List.getElem?_eq_none (by simpa using hi), List.getElem?_eq_none (by simpa using hi)]
      rfl
  · have e : ((xs.size : Int) - 1 + (k : Int) * -1).toNat = xs.size - 1 - k := by omega
    rw [e, List.getElem?_reverse (by simpa using hk), Array.length_toList, Array.getElem?_toList]

section
variable {prog : Program} {w : World} {A : Around} {E : Value → Shared → Prop} {s : Shared}
theorem applied_back {sl : Addr} {vl vu vs : Value} {n : Nat} {Q : Int × Int × Nat → Shared → Prop} (hs : s.heap.IsSliceOf sl vl vu vs) (pl : IsPart vl none) (pu : IsPart vu none) (ps : IsPart vs (some (-1)))
    (h : Q ((n : Int) - 1, -1, n) s) : wpAny (model prog w) A (Builtin.Slice.sliceApplied (.ref sl) (pure (n : Int))) Q E s := by
  obtain ⟨o, ho, _, hd⟩ := hs
  unfold Builtin.Slice.sliceApplied Builtin.Slice.sliceFields
  refine wpAny_bind (wpAny_bind (wpAny_field ho hd (x := vl) rfl (wpAny_bind (wpAny_field ho hd (x := vu) rfl (wpAny_bind (wpAny_field ho hd (x := vs) rfl (wpAny_pure ?_)))))))
  refine wpAny_bind (slicePart_ ps ?_)
  refine wpAny_ite_split (fun z => absurd z (by decide)) fun _ => ?_
  refine wpAny_bind (slicePart_ pl (wpAny_bind (slicePart_ pu (wpAny_bind (wpAny_pure (wpAny_pure ?_))))))
  have e : Builtin.Slice.slicePlaces ((n : Int) - 1) (-1) (-1) = n := back_places n
  show Q ((n : Int) - 1, -1, Builtin.Slice.slicePlaces ((n : Int) - 1) (-1) (-1)) s
  rw [e]
  exact h

theorem getItem_back {t sl : Addr} {items : Array Value} {vl vu vs : Value} {Q : Value → Shared → Prop} (ht : IsTup s.heap t items) (hs : s.heap.IsSliceOf sl vl vu vs) (pl : IsPart vl none) (pu : IsPart vu none) (ps : IsPart vs (some (-1)))
    (hz : items.size ≤ sizeLine) (h : Q (.ref s.heap.objs.size) { s with heap := s.heap.push { cls := .type "tuple", data := .seq items.toList.reverse.toArray } }) : wpAny (model prog w) A (getItem (.ref t) (.ref sl)) Q E s := by
  have hT : s.TypeIs (.ref sl) "slice" := let ⟨o, ho, hc, _⟩ := hs; ⟨o, ho, hc⟩
  have hok : sizeOk (.seq items.toList.reverse.toArray) := by
    show items.toList.reverse.toArray.size ≤ sizeLine
    simpa using hz
  unfold getItem
  try with_reducible refine wpAny_holding ?_
  first | refine wpAny_bind (wpAny_pure ?_) | skip
  refine wpAny_bind (wpAny_sequenceKey ht.typeIs (by decide) ?_)
  refine wpAny_bind (wpAny_callSpecial?_slot (name := Str.ofString "__getitem__") ht.typeIs PyProof.Rows.slot_tuple_getitem
    (wpAny_call_entry PyProof.Rows.slot_tuple_getitem ht.typeIs entry_tuple_getitem ?_ (args_tuple_getitem _ _)))
  show wpAny _ _ (Builtin.Tuple.tupleItemsOf (.ref t) >>= _) _ _ s
  refine wpAny_bind (tupleItemsOf_ ht (wpAny_bind (wpAny_typeOf hT ?_)))
  rw [if_pos (by decide)]
  refine wpAny_bind (applied_back hs pl pu ps ?_)
  refine wpAny_ite_split (fun z => ?_) fun _ => ?_
  · exfalso
    simp at z
  · rw [back_items]
    first
      | exact wpAny_bind (m := Builtin.Tuple.tupleExact _) (wpAny_newObj_type (wpAny_pure ⟨_, rfl, wpAny_pure h⟩) hok)
      | exact wpAny_bind (m := Builtin.Tuple.tupleExact _) (wpAny_newObj_type (wpAny_bind (wpAny_pure (wpAny_pure ⟨_, rfl, wpAny_pure h⟩))) hok)
      | exact wpAny_bind (wpAny_bind (m := Builtin.Tuple.tupleExact _) (wpAny_newObj_type (wpAny_pure (wpAny_pure ⟨_, rfl, wpAny_pure h⟩)) hok))
      | exact wpAny_bind (wpAny_bind (m := Builtin.Tuple.tupleExact _) (wpAny_newObj_type (wpAny_pure ⟨_, rfl, wpAny_pure h⟩) hok))
end

def tRevT (K : PySem.W.Frag) (te : TE) : TE := fun σ H Q => te σ H fun x H1 => ∃ a xs, x = .ref a ∧ SqT K H1 a xs ∧ ∀ p, H1 p = none → Q (.ref p) (upd H1 p (.tup xs.reverse))
theorem pe_revT {X : Cx} {e : Expr} {te : TE} {k : Nat} {p1 p2 p3 pos : Pos} (he : PE X e te) : PE X (.Subscript e (.Slice none none (some (.UnaryOp .USub (.Constant (.int 1) k p1) p2)) p3) pos) (tRevT X.K te) := by
  refine ⟨fun pins s σ H Q I h => Subscript_ (thn (he.run pins s σ H _ I h) fun v s1 ⟨x, H1, I1, r1, a, xs, ex, hx, q⟩ => ?_)⟩
  subst ex
  cases r1
  have hm : PO X (some (.UnaryOp .USub (.Constant (.int 1) k p1) p2)) (tPart (tUn (rU fun i => .int (-i)) (tC (.int 1)))) := po_some (pe_un un_neg pe_int)
  refine wpAny_Slice (thn (po_none.run pins s1 σ H1 (fun o H2 => o = none ∧ H2 = H1) I1 ⟨rfl, rfl⟩) fun vl s2 ⟨l, H2, I2, pl, el, e2⟩ => ?_)
  subst el e2
  refine thn (po_none.run pins s2 σ H2 (fun o H3 => o = none ∧ H3 = H2) I2 ⟨rfl, rfl⟩) fun vu s3 ⟨u, H3, I3, pu, eu, e3⟩ => ?_
  subst eu e3
  refine thn (hm.run pins s3 σ H3 (fun o H4 => o = some (-1) ∧ H4 = H3) I3 ⟨1, rfl, -1, rfl, rfl, rfl⟩) fun vs s4 ⟨o, H4, I4, ps, eo, e4⟩ => ?_
  subst eo e4
  have I5 : Inv X pins σ H4 { s4 with heap := s4.heap.push { cls := .type "slice", data := .fields #[vl, vu, vs] } } := I4.kept (t' := s4.toks) fun b ob z => Heap.get?_push_of_some _ z
  obtain ⟨its, r, ht, hz⟩ := I5.tuple hx
  have hl := r.length
  show wpAny (model X.prog X.w) X.A (subscriptTail e (.Slice none none (some (.UnaryOp .USub (.Constant (.int 1) k p1) p2)) p3) (.ref a) (.ref s4.heap.objs.size)) (EP X pins σ Q) X.xe { s4 with heap := s4.heap.push { cls := .type "slice", data := .fields #[vl, vu, vs] } }
  refine tail_any (ops := [.ref a, .ref s4.heap.objs.size]) ht.typeIs PyProof.Rows.slot_tuple_getitem.lookup ?_ (by with_unfolding_all rfl)
  refine getItem_back ht (Heap.IsSliceOf.new _ vl vu vs) pl pu ps (by rw [List.size_toArray]; omega) ?_
  refine ⟨.ref _, _, I5.laid (t' := s4.toks) (o := .tup xs.reverse) (fun b ob z => Heap.get?_push_of_some _ z) (Nat.le_refl _) ?_, rfl, q _ (I5.hok.fresh (Nat.le_refl _))⟩
  exact ⟨by rw [List.length_reverse]; exact hz, _, r.reverse, IsTup.new _ _⟩
end Ka
/-! sorted(rows, key=f), f(row) = (len(row), row), rows of texts. -/
namespace Ka
open PySem PySem.Spec PyProof.Rows L2 PySem.W

/-- a row of texts as data, and its key -/
def rowD (r : List Str) : PyData := .tuple (r.map .str)
def keyOf (r : List Str) : PyData := .tuple [.int r.length, rowD r]
/-- the order of rows -/
def rowLe : List Str → List Str → Bool := dataLe false keyOf

theorem reads_strs {h : Heap} : ∀ {zs : List Str} {us : List Value}, Vals (zs.map V.str) us → ReadsAll h us (zs.map .str) []
  | [], [], _ => .nil
  | z :: zs, u :: us, r => by
    cases r with
    | cons a b =>
      obtain ⟨t, rfl⟩ := a
      exact ReadsAll.cons (as := []) (bs := []) (.str z t) (reads_strs b)
  | [], _ :: _, r => nomatch r
  | _ :: _, [], r => nomatch r

theorem alike_strs : ∀ (a b : List Str), alikeAll (a.map PyData.str) (b.map PyData.str) = true
  | [], _ => by simp [alikeAll]
  | _ :: _, [] => by simp [alikeAll]
  | x :: a, y :: b => by
    rw [List.map_cons, List.map_cons, alikeAll, alike_strs a b]
    simp [alike]
theorem alike_keys (a b : List Str) : alike (keyOf a) (keyOf b) = true := by
  unfold keyOf rowD
  simp [alike, alikeAll, alike_strs]
theorem depth_strs : ∀ a : List Str, PyData.depthAll (a.map PyData.str) ≤ 1
  | [] => by simp [PyData.depthAll]
  | x :: a => by
    have := depth_strs a
    rw [List.map_cons]
    simp only [PyData.depthAll, PyData.depth]
    omega
theorem depth_key (a : List Str) : (keyOf a).depth ≤ 3 := by
  have := depth_strs a
  unfold keyOf rowD
  simp only [PyData.depth, PyData.depthAll]
  omega

section
variable {prog : Program} {w : World} {A : Around} {E : Value → Shared → Prop} {s : Shared}
/-- what the tuple (len(x), x) is worth, where x holds a row -/
theorem key_expr {env : Env} {a : Addr} {zs : List Str} {its : List Value} {x : Str} {p1 p2 p3 p4 p5 : Pos} {k : Nat} (hsx : starEach [.Name x p2] env = [(false, eval (.Name x p2) env)])
    (hst : starEach [.Call (.Name "len" p1) [.Name x p2] [] p3, .Name x p4] env = [(false, eval (.Call (.Name "len" p1) [.Name x p2] [] p3) env), (false, eval (.Name x p4) env)])
    (hrow : ∀ (p : Pos) (Q : Value → Shared → Prop) (tk : Nat), Q (.ref a) { s with toks := tk } → wpAny (model prog w) A (eval (.Name x p) env) Q E { s with toks := tk })
    (hlen : ∀ (Q : Value → Shared → Prop), Q (.builtin "len") s → wpAny (model prog w) A (eval (.Name "len" p1) env) Q E s)
    (rv : Vals (zs.map V.str) its) (ht : IsTup s.heap a its.toArray) (hz : zs.length ≤ sizeLine) : wpAny (model prog w) A (eval (.Tuple [.Call (.Name "len" p1) [.Name x p2] [] p3, .Name x p4] k p5) env) (KeyPure (keyOf zs) s) E s := by
  have hl := rv.length
  have hs : sizeLine = 16777216 := sizeLine_eq
  rw [List.length_map] at hl
  refine wpAny_Tuple_spliced ?_
  rw [hst]
  refine Calls.spliced_cons (wpAny_Call_Name_kw (hlen _ (PyProof.Rows.callWith_builtin1 ?_ (by rw [hsx]; rfl) rfl)))
  rw [hsx]
  refine Calls.spliced_cons (hrow p2 _ s.toks (Calls.spliced_nil ?_))
  refine len_tuple ht (by rw [List.size_toArray]; omega) ?_
  refine Calls.spliced_cons (hrow p4 _ _ (Calls.spliced_nil ⟨by show 2 ≤ sizeLine; rw [hs]; decide, ?_⟩))
  refine ⟨_, _, rfl, fun b o e => Heap.get?_push_of_some _ e, ?_⟩
  refine Reads.tuple (Heap.get?_push_size _ rfl) rfl rfl (ReadsAll.cons (as := []) (bs := []) ?_ (ReadsAll.cons (as := []) (bs := []) ?_ .nil))
  · have e : ((its.toArray.size : Nat) : Int) = zs.length := by rw [List.size_toArray, hl]
    rw [e]
    exact .int _ _
  · obtain ⟨o, ho, hc, n, hd⟩ := ht
    exact Reads.keeps (fun b o e => Heap.get?_push_of_some _ e) (Reads.tuple ho hc hd (reads_strs rv))

/-- the frame of such a def: where its names are found -/
theorem key_frame {scope : Scope} {qual x : Str} {f a : Addr} {cd : Value} {clos : List (Str × Addr)} {mg mb : Str → Option Value} {zs : List Str} {its : List Value} {p1 p2 p3 p4 p5 : Pos} {k : Nat} {h₁ : Heap} {tk : Nat}
    (hk : scope.kind = .function) (hx : scope.names.lookup x = some .local) (hl : scope.names.lookup ("len" : Str) = some .globalImplicit) (hdx : (x == ("__debug__" : Str)) = false)
    (hg : s.heap.Ns mainGlobals mg) (hm : mg ("len" : Str) = none) (hb : s.heap.Ns builtinsNs mb) (hv : mb ("len" : Str) = some (.builtin "len"))
    (hns : h₁.Ns s.heap.objs.size fun y => [(x, Value.ref a)].reverse.lookup y) (kp : ∀ b o, s.heap.get? b = some o → h₁.get? b = some o) (rv : Vals (zs.map V.str) its) (ht : IsTup s.heap a its.toArray) (hz : zs.length ≤ sizeLine) :
    wpAny (model prog w) A (eval (.Tuple [.Call (.Name "len" p1) [.Name x p2] [] p3, .Name x p4] k p5) (newEnv scope s.heap.objs.size mainGlobals clos qual (some f) cd none builtinsNs)) (KeyPure (keyOf zs) s) E { s with heap := h₁, toks := tk } := by
  have nsk : ∀ {b : Addr} {m : Str → Option Value}, s.heap.Ns b m → h₁.Ns b m := fun ⟨o, es, ep, e, r⟩ => ⟨o, es, ep, kp _ _ e, r⟩
  have hrow : ∀ (p : Pos) (Q : Value → Shared → Prop) (tk' : Nat), Q (.ref a) { s with heap := h₁, toks := tk' } → wpAny (model prog w) A (eval (.Name x p) (newEnv scope s.heap.objs.size mainGlobals clos qual (some f) cd none builtinsNs)) Q E { s with heap := h₁, toks := tk' } :=
    fun p Q tk' q => wpAny_Name (wpAny_loadName_local (m := fun y => [(x, Value.ref a)].reverse.lookup y) hk hx hns (by simp) q) hdx
  have hlen : ∀ (Q : Value → Shared → Prop), Q (.builtin "len") { s with heap := h₁, toks := tk } → wpAny (model prog w) A (eval (.Name "len" p1) (newEnv scope s.heap.objs.size mainGlobals clos qual (some f) cd none builtinsNs)) Q E { s with heap := h₁, toks := tk } :=
    fun Q q => Calls.Name_function_global hk hl (Calls.loadGlobal_builtin (nsk hg) hm (nsk hb) hv q) (by decide)
  have ht' : IsTup h₁ a its.toArray := let ⟨o, ho, r⟩ := ht; ⟨o, kp _ _ ho, r⟩
  refine wpAny_mono (key_expr (s := { s with heap := h₁, toks := tk }) (by rfl) (by rfl) hrow hlen rv ht' hz) (fun v s' q => ?_) fun _ _ e => e
  obtain ⟨h', tk', rfl, k', r⟩ := q
  exact ⟨h', tk', rfl, fun b o e => k' b o (kp b o e), r⟩

/-- def f(x): return (len(x), x) -/
theorem call_keyDef {name qual : Str} {params : Arguments} {scope : Scope} {dV kV doc pm cdv ct : Value} {an : Option Addr} {x : Str} {f a : Addr} {o : Obj} {mg mb : Str → Option Value} {zs : List Str} {its : List Value} {p1 p2 p3 p4 p5 p6 : Pos} {k : Nat}
    (ho : s.heap.get? f = some o) (hd : o.data = .func (fnOf name qual params [.Return (some (.Tuple [.Call (.Name "len" p1) [.Name x p2] [] p3, .Name x p4] k p5)) p6] scope dV kV doc pm an cdv ct))
    (hroom : A.depth < recursionLimit) (hlim : s.heap.NoLimit) (hcd : s.heap.CodeRec cdv qual) (hbind : bindArgs (fnOf name qual params [.Return (some (.Tuple [.Call (.Name "len" p1) [.Name x p2] [] p3, .Name x p4] k p5)) p6] scope dV kV doc pm an cdv ct) ⟨[.ref a], []⟩ = pure [(x, .ref a)])
    (hk : scope.kind = .function) (hco : scope.isCoroutine = false) (hge : scope.isGenerator = false) (hc : ∀ y ∈ scope.names, y.2 ≠ .cell) (hx : scope.names.lookup x = some .local) (hl : scope.names.lookup ("len" : Str) = some .globalImplicit) (hdx : (x == ("__debug__" : Str)) = false)
    (hg : s.heap.Ns mainGlobals mg) (hm : mg ("len" : Str) = none) (hb : s.heap.Ns builtinsNs mb) (hv : mb ("len" : Str) = some (.builtin "len")) (rv : Vals (zs.map V.str) its) (ht : IsTup s.heap a its.toArray) (hz : zs.length ≤ sizeLine) :
    wpAny (model prog w) A (call (.ref f) [.ref a]) (KeyPure (keyOf zs) s) E s := by
  refine wpAny_call (codeAny_mono (R := fun r s' => ∃ v, r = .ok (.ret v) ∧ KeyPure (keyOf zs) s v s') ?_ fun r s' ⟨v, e, q⟩ => by subst e; exact q)
  refine codeAny_call_function hroom ho hd hco hge rfl hcd ?_
  rw [hbind]
  refine wpAny_pure (wpAny_newFunctionEnv hc (fun y hy => by
    have e : y = (x, Value.ref a) := by simpa using hy
    rw [e]
    exact hx) (fun h₁ hns hsb => ⟨hlim.fresh _ hsb, ?_⟩) hk)
  refine codeAny_func (wpAny_execs_cons (wpAny_Return_some ?_))
  refine wpAny_mono (key_frame (E := fun _ _ => False) hk hx hl hdx hg hm hb hv hns (fun b o' e => hsb.extBut b o' (Nat.ne_of_lt (Heap.lt_size e)) (Heap.get?_push_of_some _ e)) rv ht hz) (fun v s' q => ⟨v, rfl, q⟩) fun _ _ z => z.elim

/-- lambda x: (len(x), x) -/
theorem call_keyLam {name qual : Str} {params : Arguments} {scope : Scope} {pm ct : Value} {c' : Addr} {x : Str} {f a : Addr} {clos : List (Str × Addr)} {mg mb : Str → Option Value} {zs : List Str} {its : List Value} {p1 p2 p3 p4 p5 : Pos} {k : Nat}
    (ho : s.heap.get? f = some (kla_obj name qual params (.Tuple [.Call (.Name "len" p1) [.Name x p2] [] p3, .Name x p4] k p5) scope clos pm c' ct))
    (hroom : A.depth < recursionLimit) (hlim : s.heap.NoLimit) (hcd : s.heap.CodeRec (.ref c') qual) (hbind : bindArgs (kla_fn name qual params (.Tuple [.Call (.Name "len" p1) [.Name x p2] [] p3, .Name x p4] k p5) scope clos pm (.ref c') ct) ⟨[.ref a], []⟩ = pure [(x, .ref a)])
    (hk : scope.kind = .function) (hco : scope.isCoroutine = false) (hge : scope.isGenerator = false) (hc : ∀ y ∈ scope.names, y.2 ≠ .cell) (hx : scope.names.lookup x = some .local) (hl : scope.names.lookup ("len" : Str) = some .globalImplicit) (hdx : (x == ("__debug__" : Str)) = false)
    (hg : s.heap.Ns mainGlobals mg) (hm : mg ("len" : Str) = none) (hb : s.heap.Ns builtinsNs mb) (hv : mb ("len" : Str) = some (.builtin "len")) (rv : Vals (zs.map V.str) its) (ht : IsTup s.heap a its.toArray) (hz : zs.length ≤ sizeLine) :
    wpAny (model prog w) A (call (.ref f) [.ref a]) (KeyPure (keyOf zs) s) E s := by
  refine wpAny_call (codeAny_mono (R := fun r s' => ∃ v, r = .ok (.ret v) ∧ KeyPure (keyOf zs) s v s') ?_ fun r s' ⟨v, e, q⟩ => by subst e; exact q)
  refine kla_callFunE hroom ho rfl hco hge rfl hcd ?_
  rw [hbind]
  refine wpAny_pure (wpAny_newFunctionEnv hc (fun y hy => by
    have e : y = (x, Value.ref a) := by simpa using hy
    rw [e]
    exact hx) (fun h₁ hns hsb => ⟨hlim.fresh _ hsb, ?_⟩) hk)
  refine kla_codeExpr ?_
  refine wpAny_mono (key_frame (E := fun _ _ => False) hk hx hl hdx hg hm hb hv hns (fun b o' e => hsb.extBut b o' (Nat.ne_of_lt (Heap.lt_size e)) (Heap.get?_push_of_some _ e)) rv ht hz) (fun v s' q => ⟨v, rfl, q⟩) fun _ _ z => z.elim
end

/-! ### over the layer -/
/-- a row of texts at an address -/
abbrev Row := Addr × List Str
def leRow (r q : Row) : Bool := rowLe r.2 q.2
/-- a call of the key: it keeps the heap, and gives the row's key -/
def KeyAt (X : Cx) (s : Shared) (f : Addr) : Prop := ∀ (h : Heap) (tk : Nat), (∀ b o, s.heap.get? b = some o → h.get? b = some o) → ∀ (a : Addr) (zs : List Str) (its : List Value), Vals (zs.map V.str) its → IsTup h a its.toArray → zs.length ≤ sizeLine →
  wpAny (model X.prog X.w) X.A.in1.in1 (call (.ref f) [.ref a]) (KeyPure (keyOf zs) { s with heap := h, toks := tk }) (fun _ _ => False) { s with heap := h, toks := tk }

theorem rows_each {rs : List Row} {us : List Value} (r : Vals (rs.map fun r => V.ref r.1) us) : EachIs (fun v (b : Row) => v = Value.ref b.1) us rs := by
  induction rs generalizing us with
  | nil =>
    cases r
    exact .nil
  | cons x rs ih =>
    cases r with
    | cons a b =>
      cases a
      exact .cons rfl (ih b)
theorem each_rows {rs : List Row} {us : List Value} (e : EachIs (fun v (b : Row) => v = Value.ref b.1) us rs) : Vals (rs.map fun r => V.ref r.1) us := by
  induction e with
  | nil => exact .nil
  | cons h t ih =>
    subst h
    exact .cons rfl ih
theorem all_alike (rs : List Row) : AllAlike (rs.map fun r => keyOf r.2) := by
  intro d hd d' hd'
  obtain ⟨r, _, rfl⟩ := List.mem_map.mp hd
  obtain ⟨q, _, rfl⟩ := List.mem_map.mp hd'
  exact alike_keys _ _
theorem all_sortable (rs : List Row) : Sortable (rs.map fun r => keyOf r.2) := Sortable.tuples fun r => ⟨_, _, rfl⟩

section
variable {X : Cx} {pins : List (Addr × Obj)} {σ : L2.St} {H : Hp} {s : Shared}
theorem sorted_list {a f : Addr} {rs : List Row} {Q : VK} (I : Inv X pins σ H s) (hu : X.A.units + 64 < cLine) (hs : SqL X.K H a (rs.map fun r => V.ref r.1)) (hr : ∀ r ∈ rs, SqT X.K H r.1 (r.2.map V.str)) (hf : KeyAt X s f)
    (q : ∀ p, H p = none → Q (.ref p) (upd H p (.lst ((rs.mergeSort leRow).map fun r => V.ref r.1)))) : wpAny (model X.prog X.w) X.A (call (.builtin "sorted") [.ref a] [(Str.ofString "key", .ref f)]) (EP X pins σ Q) X.xe s := by
  obtain ⟨its, rv, hl, hz⟩ := I.list hs
  rw [List.length_map] at hz
  have e := rows_each rv
  refine sorted_key_data (b := false) (fun r : Row => keyOf r.2) hl.isList e (all_alike rs) (all_sortable rs) hz (fun r _ => ?_) (ksk_s1 _ _) (fun _ => ksk_l1 _ _) (fun _ => ksk_t1 _ _) (fun v r ev hm h tk kp => ?_) fun out c h' tk kp hn hD hlen eo => ?_
  · have := depth_key r.2
    omega
  · subst ev
    obtain ⟨its', rv', ht, hz'⟩ := I.tuple (hr r hm)
    rw [List.length_map] at hz'
    obtain ⟨o, ho, hr'⟩ := ht
    exact hf h tk kp r.1 r.2 its' rv' ⟨o, kp _ _ ho, hr'⟩ hz'
  · have hle : ((rs.mergeSort leRow).map fun r => V.ref r.1).length ≤ sizeLine := by
      rw [List.length_map, List.length_mergeSort]
      exact hz
    refine ⟨.ref _, _, I.laid (t' := tk) (o := .lst ((rs.mergeSort leRow).map fun r => V.ref r.1)) kp (Nat.le_succ _) ⟨hle, out, c, each_rows eo, hD⟩, rfl, q _ (I.hok.fresh (Nat.le_succ _))⟩

/-- the keys of a dict of rows -/
theorem dict_rows {kvs : List (List Key × V)} {xs : List (List Key × Addr × Value)} (r : KT H kvs xs) {rows : List (List Str)} (hk : kvs.map (·.1) = rows.map fun r => r.map Sum.inr) :
    ∃ rs : List Row, rs.map (·.2) = rows ∧ rs.map (·.1) = xs.map (fun x => x.2.1) ∧ ∀ r ∈ rs, H r.1 = some (.tup (r.2.map V.str)) := by
  induction r generalizing rows with
  | nil =>
    cases rows with
    | nil => exact ⟨[], rfl, rfl, fun r h => by cases h⟩
    | cons x y => simp at hk
  | @cons p q ps qs hq t ih =>
    cases rows with
    | nil => simp at hk
    | cons x rows =>
      rw [List.map_cons, List.map_cons, List.cons.injEq] at hk
      obtain ⟨rs, h1, h2, h3⟩ := ih hk.2
      refine ⟨(q.2.1, x) :: rs, by rw [List.map_cons, h1], by rw [List.map_cons, List.map_cons, h2], fun r hr => ?_⟩
      rcases List.mem_cons.mp hr with e | hr
      · subst e
        have e2 := hq.2.1
        rw [hk.1, List.map_map] at e2
        exact e2
      · exact h3 r hr

theorem sorted_dict {a f : Addr} {kvs : List (List Key × V)} {rows : List (List Str)} {Q : VK} (I : Inv X pins σ H s) (hc : X.calm = true) (hu : X.A.units + 64 < cLine) (hd : H a = some (.dT kvs)) (hk : kvs.map (·.1) = rows.map fun r => r.map Sum.inr) (hf : KeyAt X s f)
    (q : ∀ (rs : List Row) (p : Addr), rs.map (·.2) = rows.mergeSort rowLe → (∀ r ∈ rs, H r.1 = some (.tup (r.2.map V.str))) → H p = none → Q (.ref p) (upd H p (.lst (rs.map fun r => V.ref r.1)))) :
    wpAny (model X.prog X.w) X.A (call (.builtin "sorted") [.ref a] [(Str.ofString "key", .ref f)]) (EP X pins σ Q) X.xe s := by
  obtain ⟨z, lo, xs, rel, o, es, ep, ho, hx, hdat, hes, hno⟩ := I.hok a _ hd
  obtain ⟨rs, h1, h2, h3⟩ := dict_rows rel hk
  have hlen : rs.length = es.size := by
    have e1 := congrArg List.length h2
    have e2 := congrArg List.length hes
    rw [List.length_map, List.length_map] at e1
    rw [Array.length_toList, List.length_map] at e2
    omega
  have hz : rs.length ≤ sizeLine := by
    have e1 := congrArg List.length h2
    have e2 := Paired.length rel
    rw [List.length_map, List.length_map] at e1
    omega
  have raw : s.heap.DictRaw a es ep := ⟨o, ho, hx, hdat⟩
  refine call_function_entry_kw PyProof.Rows.kind_sorted PyProof.Rows.plain_sorted PyProof.Rows.entry_sorted (ksk_s1 _ _) ?_
  unfold Builtin.«sorted»
  refine wpAny_bind (m := checkCount "sorted" 1 1 _) (wpAny_pure ?_)
  refine wpAny_bind (kdu_collect (A := X.A.in1) (KdlSrc.rawDict (es := es) (ep := ep) lo) (I.ok.hd hc) raw (by omega) fun h' tk acc hkp hacc => ?_)
  have hal : acc.toList.length = rs.length := by rw [Array.length_toList, hacc.1, hlen]
  have each : EachIs (fun v (b : Row) => v = Value.ref b.1) acc.toList rs := by
    refine EachIs.of_zip hal fun p hp => ?_
    obtain ⟨i, hi⟩ := List.getElem?_of_mem hp
    rw [List.getElem?_zip_eq_some] at hi
    obtain ⟨hia, hib⟩ := hi
    obtain ⟨hsz, ev⟩ := hacc.2 i p.1 (by rw [← Array.getElem?_toList]; exact hia)
    have e1 : (rs.map (·.1))[i]? = some p.2.1 := by rw [List.getElem?_map, hib]; rfl
    have e2 : es.toList[i]? = some es[i] := by rw [Array.getElem?_toList, Array.getElem?_eq_getElem hsz]
    rw [h2, List.getElem?_map] at e1
    rw [hes, List.getElem?_map] at e2
    cases ex : xs[i]? with
    | none =>
      rw [ex] at e1
      cases e1
    | some x =>
      rw [ex] at e1 e2
      have e1' : x.2.1 = p.2.1 := Option.some.inj e1
      have e2' := Option.some.inj e2
      rw [ev, ← e2', ← e1']
      rfl
  have I1 : Inv X pins σ H { s with heap := h', toks := tk } := I.kept hkp
  refine wpAny_bind (wpAny_newList ?_ (by omega))
  have hoL : (h'.push (seqObj "list" acc.toList.toArray 0)).get? h'.objs.size = some (seqObj "list" acc.toList.toArray 0) := Heap.get?_push_size _ rfl
  have ne : ∀ {b : Addr} {o : Obj}, s.heap.get? b = some o → b ≠ h'.objs.size := fun e => Nat.ne_of_lt (Heap.lt_size (hkp _ _ e))
  refine wpAny_bind (wpAny_holding ?_)
  show wpAny (model X.prog X.w) X.A.in1 (call (.builtin "list.sort") [.ref h'.objs.size] [(Str.ofString "key", .ref f)]) _ _ { s with heap := h'.push (seqObj "list" acc.toList.toArray 0), toks := tk }
  refine list_sort_key_data (b := false) (s := { s with heap := h'.push (seqObj "list" acc.toList.toArray 0), toks := tk }) (fun r : Row => keyOf r.2) hoL each (all_alike rs) (all_sortable rs) hz (fun r _ => ?_) (ksk_l1 _ _) (ksk_t1 _ _) (fun v r ev hm h tk kp => ?_) fun out c h'' tk' kp hD hle eo => ?_
  · have hdep := depth_key r.2
    show X.A.units + 1 + 1 + (keyOf r.2).depth < cLine
    omega
  · subst ev
    obtain ⟨its', rv', ht, hz'⟩ := I.tuple (.inl (.inl (h3 r hm)))
    rw [List.length_map] at hz'
    obtain ⟨o, ho, hr'⟩ := ht
    have up : ∀ b o, s.heap.get? b = some o → h.get? b = some o := fun b o e => kp b o (ne e) (Heap.get?_push_of_some _ (hkp _ _ e))
    exact hf h tk up r.1 r.2 its' rv' ⟨o, up _ _ ho, hr'⟩ hz'
  · have hle2 : ((rs.mergeSort leRow).map fun r => V.ref r.1).length ≤ sizeLine := by
      rw [List.length_map, List.length_mergeSort]
      exact hz
    have up : ∀ b o, h'.get? b = some o → h''.get? b = some o := fun b o e => kp b o (Nat.ne_of_lt (Heap.lt_size e)) (Heap.get?_push_of_some _ e)
    refine wpAny_pure ⟨_, rfl, .ref h'.objs.size, _, I1.laid (t' := tk') (o := .lst ((rs.mergeSort leRow).map fun r => V.ref r.1)) up (Nat.le_refl _) ⟨hle2, out, c, each_rows eo, hD⟩, rfl, q _ _ ?_ (fun r hr => h3 r (List.mem_mergeSort.mp hr)) (I1.hok.fresh (Nat.le_refl _))⟩
    rw [← h1]
    exact sort_maps (fun r : Row => r.2) fun _ _ _ _ => rfl
end
end Ka
/-! sorted(e, key=f) of rows: f a def of the text, or a lambda. -/
namespace Ka
open PySem PySem.Spec PyProof.Rows L2 PySem.W

section
variable {X : Cx} {pins : List (Addr × Obj)} {σ : L2.St} {H : Hp} {s : Shared}
theorem deep2 {k : Nat} (hr : Room k X.A) : X.A.in1.in1.depth < recursionLimit := hr.depth
theorem ns_up {h h' : Heap} (kp : ∀ b o, h.get? b = some o → h'.get? b = some o) {b : Addr} {m : Str → Option Value} (n : h.Ns b m) : h'.Ns b m :=
  let ⟨o, es, ep, e, r⟩ := n; ⟨o, es, ep, kp _ _ e, r⟩
theorem code_up {h h' : Heap} (kp : ∀ b o, h.get? b = some o → h'.get? b = some o) {c : Value} {q : Str} (n : h.CodeRec c q) : h'.CodeRec c q :=
  let ⟨c, oc, vs, t, e1, e2, r⟩ := n; ⟨c, oc, vs, t, e1, kp _ _ e2, r⟩

/-- a def of the text that gives the key -/
theorem keyAt_def {name qual : Str} {params : Arguments} {scope : Scope} {dV kV doc pm cdv ct oc : Value} {an od : Option Addr} {osl : Array (Option Value)} {x : Str} {f : Addr} {p1 p2 p3 p4 p5 p6 : Pos} {k j : Nat} (I : Inv X pins σ H s) (hr : Room j X.A)
    (lk : X.K.lookup f = some ⟨oc, od, .func (fnOf name qual params [.Return (some (.Tuple [.Call (.Name "len" p1) [.Name x p2] [] p3, .Name x p4] k p5)) p6] scope dV kV doc pm an cdv ct), osl⟩) (hcd : codeIn X.K cdv qual = true) (hm : X.mg "len" = none)
    (hbind : ∀ v : Value, bindArgs (fnOf name qual params [.Return (some (.Tuple [.Call (.Name "len" p1) [.Name x p2] [] p3, .Name x p4] k p5)) p6] scope dV kV doc pm an cdv ct) ⟨[v], []⟩ = pure [(x, v)])
    (hk : scope.kind = .function) (hco : scope.isCoroutine = false) (hge : scope.isGenerator = false) (hc : ∀ y ∈ scope.names, y.2 ≠ .cell) (hx : scope.names.lookup x = some .local) (hl : scope.names.lookup ("len" : Str) = some .globalImplicit) (hdx : (x == ("__debug__" : Str)) = false) : KeyAt X s f := by
  intro h tk kp a zs its rv ht hz
  obtain ⟨mb, b1, b2⟩ := I.mod.blt
  exact call_keyDef (s := { s with heap := h, toks := tk }) (kp _ _ (I.kIn _ _ lk)) rfl (deep2 hr) (I.nolimit.keeps kp) (code_up kp (codeRec_of I.kIn hcd)) (hbind _) hk hco hge hc hx hl hdx (ns_up kp (I.mod.glob.keeps I.bk)) hm (ns_up kp (b1.keeps I.bk)) ((b2 "len" (by decide)).trans PySem.boot_len) rv ht hz

/-- a lambda that gives the key -/
theorem keyAt_lam {params : Arguments} {scope : Scope} {pm ct : Value} {c' : Addr} {q : Str} {x : Str} {f : Addr} {clos : List (Str × Addr)} {p1 p2 p3 p4 p5 : Pos} {k j : Nat} (I : Inv X pins σ H s) (hr : Room j X.A)
    (hf : s.heap.get? f = some (kla_obj "<lambda>" q params (.Tuple [.Call (.Name "len" p1) [.Name x p2] [] p3, .Name x p4] k p5) scope clos pm c' ct)) (hcd : H c' = some (LamX.CodeO c' q)) (hm : X.mg "len" = none)
    (hbind : ∀ v : Value, bindArgs (kla_fn "<lambda>" q params (.Tuple [.Call (.Name "len" p1) [.Name x p2] [] p3, .Name x p4] k p5) scope clos pm (.ref c') ct) ⟨[v], []⟩ = pure [(x, v)])
    (hk : scope.kind = .function) (hco : scope.isCoroutine = false) (hge : scope.isGenerator = false) (hc : ∀ y ∈ scope.names, y.2 ≠ .cell) (hx : scope.names.lookup x = some .local) (hl : scope.names.lookup ("len" : Str) = some .globalImplicit) (hdx : (x == ("__debug__" : Str)) = false) : KeyAt X s f := by
  intro h tk kp a zs its rv ht hz
  obtain ⟨mb, b1, b2⟩ := I.mod.blt
  obtain ⟨⟨oc, vs, t, hoc, hdc, hvc⟩, _, _⟩ := I.hok c' _ hcd
  exact call_keyLam (s := { s with heap := h, toks := tk }) (kp _ _ hf) (deep2 hr) (I.nolimit.keeps kp) ⟨c', oc, vs, t, rfl, kp _ _ hoc, hdc, hvc⟩ (hbind _) hk hco hge hc hx hl hdx (ns_up kp (I.mod.glob.keeps I.bk)) hm (ns_up kp (b1.keeps I.bk)) ((b2 "len" (by decide)).trans PySem.boot_len) rv ht hz
end

section
variable {X : Cx}
/-- sorted(e, key=f), e a list of rows or a dict of rows -/
def rSortK (K : PySem.W.Frag) (f : Addr) : List V → List V → Hp → VK → Prop := fun vs zs H Q => zs = [.ref f] ∧
  ((∃ (a : Addr) (rs : List Row), vs = [.ref a] ∧ SqL K H a (rs.map fun r => V.ref r.1) ∧ (∀ r ∈ rs, SqT K H r.1 (r.2.map V.str)) ∧ ∀ p, H p = none → Q (.ref p) (upd H p (.lst ((rs.mergeSort leRow).map fun r => V.ref r.1)))) ∨
   (∃ (a : Addr) (kvs : List (List L2.Key × V)) (rows : List (List Str)), vs = [.ref a] ∧ H a = some (.dT kvs) ∧ kvs.map (·.1) = rows.map (fun r => r.map Sum.inr) ∧
     ∀ (rs : List Row) (p : Addr), rs.map (·.2) = rows.mergeSort rowLe → (∀ r ∈ rs, H r.1 = some (.tup (r.2.map V.str))) → H p = none → Q (.ref p) (upd H p (.lst (rs.map fun r => V.ref r.1)))))
theorem cr_sortRows {f : Addr} (hc : X.calm = true) (hu : X.A.units + 64 < cLine) (hf : ∀ (pins : List (Addr × Obj)) (s : Shared) (σ : L2.St) (H : Hp), Inv X pins σ H s → KeyAt X s f) : CallRK X (.builtin "sorted") [Str.ofString "key"] (rSortK X.K f) := by
  intro pins s σ H vs zs us ws Q I r rz h
  obtain ⟨rfl, h⟩ := h
  obtain ⟨w1, rfl, e1⟩ := vals1 rz
  obtain rfl : w1 = Value.ref f := e1
  rcases h with ⟨a, rs, rfl, hs, hr, q⟩ | ⟨a, kvs, rows, rfl, hd, hk, q⟩
  · obtain rfl := Vals.ref1 r
    exact sorted_list I hu hs hr (hf _ _ _ _ I) q
  · obtain rfl := Vals.ref1 r
    exact sorted_dict I hc hu hd hk (hf _ _ _ _ I) q

/-- sorted(e, key=lambda x: (len(x), x)) -/
def tSortLam (K : PySem.W.Frag) (T : List (Addr × Str)) (te : TE) : TE := fun σ H Q => te σ H fun v H1 => ∃ (a : Addr) (rs : List Row), v = .ref a ∧ SqL K H1 a (rs.map fun r => V.ref r.1) ∧ (∀ r ∈ rs, SqT K H1 r.1 (r.2.map V.str)) ∧ LamX.Tabs T H1 ∧
  ∀ H2 p, LamX.ExtN H1 H2 → LamX.Tabs T H2 → H2 p = none → Q (.ref p) (upd H2 p (.lst ((rs.mergeSort leRow).map fun r => V.ref r.1)))
theorem rd_ext {H H' : Hp} {a : Addr} {u : HO} (h : Rd H a u) (e : LamX.ExtN H H') (hn : ∀ ps, u ≠ .tbl ps) : Rd H' a u := by
  rcases h with h | ⟨o, h⟩
  · exact .inl (e _ _ h hn)
  · exact .inr ⟨o, e _ _ h fun ps z => by cases z⟩
theorem sqL_ext {K : PySem.W.Frag} {H H' : Hp} {a : Addr} {xs : List V} (h : SqL K H a xs) (e : LamX.ExtN H H') : SqL K H' a xs := by
  rcases h with h | h
  · exact .inl (rd_ext h e fun ps z => by cases z)
  · exact .inr h
theorem sqT_ext {K : PySem.W.Frag} {H H' : Hp} {a : Addr} {xs : List V} (h : SqT K H a xs) (e : LamX.ExtN H H') : SqT K H' a xs := by
  rcases h with h | h
  · exact .inl (rd_ext h e fun ps z => by cases z)
  · exact .inr h
theorem pe_sortedLam {T : List (Addr × Str)} {c P : Addr} {params : Arguments} {scope : Scope} {x : Str} {e : Expr} {te : TE} {p lpos kpos pos p1 p2 p3 p4 p5 : Pos} {k j : Nat} (hr : Room j X.A) (hu : X.A.units + 64 < cLine) (hg : Gl X "sorted") (hm : X.mg "sorted" = none) (hml : X.mg "len" = none) (he : PE X e te)
    (TB : LamX.TabB X.base X.mg c P) (hcode : X.env.code = .ref c) (hmT : (P, X.env.qual ++ "<lambda>") ∈ T) (hu2 : ∀ p ∈ T, p.1 = P → p.2 = X.env.qual ++ "<lambda>") (hdef : defaultsOf params X.env = ([], [])) (hfree : ∀ y ∈ scope.names, y.2 ≠ .free)
    (hbind : ∀ (q : Str) (clos : List (Str × Addr)) (pm cd ct v : Value), bindArgs (kla_fn "<lambda>" q params (.Tuple [.Call (.Name "len" p1) [.Name x p2] [] p3, .Name x p4] k p5) scope clos pm cd ct) ⟨[v], []⟩ = pure [(x, v)])
    (hk : scope.kind = .function) (hco : scope.isCoroutine = false) (hge : scope.isGenerator = false) (hc : ∀ y ∈ scope.names, y.2 ≠ .cell) (hx : scope.names.lookup x = some .local) (hl : scope.names.lookup ("len" : Str) = some .globalImplicit) (hdx : (x == ("__debug__" : Str)) = false)
    (h1 : backTo pos (starEach [e] X.env) = (false, eval e X.env) :: backTo pos (starEach [] X.env) := by rfl) :
    PE X (.Call (.Name "sorted" p) [e] [⟨some "key", .Lambda params (.Tuple [.Call (.Name "len" p1) [.Name x p2] [] p3, .Name x p4] k p5) scope lpos, kpos⟩] pos) (tSortLam X.K T te) := by
  refine ⟨fun pins s σ H Q I h => ?_⟩
  refine wpAny_Call_Name_kw (ld_blt (u := .builtin "sorted") I hg hm (by decide +kernel) ?_ (by decide) (by decide))
  refine PyProof.Rows.callWith_kw ?_ h1 (by rw [h1]; rfl) (by rfl) (by rfl)
  rw [h1]
  refine Calls.spliced_cons (thn (he.run pins s σ H _ I h) fun u s1 ⟨v, H1, I1, r1, a, rs, ev, hs, hr', hT, q⟩ => Calls.spliced_nil ?_)
  subst ev
  obtain rfl : u = Value.ref a := r1
  show wpAny _ _ (evalAll [do let v ← eval (.Lambda params (.Tuple [.Call (.Name "len" p1) [.Name x p2] [] p3, .Name x p4] k p5) scope lpos) X.env; standAt pos; pure v]) _ _ s1
  refine wpAny_evalAll_cons (wpAny_bind (LamX.lam_make2 I1 TB hcode hmT hu2 hT hdef (fun y hy e => absurd e (hfree y hy)) fun f c' pm' ctv H2 s2 I2 eN T2 hf hfn hfr hco' => wpAny_bind (wpAny_standAt (wpAny_pure (wpAny_evalAll_nil ?_)))))
  refine sorted_list I2 hu (sqL_ext hs eN) (fun r hr0 => sqT_ext (hr' r hr0) eN) (keyAt_lam I2 hr hf hco' hml (fun v => hbind _ _ _ _ _ v) hk hco hge hc hx hl hdx) fun p' np => q H2 p' eN T2 np
end
end Ka
/-! {k: v for target in iter if ..} whose keys are tuples of texts and ints. -/
namespace Ka
open PySem PySem.Spec PyProof.Rows L2

theorem dT_set {X : Cx} {pins : List (Addr × Obj)} {σ : L2.St} {H : Hp} {s : Shared} {E : Value → Shared → Prop} {D b : Addr} {kvs : List (List L2.Key × V)} {k : List L2.Key} {v : V} {u r : Value} {Q : Unit → Shared → Prop} (hu : X.A.units + 1 < cLine) (I : Inv X pins σ H s) (hD : H D = some (.dT kvs)) (hz : kvs.length < sizeLine)
    (hb : H b = some (.tup (k.map kV))) (ry : RelV (.ref b) u) (rv : RelV v r) (h : ∀ s', Inv X pins σ (upd H D (.dT (putK kvs k v))) s' → Q () s') : wpAny (model X.prog X.w) X.A (dictSet D u r) Q E s := by
  cases (show u = Value.ref b from ry)
  obtain ⟨z, hd, xs, rel, dd⟩ := dt_of I.hok hD
  have hzx : xs.length ≤ sizeLine := by rw [← Paired.length rel]; exact z
  have hl : (putK kvs k v).length ≤ sizeLine := by have := length_putK kvs k v; omega
  refine wpAny_dictSet_heap (hsz := hzx) (knd := tupleKind (mixKind X.prog X.w)) ?_ (key_of I.hok hb) dd fun h' dd' hs => h _ ?_
  · show X.A.units < cLine
    omega
  · obtain ⟨q, es, ep, hq, h2, h3, h4, _, h5⟩ := dd'
    refine d_write I (by rw [hD]; exact True.intro) hs ⟨q, hq⟩ ⟨hl, hd, _, (rel.put k hb rv).keeps fun c ys ec => ?_, q, es, ep, hq, h2, h3, h4, h5⟩
    rw [upd_ne (ne_of ec hD fun z => nomatch z)]
    exact ec

section
variable {X : Cx}
/-- {k: v for target in iter}, keys tuples: D the new dict -/
def tDcT (wi : TI) (g : TG) (tk tv : TE) (vs : List Nat) : TE := fun σ H Q => wi σ H fun J H1 => ∀ D, H1 D = none → ∃ W : Nat → Nat → Hp → Prop, (∃ m, W 0 m (upd H1 D (.dT []))) ∧ ∀ i m H, W i m H →
  (J.stop i H ∧ Q (.ref D) H) ∨ (J.go i H ∧ ∃ Nx : Hp → Prop, (∀ H', Nx H' → ∃ m', m' < m ∧ W (i + 1) m' H') ∧ ∀ x H', J.yld i H x H' → g x (wipe σ vs) H' fun σ2 H2 => wipe σ2 vs = wipe σ vs ∧
    tk σ2 H2 fun y H4 => tv σ2 H4 fun z H5 => ∃ kvs k b, y = .ref b ∧ H5 b = some (.tup (k.map kV)) ∧ H5 D = some (.dT kvs) ∧ kvs.length < sizeLine ∧ Nx (upd H5 D (.dT (putK kvs k z))))

/-- one turn of the block, from the item drawn on -/
theorem dct_turn {Z : Cx} {kx vx tg : Expr} {g : TG} {tk tv : TE} {D : Addr} {τ : L2.St} {vs : List Nat} {H : Hp} {s : Shared} {x : V} {u : Value} {Nx : Hp → Prop} {R : Shared → Prop} {pins : List (Addr × Obj)} {E' : Value → Shared → Prop} (hE : Z.xe = fun _ _ => False) (hu : Z.A.units + 1 < cLine)
    (pg : PG Z tg g) (pk : PE Z kx tk) (pe : PE Z vx tv) (I : Inv Z pins τ H s) (rx : RelV x u)
    (h : g x τ H fun σ2 H2 => wipe σ2 vs = τ ∧ tk σ2 H2 fun y H4 => tv σ2 H4 fun z H5 => ∃ kvs k b, y = .ref b ∧ H5 b = some (.tup (k.map kV)) ∧ H5 D = some (.dT kvs) ∧ kvs.length < sizeLine ∧ Nx (upd H5 D (.dT (putK kvs k z))))
    (fin : ∀ σ2 H' s', wipe σ2 vs = τ → Inv Z pins σ2 H' s' → Nx H' → R s') :
    wpAny (model Z.prog Z.w) Z.A (assign tg Z.env u) (fun _ s₂ => wpAny (model Z.prog Z.w) Z.A (forIn ([] : List Expr) true fun c r => if r = true then do let ok ← isTrue c Z.env (eval c Z.env); pure (ForInStep.yield ok) else pure (ForInStep.yield r)) (fun ok s₃ =>
      if ok = true then wpAny (model Z.prog Z.w) Z.A (eval kx Z.env) (fun kv s₄ => wpAny (model Z.prog Z.w) Z.A (eval vx Z.env) (fun vv s₅ => wpAny (model Z.prog Z.w) Z.A (dictSet D kv vv) (fun _ s₆ => R s₆) E' s₅) E' s₄) E' s₃ else R s₃) E' s₂) E' s := by
  have a1 := pg.run pins s τ H x u _ I rx h
  rw [hE] at a1
  refine thnF a1 fun _ s8 ⟨σ8, H8, I8, hw, q8⟩ => wpAny_tests_nil ?_
  rw [if_pos rfl]
  have a2 := pk.run pins s8 σ8 H8 _ I8 q8
  rw [hE] at a2
  refine thnF a2 fun kv s10 ⟨y, H10, I10, r10, q10⟩ => ?_
  have a3 := pe.run pins s10 σ8 H10 _ I10 q10
  rw [hE] at a3
  refine thnF a3 fun vv s11 ⟨z, H11, I11, r11, kvs, k, b, ey, hb, hD, hz, nx⟩ => ?_
  subst ey
  exact dT_set hu I11 hD hz hb r10 r11 fun s12 I12 => fin σ8 _ s12 hw I12 nx

/-- what stands between two turns of the block -/
def BetweenT (Z : Cx) (fp : List Addr) (tn : Nat → Heap → Prop) (τ : L2.St) (W : Nat → Nat → Hp → Prop) (n : Nat) (s : Shared) : Prop := ∃ i H, Inv Z [] τ H s ∧ tn i s.heap ∧ (∀ b ∈ fp, H b = none) ∧ W i n H

theorem pe_dcT {kx vx tg iter : Expr} {scope : Scope} {own : List (Str × Nat)} {pos : Pos} {wi : TI} {g : TG} {tk tv : TE} (hc : X.calm = true) (hu : X.A.units + 1 < cLine) (hN : X.N.Nodup) (hi : PI X tg iter wi) (ok : BlkOk X.N X.env.scope scope own)
    (hg : ∀ (s : Shared) (H : Hp) (C : Addr) (cl : List (Str × Addr)) (fp : List Addr), PG (X.blk s H scope (compEnvC scope cl C X.env) fp) tg g)
    (hk : ∀ (s : Shared) (H : Hp) (C : Addr) (cl : List (Str × Addr)) (fp : List Addr), PE (X.blk s H scope (compEnvC scope cl C X.env) fp) kx tk)
    (hv : ∀ (s : Shared) (H : Hp) (C : Addr) (cl : List (Str × Addr)) (fp : List Addr), PE (X.blk s H scope (compEnvC scope cl C X.env) fp) vx tv) (hs : ∀ x, foldedSetIterable iter X.env x = pure x := by intro _; rfl) :
    PE X (.DictComp kx vx [⟨tg, iter, [], 0⟩] scope pos) (tDcT wi g tk tv (own.map (·.2))) := by
  refine ⟨fun pins s σ H Q I h => ?_⟩
  rw [arm_eval_DictComp]
  have free : ∀ y ∈ scope.names, y.2 = .free → ∃ c, X.env.cells.lookup y.1 = some c := fun y hy e => (ok.free y hy e).elim (fun k => I.ok.has _ (.inl k)) (fun k => I.ok.has _ (.inr k))
  refine wpAny_comprehension_free rfl hs (closure_ok free) ok.kind (fun y hy e => by rw [ok.uniq y hy, e]) (thn (hi.run pins s σ H _ I h) fun _ s1 hx => thn hx fun _ s2 ⟨it, fp, tn, J, H2, e, I2, T, st2, f2, q⟩ => ?_)
  subst e
  refine wpAny_newObj_type (newEnv_comp ?_)
  generalize hD : s2.heap.objs.size = D
  have nD : H2 D = none := I2.hok.fresh (Nat.le_of_eq hD)
  obtain ⟨W, ⟨m0, w0⟩, turn⟩ := q D nD
  generalize hs3 : ({ s2 with heap := s2.heap.push { cls := .type "dict", data := .dict #[] } } : Shared) = s3
  have h3 : s3.heap = s2.heap.push { cls := .type "dict", data := .dict #[] } := by rw [← hs3]
  have I3 : Inv X pins σ (upd H2 D (.dT [])) s3 := by
    subst hs3 hD
    exact I2.laid (t' := s2.toks) (fun b o z => Heap.get?_push_of_some _ z) (Nat.le_refl _) (dt_empty s2.heap I2.big)
  have f3 : ∀ b ∈ fp, FpOk X pins (upd H2 D (.dT [])) b ∧ b < s3.heap.objs.size := fun b hb => by
    obtain ⟨o, e, _⟩ := T.obj _ _ st2 b hb
    have lt : b < s2.heap.objs.size := Heap.lt_size e
    refine ⟨⟨?_, (f2 b hb).2⟩, by rw [h3, Heap.size_push]; exact Nat.lt_succ_of_lt lt⟩
    rw [upd_ne (by rw [← hD]; exact Nat.ne_of_lt lt)]
    exact (f2 b hb).1
  have I4 := block_start I3 ok hN f3
  have pg := hg s3 (upd H2 D (.dT [])) s3.heap.objs.size (cellsFrom (s3.heap.objs.size + 1) scope.names (cloFrom X.env.cells scope.names [])) fp
  have pk := hk s3 (upd H2 D (.dT [])) s3.heap.objs.size (cellsFrom (s3.heap.objs.size + 1) scope.names (cloFrom X.env.cells scope.names [])) fp
  have pv := hv s3 (upd H2 D (.dT [])) s3.heap.objs.size (cellsFrom (s3.heap.objs.size + 1) scope.names (cloFrom X.env.cells scope.names [])) fp
  show codeAny _ _ (.compStart (.DictComp kx vx [⟨tg, iter, [], 0⟩] scope pos) 0 (.ref it) (.ref D) (compEnvC scope (cellsFrom (s3.heap.objs.size + 1) scope.names (cloFrom X.env.cells scope.names [])) s3.heap.objs.size X.env)) (compPost (model X.prog X.w) X.A X.xe none (EP X pins σ Q) (.ref D) s3.heap.objs.size) { s3 with heap := pushCells (s3.heap.push { cls := .type "dict", data := .dict #[] }) scope.names }
  generalize hce : compEnvC scope (cellsFrom (s3.heap.objs.size + 1) scope.names (cloFrom X.env.cells scope.names [])) s3.heap.objs.size X.env = ce at I4 pg pk pv ⊢
  have cL : ce.locals = s3.heap.objs.size := by subst hce; rfl
  generalize hH3 : upd H2 D (.dT []) = H3 at I3 I4 pg pk pv w0 f3
  generalize hs4 : ({ s3 with heap := pushCells (s3.heap.push { cls := .type "dict", data := .dict #[] }) scope.names } : Shared) = s4 at I4 ⊢
  have st4 : tn 0 s4.heap := T.keep _ _ _ st2 fun b _ o z => by
    rw [← hs4]
    exact pushCells_keeps _ _ _ _ (Heap.get?_push_of_some _ (by rw [h3]; exact Heap.get?_push_of_some _ z))
  have blk : ∀ {σ' : L2.St} {H' : Hp} {s' : Shared}, Inv (X.blk s3 H3 scope ce fp) [] σ' H' s' → (∀ b ∈ fp, H' b = none) → ∀ b ∈ fp, FpOk (X.blk s3 H3 scope ce fp) [] H' b := fun J' hn b hb =>
    ⟨hn b hb, (J'.ok.exf b hb).1, J'.ok.exfs b hb, .inl hb, fun x c z => (J'.ok.exf b hb).2 x c z, fun p hp => absurd (show p ∈ ([] : List (Addr × Obj)) ++ [] from hp) (by simp)⟩
  have loop : codeAny (model X.prog X.w) X.A (.compLoop (.DictComp kx vx [⟨tg, iter, [], 0⟩] scope pos) 0 (.ref it) (.ref D) ce) (compPost (model X.prog X.w) X.A X.xe none (EP X pins σ Q) (.ref D) s3.heap.objs.size) s4 := by
    refine compLoop_anyD (BetweenT (X.blk s3 H3 scope ce fp) fp tn (wipe σ (own.map (·.2))) W) ?_ m0 ⟨0, H3, I4, st4, fun b hb => (f3 b hb).1.1, w0⟩
    rintro n s5 ⟨i, H5, I5, st5, n5, w5⟩
    rcases turn i n H5 w5 with ⟨stop, qq⟩ | ⟨go, Nx, hNx, step⟩
    · refine thnF (T.done (X.blk s3 H3 scope ce fp) rfl rfl rfl hc i [] s5 _ H5 (fun _ _ => False) I5 (blk I5 n5) st5 stop) fun r s6 ⟨hr, I6⟩ => ?_
      subst hr
      have I7 : Inv X pins σ H5 s6 := I3.call' (ch := fp) I6.os I6.base I6.hok I6.bare fun b hb => ⟨(f3 b hb).1.2.2.2.1, (f3 b hb).1.2.1, (f3 b hb).1.2.2.2.2.1, (f3 b hb).1.2.2.2.2.2⟩
      have nC : H5 s3.heap.objs.size = none := by
        have z : H5 ce.locals = none := I6.free
        rwa [cL] at z
      obtain ⟨m, hn, _⟩ := I6.loc
      have hn : s6.heap.Ns ce.locals m := hn
      rw [cL] at hn
      obtain ⟨f0, f1, f2, f4, f5, f6⟩ := I3.fpOk (Nat.le_refl _) nC
      exact ⟨m, hn, fun h'' sb => ⟨.ref D, H5, I7.turned (t' := s6.toks) (fun b o hb z => (sb.2 b hb).trans z) f0 f1 f4 f5 f6, rfl, qq⟩⟩
    · refine thnF (T.item (X.blk s3 H3 scope ce fp) rfl rfl rfl hc i [] s5 _ H5 (fun _ _ => False) I5 (blk I5 n5) st5 go) fun r s6 ⟨u, hr, h6⟩ => ?_
      subst hr
      refine thnF h6 fun _ s7 ⟨x, H7, I7, r7, y7, st7, n7⟩ => ?_
      have I7' := I7.pinned (blk I7 n7) (T.obj _ _ st7)
      have main := dct_turn (s := s7) (Z := X.blk s3 H3 scope ce fp) (vs := own.map (·.2)) (D := D) (Nx := Nx) (E' := notedBy (model X.prog X.w) X.A ce fun e s' => compPost (model X.prog X.w) X.A X.xe none (EP X pins σ Q) (.ref D) s3.heap.objs.size (.error e) s') (R := fun s' => ∃ m, m < n ∧ BetweenT (X.blk s3 H3 scope ce fp) fp tn (wipe σ (own.map (·.2))) W m s') rfl hu pg pk pv I7' r7 (step x H7 y7) fun σ8 H' s' hw I' nx => by
        obtain ⟨m', hm, w'⟩ := hNx H' nx
        have keep : ∀ b ∈ fp, ∀ o, s7.heap.get? b = some o → s'.heap.get? b = some o ∧ H' b = none := fun b hb o z =>
          let y := I'.pin (b, o) (List.mem_append_right _ (List.mem_append_right _ (mem_pinsAt hb z)))
          ⟨y.1, y.2.1⟩
        refine ⟨m', hm, i + 1, H', (I'.unpinned (pins := [])).weak (by rw [← hw, wipe_length]) (fun j v z => ?_), T.keep _ _ _ st7 fun b hb o z => (keep b hb o z).1, fun b hb => ?_, w'⟩
        · rw [← hw] at z
          exact (wipe_some z).1
        · obtain ⟨o, z, _⟩ := T.obj _ _ st7 b hb
          exact (keep b hb o z).2
      exact main
  exact codeAny_compStart_dict loop (T.self X.A 0 _ _ _ st4 loop)
end
end Ka
/-! {k: v for t0 in i0 if .. for t1 in i1 if ..}, whatever the keys are. -/
namespace Ka
open PySem PySem.Spec PyProof.Rows L2
section
variable {P : Program} {w : World} {A : Around} {R : Result → Shared → Prop} {s : Shared} {kx vx t0 i0 t1 i1 : Expr} {f0 f1 : List Expr} {sc : Scope} {ps : Pos} {it : Value} {D : Addr} {ev : Env}
/-- the expression -/
abbrev dcE (kx vx t0 i0 : Expr) (f0 : List Expr) (t1 i1 : Expr) (f1 : List Expr) (sc : Scope) (ps : Pos) : Expr :=
  .DictComp kx vx [⟨t0, i0, f0, 0⟩, ⟨t1, i1, f1, 0⟩] sc ps
/-- whether a clause's tests hold -/
abbrev testsOf (fs : List Expr) (ev : Env) : Sem Bool :=
  forIn fs true fun c r => if r = true then do let ok ← isTrue c ev (eval c ev); pure (ForInStep.yield ok) else pure (ForInStep.yield r)
abbrev Raised (P : Program) (w : World) (A : Around) (ev : Env) (R : Result → Shared → Prop) : Value → Shared → Prop :=
  notedBy (model P w) A ev fun e s' => R (.error e) s'
theorem outer_eq : compTurn (dcE kx vx t0 i0 f0 t1 i1 f1 sc ps) 0 it (.ref D) ev = (do
    standAt i0.pos
    match ← pyNext it with
    | none => pure (.done .next)
    | some v =>
      letOwnedTupleGo t0 it v
      assign t0 ev v
      let ok ← testsOf f0 ev
      if ok then
        let z ← eval i1 ev
        standAt i1.pos
        let z ← foldedSetIterable i1 ev z
        let _ ← runOwn (.compStart (dcE kx vx t0 i0 f0 t1 i1 f1 sc ps) 1 (← holding [z] (pyIter z)) (.ref D) ev) ev
      again (.compLoop (dcE kx vx t0 i0 f0 t1 i1 f1 sc ps) 0 it (.ref D) ev)) := by rfl
theorem inner_eq : compTurn (dcE kx vx t0 i0 f0 t1 i1 f1 sc ps) 1 it (.ref D) ev = (do
    standAt i1.pos
    match ← pyNext it with
    | none => pure (.done .next)
    | some v =>
      letOwnedTupleGo t1 it v
      assign t1 ev v
      let ok ← testsOf f1 ev
      if ok then
        (do
          let y ← eval kx ev
          let z ← holding [y] (eval vx ev)
          standAt { kx.pos with endLine := vx.pos.endLine, endCol := vx.pos.endCol }
          holding [y, z] (dictSet D y z))
      again (.compLoop (dcE kx vx t0 i0 f0 t1 i1 f1 sc ps) 1 it (.ref D) ev)) := by rfl
/-- a turn of the first clause -/
def OutTurn (P : Program) (w : World) (A : Around) (R : Result → Shared → Prop) (kx vx t0 i0 : Expr) (f0 : List Expr) (t1 i1 : Expr) (f1 : List Expr) (sc : Scope) (ps : Pos) (it : Value) (D : Addr) (ev : Env) (go : Shared → Prop) (s : Shared) : Prop :=
  wpAny (model P w) A (pyNext it) (fun r s1 => match r with
    | none => R (.ok .next) s1
    | some v => wpAny (model P w) A (letOwnedTupleGo t0 it v) (fun _ s2 => wpAny (model P w) A (assign t0 ev v) (fun _ s3 => wpAny (model P w) A (testsOf f0 ev) (fun ok s4 =>
        if ok = true then wpAny (model P w) A (eval i1 ev) (fun z s5 => wpAny (model P w) A (pyIter z) (fun it1 s6 => codeAny (model P w) A (.compStart (dcE kx vx t0 i0 f0 t1 i1 f1 sc ps) 1 it1 (.ref D) ev) (fun r s' => match r with
            | .ok _ => go s'
            | .error _ => False) s6) (Raised P w A ev R) s5) (Raised P w A ev R) s4
        else go s4) (Raised P w A ev R) s3) (Raised P w A ev R) s2) (Raised P w A ev R) s1) (Raised P w A ev R) s
theorem outer_loop (hs : ∀ x, foldedSetIterable i1 ev x = pure x) (I : Nat → Shared → Prop) (turn : ∀ n s, I n s → OutTurn P w A R kx vx t0 i0 f0 t1 i1 f1 sc ps it D ev (fun s' => ∃ m, m < n ∧ I m s') s) (n : Nat) (h : I n s) :
    codeAny (model P w) A (.compLoop (dcE kx vx t0 i0 f0 t1 i1 f1 sc ps) 0 it (.ref D) ev) R s := by
  refine codeAny_loop rfl I (fun n s hI => ?_) n h
  have T := turn n s hI
  show wpAny _ A ((compTurn (dcE kx vx t0 i0 f0 t1 i1 f1 sc ps) 0 it (.ref D) ev).onRaise (fun x => do noteFrame x ev; theTreesLotGoes x)) _ _ s
  refine wpAny_noted ?_
  rw [outer_eq]
  refine wpAny_bind (wpAny_standAt (wpAny_bind (wpAny_mono T (fun r a1 b1 => ?_) fun _ _ z => z)))
  cases r with
  | none => exact wpAny_pure b1
  | some v =>
    refine wpAny_bind (wpAny_mono b1 (fun _ a2 b2 => wpAny_bind (wpAny_mono b2 (fun _ a3 b3 => wpAny_bind (wpAny_mono b3 (fun ok a4 b4 => ?_) fun _ _ z => z)) fun _ _ z => z)) fun _ _ z => z)
    cases ok with
    | false => exact wpAny_pure ⟨rfl, b4⟩
    | true =>
      refine wpAny_bind (wpAny_mono b4 (fun z a5 b5 => wpAny_bind (wpAny_standAt (wpAny_bind (wpAny_of_eq (hs z) (wpAny_bind (wpAny_holding (wpAny_mono b5 (fun it1 a6 b6 => ?_) fun _ _ z => z))))))) fun _ _ z => z)
      refine wpAny_bind (wpAny_runOwn ?_)
      rw [Around.mark_none]
      refine codeAny_mono b6 fun r s' hr => ?_
      cases r with
      | error e => exact hr.elim
      | ok f => first | exact wpAny_pure ⟨rfl, hr⟩ | exact wpAny_bind (wpAny_pure (wpAny_pure ⟨rfl, hr⟩))
/-- a turn of the second -/
def InTurn (P : Program) (w : World) (A : Around) (R : Result → Shared → Prop) (kx vx t1 : Expr) (f1 : List Expr) (it : Value) (D : Addr) (ev : Env) (go : Shared → Prop) (s : Shared) : Prop :=
  wpAny (model P w) A (pyNext it) (fun r s1 => match r with
    | none => R (.ok .next) s1
    | some v => wpAny (model P w) A (letOwnedTupleGo t1 it v) (fun _ s2 => wpAny (model P w) A (assign t1 ev v) (fun _ s3 => wpAny (model P w) A (testsOf f1 ev) (fun ok s4 =>
        if ok = true then wpAny (model P w) A (eval kx ev) (fun y s5 => wpAny (model P w) A (eval vx ev) (fun z s6 => wpAny (model P w) A (dictSet D y z) (fun _ s7 => go s7) (Raised P w A ev R) s6) (Raised P w A ev R) s5) (Raised P w A ev R) s4
        else go s4) (Raised P w A ev R) s3) (Raised P w A ev R) s2) (Raised P w A ev R) s1) (Raised P w A ev R) s
theorem inner_loop (I : Nat → Shared → Prop) (turn : ∀ n s, I n s → InTurn P w A R kx vx t1 f1 it D ev (fun s' => ∃ m, m < n ∧ I m s') s) (n : Nat) (h : I n s) :
    codeAny (model P w) A (.compLoop (dcE kx vx t0 i0 f0 t1 i1 f1 sc ps) 1 it (.ref D) ev) R s := by
  refine codeAny_loop rfl I (fun n s hI => ?_) n h
  have T := turn n s hI
  show wpAny _ A ((compTurn (dcE kx vx t0 i0 f0 t1 i1 f1 sc ps) 1 it (.ref D) ev).onRaise (fun x => do noteFrame x ev; theTreesLotGoes x)) _ _ s
  refine wpAny_noted ?_
  rw [inner_eq]
  refine wpAny_bind (wpAny_standAt (wpAny_bind (wpAny_mono T (fun r a1 b1 => ?_) fun _ _ z => z)))
  cases r with
  | none => exact wpAny_pure b1
  | some v =>
    refine wpAny_bind (wpAny_mono b1 (fun _ a2 b2 => wpAny_bind (wpAny_mono b2 (fun _ a3 b3 => wpAny_bind (wpAny_mono b3 (fun ok a4 b4 => ?_) fun _ _ z => z)) fun _ _ z => z)) fun _ _ z => z)
    cases ok with
    | false => exact wpAny_pure ⟨rfl, b4⟩
    | true =>
      exact wpAny_bind (wpAny_bind (wpAny_mono b4 (fun y a5 b5 => wpAny_bind (wpAny_holding (wpAny_mono b5 (fun z a6 b6 => wpAny_bind (wpAny_standAt (wpAny_holding (wpAny_mono b6 (fun _ a7 b7 => wpAny_pure ⟨rfl, b7⟩) fun _ _ z => z)))) fun _ _ z => z))) fun _ _ z => z))
/-- the second clause begins -/
theorem inner_start (h0 : codeAny (model P w) A (.compLoop (dcE kx vx t0 i0 f0 t1 i1 f1 sc ps) 1 it (.ref D) ev) R s)
    (h : wpAny (model P w) A (pyIter it) (fun j s' => codeAny (model P w) A (.compLoop (dcE kx vx t0 i0 f0 t1 i1 f1 sc ps) 1 j (.ref D) ev) R s') (Raised P w A ev R) s) :
    codeAny (model P w) A (.compStart (dcE kx vx t0 i0 f0 t1 i1 f1 sc ps) 1 it (.ref D) ev) R s := by
  refine codeAny_of_tree ?_
  show wpAny _ _ ((compStart (dcE kx vx t0 i0 f0 t1 i1 f1 sc ps) 1 it (.ref D) ev).onRaise (fun x => do noteFrame x ev; standAt theWindowsPlace)) _ _ s
  refine wpAny_notedAt ?_
  unfold compStart
  show wpAny _ _ (ask >>= _) _ _ s
  refine wpAny_bind (wpAny_askSetting (wpAny_ite ?_))
  have l1 : ∀ (j : Value) (s' : Shared), codeAny (model P w) A (.compLoop (dcE kx vx t0 i0 f0 t1 i1 f1 sc ps) 1 j (.ref D) ev) R s' → codeAny (model P w) A (.compLoop (dcE kx vx t0 i0 f0 t1 i1 f1 sc ps) 1 j (.ref D) ev) R s' := fun _ _ z => z
  split
  · first | exact wpAny_pure ⟨rfl, h0⟩ | exact wpAny_bind (wpAny_pure (wpAny_pure ⟨rfl, h0⟩))
  · refine wpAny_bind (wpAny_rule ?_)
    first
      | exact wpAny_bind (wpAny_standAt (wpAny_bind (wpAny_mono h (fun j s' z => wpAny_pure ⟨rfl, z⟩) fun _ _ z => z)))
      | (show wpAny _ _ (standAt i1.pos >>= _) _ _ s; exact wpAny_bind (wpAny_standAt (wpAny_bind (wpAny_mono h (fun j s' z => wpAny_pure ⟨rfl, z⟩) fun _ _ z => z))))
end
/-- what is stored: o0 an empty dict, up what it takes to put a key and a value into the dict at an address -/
structure Store (X : Cx) (o0 : HO) (up : Addr → V → V → Hp → (Hp → Prop) → Prop) : Prop where
  fresh : ∀ {pins : List (Addr × Obj)} {σ : L2.St} {H : Hp} {s : Shared}, Inv X pins σ H s → Inv X pins σ (upd H s.heap.objs.size o0) { s with heap := s.heap.push { cls := .type "dict", data := .dict #[] } }
  put : ∀ {Z : Cx} {pins : List (Addr × Obj)} {σ : L2.St} {H : Hp} {s : Shared} {E : Value → Shared → Prop} {D : Addr} {y z : V} {u r : Value} {Nx : Hp → Prop} {Q : Unit → Shared → Prop}, Z.A = X.A → Inv Z pins σ H s → RelV y u → RelV z r → up D y z H Nx →
    (∀ H' s', Inv Z pins σ H' s' → Nx H' → Q () s') → wpAny (model Z.prog Z.w) Z.A (dictSet D u r) Q E s
/-- keys numbers or texts -/
def upK : Addr → V → V → Hp → (Hp → Prop) → Prop := fun D y z H Nx => ∃ kvs k, y = kV k ∧ H D = some (.dK kvs) ∧ kvs.length < sizeLine ∧ Nx (upd H D (.dK (putK kvs k z)))
/-- keys tuples of them -/
def upT : Addr → V → V → Hp → (Hp → Prop) → Prop := fun D y z H Nx => ∃ kvs k b, y = .ref b ∧ H b = some (.tup (k.map kV)) ∧ H D = some (.dT kvs) ∧ kvs.length < sizeLine ∧ Nx (upd H D (.dT (putK kvs k z)))
theorem storeK {X : Cx} : Store X (.dK []) upK where
  fresh := fun {pins σ H s} I => I.laid (t' := s.toks) (fun b o z => Heap.get?_push_of_some _ z) (Nat.le_refl _) (dk_empty s.heap I.big)
  put := fun _ I ry rz ⟨kvs, k, ey, hD, hz, nx⟩ q => by
    subst ey
    exact d_dictSet I hD hz ry rz fun s' I' => q _ s' I' nx
theorem storeT {X : Cx} (hu : X.A.units + 1 < cLine) : Store X (.dT []) upT where
  fresh := fun {pins σ H s} I => I.laid (t' := s.toks) (fun b o z => Heap.get?_push_of_some _ z) (Nat.le_refl _) (dt_empty s.heap I.big)
  put := fun e I ry rz ⟨kvs, k, b, ey, hb, hD, hz, nx⟩ q => by
    subst ey
    exact dT_set (by rw [e]; exact hu) I hD hz hb ry rz fun s' I' => q _ s' I' nx
/-- the turns of the second clause, from which Nx is reached -/
def InP (up : Addr → V → V → Hp → (Hp → Prop) → Prop) (D : Addr) (g1 : TG) (tt1 : TT) (tk tv : TE) (vs1 : List Nat) (τ : L2.St) (Nx : Hp → Prop) (J : It) (H0 : Hp) : Prop :=
  ∃ W : Nat → Nat → Hp → Prop, (∃ m, W 0 m H0) ∧ ∀ j k H, W j k H → (J.stop j H ∧ Nx H) ∨ (J.go j H ∧ ∃ N1 : Hp → Prop, (∀ H', N1 H' → ∃ k', k' < k ∧ W (j + 1) k' H') ∧
    ∀ x H', J.yld j H x H' → g1 x (wipe τ vs1) H' fun τ2 H5 => wipe τ2 vs1 = wipe τ vs1 ∧ tt1 τ2 H5 fun b H6 => if b = true then tk τ2 H6 fun y H7 => tv τ2 H7 fun z H8 => up D y z H8 N1 else N1 H6)
/-- {k: v for target in iter if .. for target in iter if ..} -/
def tDc2 (o0 : HO) (up : Addr → V → V → Hp → (Hp → Prop) → Prop) (wi : TI) (g : TG) (tt : TT) (wi1 : TI) (g1 : TG) (tt1 : TT) (tk tv : TE) (vs vs1 : List Nat) : TE := fun σ H Q => wi σ H fun J H1 => ∀ D, H1 D = none →
  ∃ W : Nat → Nat → Hp → Prop, (∃ m, W 0 m (upd H1 D o0)) ∧ ∀ i m H, W i m H → (J.stop i H ∧ Q (.ref D) H) ∨ (J.go i H ∧ ∃ Nx : Hp → Prop, (∀ H', Nx H' → ∃ m', m' < m ∧ W (i + 1) m' H') ∧
    ∀ x H', J.yld i H x H' → g x (wipe σ vs) H' fun τ H2 => wipe τ vs = wipe σ vs ∧ tt τ H2 fun b H3 => if b = true then wi1 τ H3 fun J1 H4 => InP up D g1 tt1 tk tv vs1 τ Nx J1 H4 else Nx H3)
section
variable {X : Cx}
/-- a block's part, for any frame that it may get -/
abbrev inB (X : Cx) (sc : Scope) (s : Shared) (H : Hp) (C : Addr) (cl : List (Str × Addr)) (fp : List Addr) : Cx := X.blk s H sc (compEnvC sc cl C X.env) fp
theorem keep_out {σ τ : L2.St} {vs vs1 : List Nat} (hv : ∀ i ∈ vs1, i ∈ vs) (e : wipe τ vs = wipe σ vs) {j : Nat} {v : V} (h : (wipe σ vs)[j]? = some (some v)) : (wipe τ vs1)[j]? = some (some v) := by
  rw [← e] at h
  have h2 := wipe_some h
  rw [wipe_out fun z => h2.2 (hv j z)]
  exact h2.1
/-- what stands between two turns of a clause -/
def Btw (Z : Cx) (pins : List (Addr × Obj)) (fp : List Addr) (tn : Nat → Heap → Prop) (τ : L2.St) (W : Nat → Nat → Hp → Prop) (n : Nat) (s : Shared) : Prop :=
  ∃ i H, Inv Z pins τ H s ∧ tn i s.heap ∧ (∀ b ∈ fp, H b = none) ∧ W i n H
/-- from a turn to the next -/
theorem btw_next {Z : Cx} {pins : List (Addr × Obj)} {t : Expr} {J : It} {fp : List Addr} {it : Addr} {tn : Nat → Heap → Prop} {h : Heap} (T : Turn Z.prog Z.w Z.K t J fp it tn) {τ τ2 : L2.St} {W : Nat → Nat → Hp → Prop} {i n m : Nat} {H : Hp} {s : Shared} (sth : tn (i + 1) h)
    (I : Inv Z (pins ++ pinsAt fp h) τ2 H s) (hl : τ.length = τ2.length) (hk : ∀ (j : Nat) v, τ[j]? = some (some v) → τ2[j]? = some (some v)) (hm : m < n) (w : W (i + 1) m H) : ∃ m, m < n ∧ Btw Z pins fp tn τ W m s := by
  have pin : ∀ b ∈ fp, ∀ o, h.get? b = some o → s.heap.get? b = some o ∧ H b = none := fun b hb o e =>
    let z := I.pin (b, o) (List.mem_append_right _ (List.mem_append_right _ (mem_pinsAt hb e)))
    ⟨z.1, z.2.1⟩
  refine ⟨m, hm, i + 1, H, (I.unpinned (pins := pins)).weak hl hk, T.keep _ _ _ sth fun b hb o e => (pin b hb o e).1, fun b hb => ?_, w⟩
  obtain ⟨o, e, _⟩ := T.obj _ _ sth b hb
  exact (pin b hb o e).2
theorem len_of {τ τ2 : L2.St} {vs : List Nat} (e : wipe τ2 vs = wipe τ vs) : (wipe τ vs).length = τ2.length := by rw [← e, wipe_length]
theorem knows_of {τ τ2 : L2.St} {vs : List Nat} (e : wipe τ2 vs = wipe τ vs) (j : Nat) (v : V) (h : (wipe τ vs)[j]? = some (some v)) : τ2[j]? = some (some v) := by
  rw [← e] at h
  exact (wipe_some h).1
theorem in_turn {Z : Cx} {R : Result → Shared → Prop} {kx vx t1 : Expr} {f1 : List Expr} {o0 : HO} {up : Addr → V → V → Hp → (Hp → Prop) → Prop} (st : Store X o0 up) (zA : Z.A = X.A) (hE : Z.xe = fun _ _ => False) (hc : Z.calm = true) {D : Addr} {J1 : It} {fp1 : List Addr} {it1 : Addr} {tn1 : Nat → Heap → Prop} (T1 : Turn Z.prog Z.w Z.K t1 J1 fp1 it1 tn1)
    {τ : L2.St} {vs1 : List Nat} {pins : List (Addr × Obj)} {Nx : Hp → Prop} {W1 : Nat → Nat → Hp → Prop} {g1 : TG} {tt1 : TT} {tk tv : TE} (pg1 : PG Z t1 g1) (pt1 : PTs Z f1 tt1) (pk : PE Z kx tk) (px : PE Z vx tv) (far : ∀ {H' : Hp}, (∀ b ∈ fp1, H' b = none) → ∀ b ∈ fp1, FpOk Z pins H' b)
    (turn : ∀ j k H, W1 j k H → (J1.stop j H ∧ Nx H) ∨ (J1.go j H ∧ ∃ N1 : Hp → Prop, (∀ H', N1 H' → ∃ k', k' < k ∧ W1 (j + 1) k' H') ∧
      ∀ x H', J1.yld j H x H' → g1 x (wipe τ vs1) H' fun τ2 H5 => wipe τ2 vs1 = wipe τ vs1 ∧ tt1 τ2 H5 fun b H6 => if b = true then tk τ2 H6 fun y H7 => tv τ2 H7 fun z H8 => up D y z H8 N1 else N1 H6))
    (fin : ∀ {H' : Hp} {s' : Shared}, Inv Z pins (wipe τ vs1) H' s' → Nx H' → R (.ok .next) s') (k : Nat) (s : Shared) (h : Btw Z pins fp1 tn1 (wipe τ vs1) W1 k s) :
    InTurn Z.prog Z.w Z.A R kx vx t1 f1 (.ref it1) D Z.env (fun s' => ∃ m, m < k ∧ Btw Z pins fp1 tn1 (wipe τ vs1) W1 m s') s := by
  obtain ⟨j, H, I, stj, no, w⟩ := h
  rcases turn j k H w with ⟨stop, nx⟩ | ⟨go, N1, hN, step⟩
  · refine thnF (T1.done Z rfl rfl rfl hc j _ s _ H (fun _ _ => False) I (far no) stj stop) fun r a1 ⟨hr, I1⟩ => ?_
    subst hr
    exact fin I1 nx
  · refine thnF (T1.item Z rfl rfl rfl hc j _ s _ H (fun _ _ => False) I (far no) stj go) fun r a1 ⟨u, hr, h1⟩ => ?_
    subst hr
    refine thnF h1 fun _ a2 ⟨x, H2, I2, r2, y2, st2, n2⟩ => ?_
    have I2' := I2.pinned (far n2) (T1.obj _ _ st2)
    have b3 := pg1.run _ a2 _ H2 x u _ I2' r2 (step x H2 y2)
    rw [hE] at b3
    refine thnF b3 fun _ a3 ⟨τ2, H3, I3, e3, q3⟩ => ?_
    have b4 := pt1.run _ a3 τ2 H3 _ I3 q3
    rw [hE] at b4
    refine thnF b4 fun b a4 ⟨H4, I4, q4⟩ => ?_
    have next : ∀ {H' : Hp} {s' : Shared}, Inv Z (pins ++ pinsAt fp1 a2.heap) τ2 H' s' → N1 H' → ∃ m, m < k ∧ Btw Z pins fp1 tn1 (wipe τ vs1) W1 m s' := fun I' n' => by
      obtain ⟨m, hm, w'⟩ := hN _ n'
      exact btw_next T1 st2 I' (len_of e3) (knows_of e3) hm w'
    cases b with
    | false =>
      rw [if_neg Bool.false_ne_true] at q4 ⊢
      exact next I4 q4
    | true =>
      rw [if_pos rfl] at q4 ⊢
      have b5 := pk.run _ a4 τ2 H4 _ I4 q4
      rw [hE] at b5
      refine thnF b5 fun v5 a5 ⟨y, H5, I5, r5, q5⟩ => ?_
      have b6 := px.run _ a5 τ2 H5 _ I5 q5
      rw [hE] at b6
      refine thnF b6 fun v6 a6 ⟨z, H6, I6, r6, q6⟩ => ?_
      exact st.put zA I6 r5 r6 q6 fun H' s' I' n' => next I' n'
theorem out_turn {Z : Cx} {R : Result → Shared → Prop} {kx vx t0 i0 t1 i1 : Expr} {f0 f1 : List Expr} {sc : Scope} {ps : Pos} {o0 : HO} {up : Addr → V → V → Hp → (Hp → Prop) → Prop} (st : Store X o0 up) (zA : Z.A = X.A) (hE : Z.xe = fun _ _ => False) (hc : Z.calm = true) {D : Addr} {J : It} {fp : List Addr} {it : Addr} {tn : Nat → Heap → Prop} (T : Turn Z.prog Z.w Z.K t0 J fp it tn)
    {σ : L2.St} {vs vs1 : List Nat} (hv : ∀ i ∈ vs1, i ∈ vs) {Qd : Hp → Prop} {W : Nat → Nat → Hp → Prop} {wi1 : TI} {g g1 : TG} {tt tt1 : TT} {tk tv : TE} (pg : PG Z t0 g) (pt : PTs Z f0 tt) (pi1 : PI Z t1 i1 wi1) (pg1 : PG Z t1 g1) (pt1 : PTs Z f1 tt1) (pk : PE Z kx tk) (px : PE Z vx tv)
    (far : ∀ {τ' : L2.St} {H' : Hp} {s' : Shared}, Inv Z [] τ' H' s' → (∀ b ∈ fp, H' b = none) → ∀ b ∈ fp, FpOk Z [] H' b)
    (turn : ∀ i m H, W i m H → (J.stop i H ∧ Qd H) ∨ (J.go i H ∧ ∃ Nx : Hp → Prop, (∀ H', Nx H' → ∃ m', m' < m ∧ W (i + 1) m' H') ∧
      ∀ x H', J.yld i H x H' → g x (wipe σ vs) H' fun τ H2 => wipe τ vs = wipe σ vs ∧ tt τ H2 fun b H3 => if b = true then wi1 τ H3 fun J1 H4 => InP up D g1 tt1 tk tv vs1 τ Nx J1 H4 else Nx H3))
    (fin : ∀ {H' : Hp} {s' : Shared}, Inv Z [] (wipe σ vs) H' s' → Qd H' → R (.ok .next) s') (n : Nat) (s : Shared) (h : Btw Z [] fp tn (wipe σ vs) W n s) :
    OutTurn Z.prog Z.w Z.A R kx vx t0 i0 f0 t1 i1 f1 sc ps (.ref it) D Z.env (fun s' => ∃ m, m < n ∧ Btw Z [] fp tn (wipe σ vs) W m s') s := by
  obtain ⟨i, H, I, sti, no, w⟩ := h
  rcases turn i n H w with ⟨stop, qd⟩ | ⟨go, Nx, hN, step⟩
  · refine thnF (T.done Z rfl rfl rfl hc i _ s _ H (fun _ _ => False) I (far I no) sti stop) fun r a1 ⟨hr, I1⟩ => ?_
    subst hr
    exact fin I1 qd
  · refine thnF (T.item Z rfl rfl rfl hc i _ s _ H (fun _ _ => False) I (far I no) sti go) fun r a1 ⟨u, hr, h1⟩ => ?_
    subst hr
    refine thnF h1 fun _ a2 ⟨x, H2, I2, r2, y2, st2, n2⟩ => ?_
    have I2' := I2.pinned (far I2 n2) (T.obj _ _ st2)
    have b3 := pg.run _ a2 _ H2 x u _ I2' r2 (step x H2 y2)
    rw [hE] at b3
    refine thnF b3 fun _ a3 ⟨τ, H3, I3, e3, q3⟩ => ?_
    have b4 := pt.run _ a3 τ H3 _ I3 q3
    rw [hE] at b4
    refine thnF b4 fun b a4 ⟨H4, I4, q4⟩ => ?_
    have next : ∀ {τ2 : L2.St} {H' : Hp} {s' : Shared}, Inv Z ([] ++ pinsAt fp a2.heap) τ2 H' s' → (wipe σ vs).length = τ2.length → (∀ (j : Nat) v, (wipe σ vs)[j]? = some (some v) → τ2[j]? = some (some v)) → Nx H' → ∃ m, m < n ∧ Btw Z [] fp tn (wipe σ vs) W m s' := fun I' hl hk n' => by
      obtain ⟨m, hm, w'⟩ := hN _ n'
      exact btw_next T st2 I' hl hk hm w'
    cases b with
    | false =>
      rw [if_neg Bool.false_ne_true] at q4 ⊢
      exact next I4 (len_of e3) (knows_of e3) q4
    | true =>
      rw [if_pos rfl] at q4 ⊢
      have b5 := pi1.run _ a4 τ H4 _ I4 q4
      rw [hE] at b5
      refine thnF b5 fun xv a5 h5 => thnF h5 fun itv a6 ⟨it1, fp1, tn1, J1, H6, e6, I6, T1, st6, f6, W1, ⟨m1, w1⟩, turn1⟩ => ?_
      subst e6
      have loop := inner_loop (t0 := t0) (i0 := i0) (i1 := i1) (f0 := f0) (sc := sc) (ps := ps) (P := Z.prog) (w := Z.w) (A := Z.A) (kx := kx) (vx := vx) (t1 := t1) (f1 := f1) (it := .ref it1) (D := D) (ev := Z.env)
        (R := fun r s' => match r with
          | .ok _ => ∃ m, m < n ∧ Btw Z [] fp tn (wipe σ vs) W m s'
          | .error _ => False)
        (Btw Z ([] ++ pinsAt fp a2.heap) fp1 tn1 (wipe τ vs1) W1)
        (in_turn st zA hE hc T1 (Nx := Nx) pg1 pt1 pk px (fun hn b hb => ⟨hn b hb, (f6 b hb).2⟩) turn1 (fun I' nx => next I' ((len_of e3).trans (wipe_length τ vs1).symm) (fun j v z => keep_out hv e3 z) nx))
        m1 (s := a6) ⟨0, H6, I6.weak (wipe_length _ _) (fun j v z => (wipe_some z).1), st6, fun b hb => (f6 b hb).1, w1⟩
      exact inner_start loop (T1.self _ _ _ _ _ st6 loop)
theorem pe_dc2 {kx vx t0 i0 t1 i1 : Expr} {f0 f1 : List Expr} {sc : Scope} {own : List (Str × Nat)} {vs1 : List Nat} {ps : Pos} {o0 : HO} {up : Addr → V → V → Hp → (Hp → Prop) → Prop} {wi wi1 : TI} {g g1 : TG} {tt tt1 : TT} {tk tv : TE} (st : Store X o0 up) (hc : X.calm = true) (hN : X.N.Nodup) (hi : PI X t0 i0 wi) (ok : BlkOk X.N X.env.scope sc own) (hv : ∀ i ∈ vs1, i ∈ own.map (·.2))
    (hg : ∀ s H C cl fp, PG (inB X sc s H C cl fp) t0 g) (ht : ∀ s H C cl fp, PTs (inB X sc s H C cl fp) f0 tt) (hi1 : ∀ s H C cl fp, PI (inB X sc s H C cl fp) t1 i1 wi1) (hg1 : ∀ s H C cl fp, PG (inB X sc s H C cl fp) t1 g1) (ht1 : ∀ s H C cl fp, PTs (inB X sc s H C cl fp) f1 tt1) (hk : ∀ s H C cl fp, PE (inB X sc s H C cl fp) kx tk) (hx : ∀ s H C cl fp, PE (inB X sc s H C cl fp) vx tv)
    (hs : ∀ x, foldedSetIterable i0 X.env x = pure x := by intro _; rfl) (hs1 : ∀ ev x, foldedSetIterable i1 ev x = pure x := by intro _ _; rfl) : PE X (dcE kx vx t0 i0 f0 t1 i1 f1 sc ps) (tDc2 o0 up wi g tt wi1 g1 tt1 tk tv (own.map (·.2)) vs1) := by
  refine ⟨fun pins s σ H Q I h => ?_⟩
  rw [arm_eval_DictComp]
  have free : ∀ y ∈ sc.names, y.2 = .free → ∃ c, X.env.cells.lookup y.1 = some c := fun y hy e => (ok.free y hy e).elim (fun k => I.ok.has _ (.inl k)) (fun k => I.ok.has _ (.inr k))
  refine wpAny_comprehension_free rfl hs (closure_ok free) ok.kind (fun y hy e => by rw [ok.uniq y hy, e]) (thn (hi.run pins s σ H _ I h) fun _ s1 hx1 => thn hx1 fun _ s2 ⟨it, fp, tn, J, H2, e, I2, T, st2, f2, q⟩ => ?_)
  subst e
  refine wpAny_newObj_type (newEnv_comp ?_)
  have I3 := st.fresh I2
  generalize hD : s2.heap.objs.size = D at I3
  have nD : H2 D = none := I2.hok.fresh (Nat.le_of_eq hD)
  obtain ⟨W, ⟨m0, w0⟩, turn⟩ := q D nD
  generalize hs3 : ({ s2 with heap := s2.heap.push { cls := .type "dict", data := .dict #[] } } : Shared) = s3 at I3
  have h3 : s3.heap = s2.heap.push { cls := .type "dict", data := .dict #[] } := by rw [← hs3]
  have f3 : ∀ b ∈ fp, FpOk X pins (upd H2 D o0) b ∧ b < s3.heap.objs.size := fun b hb => by
    obtain ⟨o, e, _⟩ := T.obj _ _ st2 b hb
    have lt : b < s2.heap.objs.size := Heap.lt_size e
    exact ⟨⟨by rw [upd_ne (by rw [← hD]; exact Nat.ne_of_lt lt)]; exact (f2 b hb).1, (f2 b hb).2⟩, by rw [h3, Heap.size_push]; exact Nat.lt_succ_of_lt lt⟩
  have I4 := block_start I3 ok hN f3
  generalize hcl : cellsFrom (s3.heap.objs.size + 1) sc.names (cloFrom X.env.cells sc.names []) = cl at I4
  have pg := hg s3 (upd H2 D o0) s3.heap.objs.size cl fp
  have pt := ht s3 (upd H2 D o0) s3.heap.objs.size cl fp
  have pi1 := hi1 s3 (upd H2 D o0) s3.heap.objs.size cl fp
  have pg1 := hg1 s3 (upd H2 D o0) s3.heap.objs.size cl fp
  have pt1 := ht1 s3 (upd H2 D o0) s3.heap.objs.size cl fp
  have pk := hk s3 (upd H2 D o0) s3.heap.objs.size cl fp
  have px := hx s3 (upd H2 D o0) s3.heap.objs.size cl fp
  dsimp only [inB] at pg pt pi1 pg1 pt1 pk px
  show codeAny _ _ (.compStart (dcE kx vx t0 i0 f0 t1 i1 f1 sc ps) 0 (.ref it) (.ref D) (compEnvC sc cl s3.heap.objs.size X.env)) (compPost (model X.prog X.w) X.A X.xe none (EP X pins σ Q) (.ref D) s3.heap.objs.size) { s3 with heap := pushCells (s3.heap.push { cls := .type "dict", data := .dict #[] }) sc.names }
  generalize hce : compEnvC sc cl s3.heap.objs.size X.env = ce at I4 pg pt pi1 pg1 pt1 pk px ⊢
  have cL : ce.locals = s3.heap.objs.size := by subst hce; rfl
  generalize hH3 : upd H2 D o0 = H3 at I3 I4 pg pt pi1 pg1 pt1 pk px w0 f3
  generalize hs4 : ({ s3 with heap := pushCells (s3.heap.push { cls := .type "dict", data := .dict #[] }) sc.names } : Shared) = s4 at I4 ⊢
  have st4 : tn 0 s4.heap := T.keep _ _ _ st2 fun b _ o z => by
    rw [← hs4]
    exact pushCells_keeps _ _ _ _ (Heap.get?_push_of_some _ (by rw [h3]; exact Heap.get?_push_of_some _ z))
  have far : ∀ {τ : L2.St} {H' : Hp} {s' : Shared}, Inv (X.blk s3 H3 sc ce fp) [] τ H' s' → (∀ b ∈ fp, H' b = none) → ∀ b ∈ fp, FpOk (X.blk s3 H3 sc ce fp) [] H' b := fun J' hn b hb =>
    ⟨hn b hb, (J'.ok.exf b hb).1, J'.ok.exfs b hb, .inl hb, fun x c z => (J'.ok.exf b hb).2 x c z, fun p hp => absurd (show p ∈ ([] : List (Addr × Obj)) ++ [] from hp) (by simp)⟩
  have loop : codeAny (model X.prog X.w) X.A (.compLoop (dcE kx vx t0 i0 f0 t1 i1 f1 sc ps) 0 (.ref it) (.ref D) ce) (compPost (model X.prog X.w) X.A X.xe none (EP X pins σ Q) (.ref D) s3.heap.objs.size) s4 := by
    refine outer_loop (hs1 ce) (Btw (X.blk s3 H3 sc ce fp) [] fp tn (wipe σ (own.map (·.2))) W) (fun n s' b => ?_) m0 ⟨0, H3, I4, st4, fun b hb => (f3 b hb).1.1, w0⟩
    refine out_turn (Z := X.blk s3 H3 sc ce fp) st rfl rfl hc T hv (Qd := fun H => Q (.ref D) H) pg pt pi1 pg1 pt1 pk px far turn (fun {H' s'} I' qq => ?_) n s' b
    have I7 : Inv X pins σ H' s' := I3.call' (ch := fp) I'.os I'.base I'.hok I'.bare fun b hb => ⟨(f3 b hb).1.2.2.2.1, (f3 b hb).1.2.1, (f3 b hb).1.2.2.2.2.1, (f3 b hb).1.2.2.2.2.2⟩
    have nC : H' s3.heap.objs.size = none := by
      have z : H' ce.locals = none := I'.free
      rwa [cL] at z
    obtain ⟨m, hn, _⟩ := I'.loc
    have hn : s'.heap.Ns ce.locals m := hn
    rw [cL] at hn
    obtain ⟨z0, z1, z2, z4, z5, z6⟩ := I3.fpOk (Nat.le_refl _) nC
    exact ⟨m, hn, fun h'' sb => ⟨.ref D, H', I7.turned (t' := s'.toks) (fun b o hb z => (sb.2 b hb).trans z) z0 z1 z4 z5 z6, rfl, qq⟩⟩
  exact codeAny_compStart_dict loop (T.self X.A 0 _ _ _ st4 loop)
end
end Ka
/-! Heaps as lists (own text; no part of the kit). -/
namespace Kp
variable {α : Type} {lt : α → α → Bool}
/-- less, as a heap wants it -/
structure Ord (lt : α → α → Bool) : Prop where
  asym : ∀ a b, lt a b = true → lt b a = false
  cot : ∀ a b c, lt a b = false → lt b c = false → lt a c = false
theorem Ord.trans (o : Ord lt) {a b c : α} (h1 : lt a b = true) (h2 : lt b c = true) : lt a c = true := by
  cases h : lt a c with
  | true => rfl
  | false =>
    have := o.cot a c b h (o.asym b c h2)
    rw [h1] at this
    cases this
theorem Ord.irr (o : Ord lt) (a : α) : lt a a = false := by
  cases h : lt a a with
  | false => rfl
  | true => rw [← h]; exact o.asym a a h
def par (i : Nat) : Nat := (i - 1) / 2
theorem par_lt {i : Nat} (h : 0 < i) : par i < i := by unfold par; omega
/-- no item is less than the one above it -/
def IsHeap (lt : α → α → Bool) (l : List α) : Prop := ∀ (i : Nat) (x y : α), 0 < i → l[i]? = some x → l[par i]? = some y → lt x y = false
/-- so but at one place, which is as if it were not there -/
structure But (lt : α → α → Bool) (l : List α) (p : Nat) : Prop where
  far : ∀ (i : Nat) (x y : α), 0 < i → i ≠ p → par i ≠ p → l[i]? = some x → l[par i]? = some y → lt x y = false
  near : ∀ (i : Nat) (x y : α), 0 < i → 0 < p → par i = p → l[i]? = some x → l[par p]? = some y → lt x y = false
/-- so but the one at p may be less than the one above it -/
structure Up (lt : α → α → Bool) (l : List α) (p : Nat) : Prop where
  far : ∀ (i : Nat) (x y : α), 0 < i → i ≠ p → l[i]? = some x → l[par i]? = some y → lt x y = false
  near : ∀ (i : Nat) (x y : α), 0 < i → 0 < p → par i = p → l[i]? = some x → l[par p]? = some y → lt x y = false
theorem heap_nil : IsHeap lt ([] : List α) := fun i x y _ h => by simp at h
theorem root_least (o : Ord lt) {l : List α} (h : IsHeap lt l) {r : α} (hr : l[0]? = some r) : ∀ (i : Nat) (x : α), l[i]? = some x → lt x r = false := by
  intro i
  induction i using Nat.strongRecOn with
  | ind i ih =>
    intro x hx
    by_cases h0 : i = 0
    · subst h0
      rw [hr] at hx
      cases hx
      exact o.irr _
    · have hp := par_lt (i := i) (by omega)
      have hl := (List.getElem?_eq_some_iff.mp hx).1
      have hy : l[par i]? = some (l[par i]'(by omega)) := List.getElem?_eq_getElem (by omega)
      exact o.cot _ _ _ (h i x _ (by omega) hx hy) (ih _ hp _ hy)
/-- two exchanged -/
def swp (l : List α) (i j : Nat) (x y : α) : List α := (l.set i y).set j x
theorem swp_at {l : List α} {i j : Nat} {x y : α} (hi : i < l.length) (hj : j < l.length) (hij : i ≠ j) (k : Nat) : (swp l i j x y)[k]? = if k = j then some x else if k = i then some y else l[k]? := by
  unfold swp
  rw [List.getElem?_set]
  by_cases h1 : j = k
  · subst h1
    rw [if_pos rfl, if_pos rfl, if_pos (by rw [List.length_set]; exact hj)]
  · rw [if_neg h1, if_neg (fun e => h1 e.symm), List.getElem?_set]
    by_cases h2 : i = k
    · subst h2
      rw [if_pos rfl, if_pos rfl, if_pos hi]
    · rw [if_neg h2, if_neg (fun e => h2 e.symm)]
theorem swp_perm {l : List α} {i j : Nat} {x y : α} (hx : l[i]? = some x) (hy : l[j]? = some y) : (swp l i j x y).Perm l := by
  obtain ⟨hi, rfl⟩ := List.getElem?_eq_some_iff.mp hx
  obtain ⟨hj, rfl⟩ := List.getElem?_eq_some_iff.mp hy
  exact List.set_set_perm hi hj
theorem swp_len {l : List α} {i j : Nat} {x y : α} : (swp l i j x y).length = l.length := by
  unfold swp
  rw [List.length_set, List.length_set]
theorem up_done (l : List α) {p : Nat} (h : Up lt l p) (hp : p = 0 ∨ ∀ x y, l[p]? = some x → l[par p]? = some y → lt x y = false) : IsHeap lt l := by
  intro i x y h0 hx hy
  by_cases e : i = p
  · subst e
    rcases hp with z | z
    · omega
    · exact z x y hx hy
  · exact h.far i x y h0 e hx hy
theorem up_step (o : Ord lt) {l : List α} {p : Nat} {x y : α} (h : Up lt l p) (h0 : 0 < p) (hx : l[p]? = some x) (hy : l[par p]? = some y) (hxy : lt x y = true) : Up lt (swp l (par p) p y x) (par p) := by
  have hpl := par_lt h0
  have hp := (List.getElem?_eq_some_iff.mp hx).1
  have hq : par p < l.length := by omega
  have hat := fun k => swp_at (x := y) (y := x) hq hp (Nat.ne_of_lt hpl) k
  refine ⟨fun i a b hi0 hiq ha hb => ?_, fun i a b hi0 hq0 hpi ha hb => ?_⟩
  · rw [hat] at ha hb
    by_cases e1 : i = p
    · subst e1
      rw [if_pos rfl] at ha
      rw [if_neg (Nat.ne_of_lt hpl), if_pos rfl] at hb
      cases ha
      cases hb
      exact o.asym _ _ hxy
    · rw [if_neg e1, if_neg hiq] at ha
      by_cases e2 : par i = p
      · rw [if_pos e2] at hb
        cases hb
        exact h.near i a y hi0 h0 e2 ha hy
      · rw [if_neg e2] at hb
        by_cases e3 : par i = par p
        · rw [if_pos e3] at hb
          cases hb
          have h1 := h.far i a y hi0 e1 ha (by rw [e3]; exact hy)
          cases h2 : lt a x with
          | false => rfl
          | true =>
            have := o.trans h2 hxy
            rw [h1] at this
            cases this
        · rw [if_neg e3] at hb
          exact h.far i a b hi0 e1 ha hb
  · have hgq := par_lt hq0
    rw [hat] at ha hb
    rw [if_neg (by omega), if_neg (by omega)] at hb
    have hyb : lt y b = false := h.far (par p) y b hq0 (Nat.ne_of_lt hpl) hy hb
    by_cases e1 : i = p
    · rw [if_pos e1] at ha
      cases ha
      exact hyb
    · have hiq : i ≠ par p := by
        have := par_lt hi0
        omega
      rw [if_neg e1, if_neg hiq] at ha
      exact o.cot _ _ _ (h.far i a y hi0 e1 ha (by rw [hpi]; exact hy)) hyb
/-- no child: it may be as if less -/
theorem but_up {l : List α} {p : Nat} (h : But lt l p) (hp : ¬ p < l.length / 2) : Up lt l p := by
  refine ⟨fun i x y h0 hi hx hy => ?_, h.near⟩
  by_cases e : par i = p
  · have := (List.getElem?_eq_some_iff.mp hx).1
    unfold par at e
    omega
  · exact h.far i x y h0 hi e hx hy
/-- the child c, not greater than the other one, goes up -/
theorem but_step (o : Ord lt) {l : List α} {p c : Nat} {x y : α} (h : But lt l p) (hc0 : 0 < c) (hcp : par c = p) (hx : l[c]? = some x) (hy : l[p]? = some y) (hmin : ∀ (i : Nat) (z : α), 0 < i → par i = p → l[i]? = some z → lt z x = false) : But lt (swp l c p x y) c := by
  have hpc : p < c := by have := par_lt hc0; omega
  have hc := (List.getElem?_eq_some_iff.mp hx).1
  have hp : p < l.length := by omega
  have hat := fun k => swp_at (x := x) (y := y) hc hp (Nat.ne_of_gt hpc) k
  refine ⟨fun i a b hi0 hic hpi ha hb => ?_, fun i a b hi0 _ hpi ha hb => ?_⟩
  · rw [hat] at ha hb
    rw [if_neg hic] at ha
    rw [if_neg hpi] at hb
    by_cases e1 : i = p
    · subst e1
      rw [if_pos rfl] at ha
      have hpi0 := par_lt hi0
      rw [if_neg (Nat.ne_of_lt hpi0)] at hb
      cases ha
      exact h.near c x b hc0 hi0 hcp hx hb
    · rw [if_neg e1] at ha
      by_cases e2 : par i = p
      · rw [if_pos e2] at hb
        cases hb
        exact hmin i a hi0 e2 ha
      · rw [if_neg e2] at hb
        exact h.far i a b hi0 e1 e2 ha hb
  · rw [hat] at ha hb
    have hci : c < i := by have := par_lt hi0; omega
    rw [if_neg (by omega), if_neg (by omega)] at ha
    rw [hcp, if_pos rfl] at hb
    cases hb
    exact h.far i a x hi0 (by omega) (by omega) ha (by rw [hpi]; exact hx)
theorem but_of_heap {l : List α} (h : IsHeap lt l) (z : α) : But lt (l.set 0 z) 0 := by
  refine ⟨fun i x y h0 _ hp hx hy => ?_, fun i x y _ h0 => absurd h0 (Nat.lt_irrefl _)⟩
  rw [List.getElem?_set_ne (by omega)] at hx
  rw [List.getElem?_set_ne (fun e => hp e.symm)] at hy
  exact h i x y h0 hx hy
theorem up_of_heap {l : List α} (h : IsHeap lt l) (z : α) : Up lt (l ++ [z]) l.length := by
  refine ⟨fun i x y h0 hi hx hy => ?_, fun i x y h0 hp hpi hx hy => ?_⟩
  · have hl := (List.getElem?_eq_some_iff.mp hx).1
    rw [List.length_append, List.length_singleton] at hl
    have hil : i < l.length := by omega
    have hpl := par_lt h0
    rw [List.getElem?_append_left hil] at hx
    rw [List.getElem?_append_left (by omega)] at hy
    exact h i x y h0 hx hy
  · have hl := (List.getElem?_eq_some_iff.mp hx).1
    rw [List.length_append, List.length_singleton] at hl
    have := par_lt h0
    omega
theorem heap_dropLast {l : List α} (h : IsHeap lt l) : IsHeap lt l.dropLast := by
  intro i x y h0 hx hy
  rw [List.dropLast_eq_take, List.getElem?_take] at hx hy
  split at hx
  · split at hy
    · exact h i x y h0 hx hy
    · cases hy
  · cases hx
end Kp
/-! heappush and heappop of a list of tuples, by their data. -/
namespace Ka
open PySem PySem.Spec PyProof.Rows L2 PySem.W PySem.SeqAt
theorem plain_push : plainId "_heapq.heappush" = true := by decide +kernel
theorem plain_pop : plainId "_heapq.heappop" = true := by decide +kernel
theorem plain_sift : plainId "_heapq.heapify.sift" = true := by decide +kernel
theorem kind_push : builtinKind "_heapq.heappush" = none := by decide +kernel
theorem kind_pop : builtinKind "_heapq.heappop" = none := by decide +kernel
theorem entry_push : entryFor table "_heapq.heappush" = some Builtin.«_heapq.heappush» := entryFor_of_fast (by kernel_rfl)
theorem entry_pop : entryFor table "_heapq.heappop" = some Builtin.«_heapq.heappop» := entryFor_of_fast (by kernel_rfl)
theorem entry_sift : entryFor table "_heapq.heapify.sift" = some Builtin.«_heapq.heapify.sift» := entryFor_of_fast (by kernel_rfl)
theorem args_push (a b : Value) : argsOk "_heapq.heappush" ⟨[a, b], []⟩ := by unfold argsOk; kernel_rfl
theorem args_pop (a : Value) : argsOk "_heapq.heappop" ⟨[a], []⟩ := by unfold argsOk; kernel_rfl
theorem sub_list : isSubtype (.type "list") (.type "list") = pure true := by rw [isSubtype_type]; kernel_rfl
/-- an item with its data -/
abbrev HZ := V × PyData
def hzV (zs : List HZ) : List V := zs.map (·.1)
theorem hzV_len (zs : List HZ) : (hzV zs).length = zs.length := List.length_map _
def hzLt (a b : HZ) : Bool := dataLt a.2 b.2
/-- the data stands so long as the tuples stand -/
def DpS (K : PySem.W.Frag) (H : Hp) (z : HZ) : Prop := ∀ H' : Hp, (∀ b xs, H b = some (.tup xs) → H' b = some (.tup xs)) → Dp K H' z.1 z.2
structure HzOk (K : PySem.W.Frag) (H : Hp) (zs : List HZ) : Prop where
  st : ∀ z ∈ zs, DpS K H z
  al : ∀ z ∈ zs, ∀ y ∈ zs, alike z.2 y.2 = true
  nn : ∀ z ∈ zs, z.2 ≠ .none
  dep : ∀ z ∈ zs, z.2.depth ≤ 50
theorem HzOk.sub {K : PySem.W.Frag} {H : Hp} {zs ys : List HZ} (h : HzOk K H zs) (s : ∀ y ∈ ys, y ∈ zs) : HzOk K H ys :=
  ⟨fun z hz => h.st z (s z hz), fun z hz y hy => h.al z (s z hz) y (s y hy), fun z hz => h.nn z (s z hz), fun z hz => h.dep z (s z hz)⟩
theorem hz_at {zs : List HZ} {its : List Value} (r : Vals (hzV zs) its) {i : Nat} {z : HZ} (h : zs[i]? = some z) : ∃ u, its[i]? = some u ∧ RelV z.1 u := r.get (x := z.1) (by unfold hzV; rw [List.getElem?_map, h]; rfl)
theorem swp_vals {zs : List HZ} {its : List Value} (r : Vals (hzV zs) its) {i j : Nat} {x y : HZ} {u v : Value} (hu : RelV x.1 u) (hv : RelV y.1 v) : Vals (hzV (Kp.swp zs i j x y)) ((its.set i v).set j u) := by
  have := Vals.set hu j (Vals.set hv i r)
  unfold Kp.swp hzV
  rw [List.map_set, List.map_set]
  exact this
section
variable {X : Cx} {pins : List (Addr × Obj)} {σ : L2.St} {H : Hp} {a : Addr} {xs0 : List V}
/-- the heap with the list at a -/
abbrev HL (H : Hp) (a : Addr) (zs : List HZ) : Hp := upd H a (.lst (hzV zs))
theorem HL.lst (zs : List HZ) : HL H a zs a = some (.lst (hzV zs)) := upd_same
theorem hl_tup (ha : H a = some (.lst xs0)) (zs : List HZ) : ∀ b xs, H b = some (.tup xs) → HL H a zs b = some (.tup xs) := fun b xs e => by
  show upd H a _ b = _
  rw [upd_ne (fun q => by rw [q, ha] at e; cases e)]
  exact e
/-- two items compared, at any state on the way -/
theorem hz_less (hu : X.A.units + 64 < cLine) (ha : H a = some (.lst xs0)) {ys zs : List HZ} (ok : HzOk X.K H ys) {s : Shared} (I : Inv X pins σ (HL H a zs) s) {x y : HZ} (hx : x ∈ ys) (hy : y ∈ ys) {u v : Value} (ru : RelV x.1 u) (rv : RelV y.1 v) : RcLt X.A.in1 s u v (hzLt x y) := by
  obtain ⟨as, r1⟩ := Dp.reads I x.2 x.1 u (ok.st x hx _ (hl_tup ha zs)) ru
  obtain ⟨bs, r2⟩ := Dp.reads I y.2 y.1 v (ok.st y hy _ (hl_tup ha zs)) rv
  refine rcLt_alike _ _ _ s u v _ _ r1 r2 (ok.al x hx y hy) (ok.nn x hx) ?_
  have h1 := ok.dep x hx
  have h2 : X.A.in1.units = X.A.units + 1 := rfl
  have := Nat.min_le_left x.2.depth y.2.depth
  omega
theorem hl_obj {zs : List HZ} {s : Shared} (I : Inv X pins σ (HL H a zs) s) : ∃ (its : List Value) (n : Nat), Vals (hzV zs) its ∧ s.heap.get? a = some { cls := .type "list", data := .seq its.toArray n } ∧ (hzV zs).length ≤ sizeLine := I.lst HL.lst'
  where HL.lst' : HL H a zs a = some (.lst (hzV zs)) := upd_same
theorem hl_upd {zs zs' : List HZ} {s : Shared} {its its' : List Value} {n n' : Nat} {f : Obj → Obj} (I : Inv X pins σ (HL H a zs) s) (ho : s.heap.get? a = some { cls := .type "list", data := .seq its.toArray n })
    (hf : f { cls := .type "list", data := .seq its.toArray n } = { cls := .type "list", data := .seq its'.toArray n' }) (r : Vals (hzV zs') its') (hz : (hzV zs').length ≤ sizeLine) : Inv X pins σ (HL H a zs') { s with heap := s.heap.update a f } := by
  have := I.lstUpd (p := a) upd_same ho hf r hz s.toks
  rw [upd_upd] at this
  exact this
theorem hl_set {zs zs' : List HZ} {s : Shared} {its its' : List Value} {n : Nat} {f : Array Value → Array Value} (I : Inv X pins σ (HL H a zs) s) (ho : s.heap.get? a = some { cls := .type "list", data := .seq its.toArray n })
    (hf : f its.toArray = its'.toArray) (r : Vals (hzV zs') its') (hz : (hzV zs').length ≤ sizeLine) : Inv X pins σ (HL H a zs') { s with heap := s.heap.update a (Obj.mapSeq f) } := by
  have := I.lset (l := a) (t' := s.toks) upd_same ho hf r hz
  rw [upd_upd] at this
  exact this
/-- up -/
theorem sift_up (o : Kp.Ord hzLt) (hu : X.A.units + 64 < cLine) (ha : H a = some (.lst xs0)) {ys : List HZ} (ok : HzOk X.K H ys) {result : Value} {R : Result → Shared → Prop} : ∀ (n pos : Nat) (zs : List HZ) (s : Shared), pos ≤ n → pos < zs.length → zs.Perm ys → Inv X pins σ (HL H a zs) s → Kp.Up hzLt zs pos →
    (∀ (zs' : List HZ) (s' : Shared), zs'.Perm ys → Kp.IsHeap hzLt zs' → Inv X pins σ (HL H a zs') s' → R (.ok (.ret result)) s') →
    codeAny (model X.prog X.w) X.A (.builtin "_heapq.heapify.sift" ⟨[.ref a, .bool false, .bool false, rawInt pos, rawInt 0, result, rawInt (-1)], []⟩) R s := by
  intro n
  induction n with
  | zero =>
    intro pos zs s hpn hpl hp I hup hR
    obtain rfl : pos = 0 := by omega
    obtain ⟨its, m, rv, hob, hz⟩ := hl_obj I
    refine codeAny_builtin entry_sift ?_
    rw [Around.under_plainId plain_sift _]
    show wpAny _ X.A.in1 ((seqItems? (.ref a) >>= _) >>= _) _ _ s
    refine wpAny_bind (wpAny_bind (wpAny_seqItems hob rfl ?_))
    refine wpAny_pure ?_
    show wpAny _ X.A.in1 (ret result) _ _ s
    refine wpAny_pure ?_
    exact hR zs s hp (Kp.up_done zs hup (.inl rfl)) I
  | succ n ih =>
    intro pos zs s hpn hpl hp I hup hR
    obtain ⟨its, m, rv, hob, hz⟩ := hl_obj I
    have hlen : its.length = zs.length := by rw [← rv.length, hzV_len]
    refine codeAny_builtin entry_sift ?_
    rw [Around.under_plainId plain_sift _]
    show wpAny _ X.A.in1 ((seqItems? (.ref a) >>= _) >>= _) _ _ s
    refine wpAny_bind (wpAny_bind (wpAny_seqItems hob rfl ?_))
    refine wpAny_pure ?_
    by_cases h0 : pos = 0
    · subst h0
      show wpAny _ X.A.in1 (ret result) _ _ s
      refine wpAny_pure ?_
      exact hR zs s hp (Kp.up_done zs hup (.inl rfl)) I
    · have hq : Kp.par pos < pos := Kp.par_lt (by omega)
      have hx : zs[pos]? = some zs[pos] := List.getElem?_eq_getElem hpl
      have hy : zs[Kp.par pos]? = some (zs[Kp.par pos]'(by omega)) := List.getElem?_eq_getElem (by omega)
      generalize zs[pos] = x at hx
      generalize zs[Kp.par pos]'(by omega) = y at hy
      obtain ⟨u, hu1, ru⟩ := hz_at rv hx
      obtain ⟨v, hv1, rv1⟩ := hz_at rv hy
      have hxm : x ∈ ys := hp.subset (List.mem_of_getElem? hx)
      have hym : y ∈ ys := hp.subset (List.mem_of_getElem? hy)
      show wpAny _ X.A.in1 (if pos > 0 then _ else _) _ _ s
      rw [if_pos (by omega)]
      have e1 : its.toArray[pos]? = some u := by simpa using hu1
      have e2 : its.toArray[(pos - 1) / 2]? = some v := by
        show its.toArray[Kp.par pos]? = some v
        simpa using hv1
      refine wpAny_bind (wpAny_of_eq (a := u) (by show (match its.toArray[pos]? with | some v => (pure v : Sem Value) | none => unsupported _) = _; rw [e1]) ?_)
      refine wpAny_bind (wpAny_of_eq (a := v) (by show (match its.toArray[(pos - 1) / 2]? with | some v => (pure v : Sem Value) | none => unsupported _) = _; rw [e2]) ?_)
      show wpAny _ X.A.in1 ((holding [u, v] (richCompare .Lt u v >>= _) >>= _) >>= _) _ _ s
      refine wpAny_bind (wpAny_bind (wpAny_holding (wpAny_bind (hz_less hu ha ok I hxm hym ru rv1 _ _ _ _ ?_))))
      refine wpAny_truthy_bool ?_
      show wpAny _ X.A.in1 ((seqItems? (.ref a) >>= _) >>= _) _ _ s
      refine wpAny_bind (wpAny_bind (wpAny_seqItems hob rfl ?_))
      refine wpAny_pure ?_
      show wpAny _ X.A.in1 (if (its.toArray.size != its.toArray.size) = true then _ else pure (hzLt x y)) _ _ s
      rw [if_neg (by simp)]
      refine wpAny_pure ?_
      cases hxy : hzLt x y with
      | false =>
        show wpAny _ X.A.in1 (ret result) _ _ s
        refine wpAny_pure ?_
        exact hR zs s hp (Kp.up_done zs hup (.inr fun x' y' hx' hy' => by
          rw [hx] at hx'
          rw [hy] at hy'
          cases hx'
          cases hy'
          exact hxy)) I
      | true =>
        show wpAny _ X.A.in1 (((seqItems? (.ref a) >>= _) >>= _) >>= _) _ _ s
        refine wpAny_bind (wpAny_bind (wpAny_bind (wpAny_seqItems hob rfl ?_)))
        refine wpAny_pure ?_
        refine wpAny_bind (wpAny_of_eq (a := v) (by show (match its.toArray[(pos - 1) / 2]? with | some v => (pure v : Sem Value) | none => unsupported _) = _; rw [e2]) ?_)
        refine wpAny_bind (wpAny_of_eq (a := u) (by show (match its.toArray[pos]? with | some v => (pure v : Sem Value) | none => unsupported _) = _; rw [e1]) ?_)
        refine wpAny_updateSeq hob rfl ?_ (by rw [List.size_toArray, hlen, ← hzV_len]; exact hz) (by rw [Array.size_setIfInBounds, Array.size_setIfInBounds, List.size_toArray, hlen, ← hzV_len]; omega)
        refine wpAny_pure ⟨plainId_quiet plain_sift _, ih (Kp.par pos) (Kp.swp zs (Kp.par pos) pos y x) _ (by omega) (by rw [Kp.swp_len]; omega) ((Kp.swp_perm hy hx).trans hp) ?_ (Kp.up_step o hup (by omega) hx hy hxy) hR⟩
        exact hl_upd (its' := (its.set ((pos - 1) / 2) u).set pos v) (n' := m) I hob (by simp [Obj.mapSeq]) (swp_vals rv rv1 ru) (by rw [hzV_len, Kp.swp_len, ← hzV_len]; exact hz)
theorem par_l (p : Nat) : Kp.par (2 * p + 1) = p := by unfold Kp.par; omega
theorem par_r (p : Nat) : Kp.par (2 * p + 1 + 1) = p := by unfold Kp.par; omega
theorem par_two {i p : Nat} (h0 : 0 < i) (h : Kp.par i = p) : i = 2 * p + 1 ∨ i = 2 * p + 1 + 1 := by unfold Kp.par at h; omega
/-- down -/
theorem sift_down (o : Kp.Ord hzLt) (hu : X.A.units + 64 < cLine) (ha : H a = some (.lst xs0)) {ys : List HZ} (ok : HzOk X.K H ys) {result : Value} {R : Result → Shared → Prop} : ∀ (n pos : Nat) (zs : List HZ) (s : Shared), zs.length ≤ pos + n → pos < zs.length → zs.Perm ys → Inv X pins σ (HL H a zs) s → Kp.But hzLt zs pos →
    (∀ (zs' : List HZ) (s' : Shared), zs'.Perm ys → Kp.IsHeap hzLt zs' → Inv X pins σ (HL H a zs') s' → R (.ok (.ret result)) s') →
    codeAny (model X.prog X.w) X.A (.builtin "_heapq.heapify.sift" ⟨[.ref a, .bool false, .bool true, rawInt pos, rawInt 0, result, rawInt (-1)], []⟩) R s := by
  intro n
  induction n with
  | zero =>
    intro pos zs s hpn hpl
    omega
  | succ n ih =>
    intro pos zs s hpn hpl hp I hbut hR
    obtain ⟨its, m, rv, hob, hz⟩ := hl_obj I
    have hlen : its.length = zs.length := by rw [← rv.length, hzV_len]
    have hsz : its.toArray.size = zs.length := by rw [List.size_toArray, hlen]
    refine codeAny_builtin entry_sift ?_
    rw [Around.under_plainId plain_sift _]
    show wpAny _ X.A.in1 ((seqItems? (.ref a) >>= _) >>= _) _ _ s
    refine wpAny_bind (wpAny_bind (wpAny_seqItems hob rfl ?_))
    refine wpAny_pure ?_
    show wpAny _ X.A.in1 (if pos < its.toArray.size / 2 then _ else _) _ _ s
    by_cases hh : pos < zs.length / 2
    · rw [if_pos (by rw [hsz]; exact hh)]
      have hll : 2 * pos + 1 < zs.length := by omega
      have hyp : zs[pos]? = some zs[pos] := List.getElem?_eq_getElem hpl
      generalize zs[pos] = y at hyp
      obtain ⟨v, hv1, rvy⟩ := hz_at rv hyp
      have ey : its.toArray[pos]? = some v := by simpa using hv1
      -- the swap, once the child is known
      have swap : ∀ (c : Nat) (x : HZ) (jp : Unit → Nat → Sem Fin), 0 < c → Kp.par c = pos → zs[c]? = some x → (∀ (i : Nat) (z : HZ), 0 < i → Kp.par i = pos → zs[i]? = some z → hzLt z x = false) →
          ∀ (u : Value), its.toArray[c]? = some u → RelV x.1 u →
          ∃ s' : Shared, s' = { s with heap := s.heap.update a (Obj.mapSeq fun xs => (xs.setIfInBounds c v).setIfInBounds pos u) } ∧ Inv X pins σ (HL H a (Kp.swp zs c pos x y)) s' ∧
            codeAny (model X.prog X.w) X.A (.builtin "_heapq.heapify.sift" ⟨[.ref a, .bool false, .bool true, rawInt c, rawInt 0, result, rawInt (-1)], []⟩) R s' := by
        intro c x _ hc0 hcp hxc hmin u hu1 ru
        have hcl := (List.getElem?_eq_some_iff.mp hxc).1
        have hlt : pos < c := by have := Kp.par_lt hc0; omega
        have I' : Inv X pins σ (HL H a (Kp.swp zs c pos x y)) { s with heap := s.heap.update a (Obj.mapSeq fun xs => (xs.setIfInBounds c v).setIfInBounds pos u) } :=
          hl_upd (its' := (its.set c v).set pos u) (n' := m) I hob (by simp [Obj.mapSeq]) (swp_vals rv ru rvy) (by rw [hzV_len, Kp.swp_len, ← hzV_len]; exact hz)
        exact ⟨_, rfl, I', ih c _ _ (by rw [Kp.swp_len]; omega) (by rw [Kp.swp_len]; exact hcl) ((Kp.swp_perm hxc hyp).trans hp) I' (Kp.but_step o hbut hc0 hcp hxc hyp hmin) hR⟩
      have hxl : zs[2 * pos + 1]? = some zs[2 * pos + 1] := List.getElem?_eq_getElem hll
      generalize zs[2 * pos + 1] = xl at hxl
      obtain ⟨ul, hul, rul⟩ := hz_at rv hxl
      have el : its.toArray[2 * pos + 1]? = some ul := by simpa using hul
      show wpAny _ X.A.in1 (if 2 * pos + 1 + 1 < its.toArray.size then _ else _) _ _ s
      by_cases hr : 2 * pos + 1 + 1 < zs.length
      · rw [if_pos (by rw [hsz]; exact hr)]
        have hxr : zs[2 * pos + 1 + 1]? = some zs[2 * pos + 1 + 1] := List.getElem?_eq_getElem hr
        generalize zs[2 * pos + 1 + 1] = xr at hxr
        obtain ⟨ur, hur, rur⟩ := hz_at rv hxr
        have er : its.toArray[2 * pos + 1 + 1]? = some ur := by simpa using hur
        have hlm : xl ∈ ys := hp.subset (List.mem_of_getElem? hxl)
        have hrm : xr ∈ ys := hp.subset (List.mem_of_getElem? hxr)
        refine wpAny_bind (wpAny_of_eq (a := ul) (by show (match its.toArray[2 * pos + 1]? with | some v => (pure v : Sem Value) | none => unsupported _) = _; rw [el]) ?_)
        refine wpAny_bind (wpAny_of_eq (a := ur) (by show (match its.toArray[2 * pos + 1 + 1]? with | some v => (pure v : Sem Value) | none => unsupported _) = _; rw [er]) ?_)
        show wpAny _ X.A.in1 ((holding [ul, ur] (richCompare .Lt ul ur >>= _) >>= _) >>= _) _ _ s
        refine wpAny_bind (wpAny_bind (wpAny_holding (wpAny_bind (hz_less hu ha ok I hlm hrm rul rur _ _ _ _ ?_))))
        refine wpAny_truthy_bool ?_
        show wpAny _ X.A.in1 ((seqItems? (.ref a) >>= _) >>= _) _ _ s
        refine wpAny_bind (wpAny_bind (wpAny_seqItems hob rfl ?_))
        refine wpAny_pure ?_
        show wpAny _ X.A.in1 (if (its.toArray.size != its.toArray.size) = true then _ else pure (hzLt xl xr)) _ _ s
        rw [if_neg (by simp)]
        refine wpAny_pure ?_
        cases hlr : hzLt xl xr with
        | true =>
          obtain ⟨s', rfl, I', hC⟩ := swap (2 * pos + 1) xl (fun _ _ => ret result) (by omega) (par_l pos) hxl (fun i z hi0 hip hz' => by
            rcases par_two hi0 hip with rfl | rfl
            · rw [hxl] at hz'
              cases hz'
              exact o.irr _
            · rw [hxr] at hz'
              cases hz'
              exact o.asym _ _ hlr) ul el rul
          show wpAny _ X.A.in1 (((seqItems? (.ref a) >>= _) >>= _) >>= _) _ _ s
          refine wpAny_bind (wpAny_bind (wpAny_bind (wpAny_seqItems hob rfl ?_)))
          refine wpAny_pure ?_
          refine wpAny_bind (wpAny_of_eq (a := ul) (by show (match its.toArray[2 * pos + 1]? with | some v => (pure v : Sem Value) | none => unsupported _) = _; rw [el]) ?_)
          refine wpAny_bind (wpAny_of_eq (a := v) (by show (match its.toArray[pos]? with | some v => (pure v : Sem Value) | none => unsupported _) = _; rw [ey]) ?_)
          refine wpAny_updateSeq hob rfl ?_ (by rw [List.size_toArray, hlen, ← hzV_len]; exact hz) (by rw [Array.size_setIfInBounds, Array.size_setIfInBounds, List.size_toArray, hlen, ← hzV_len]; omega)
          exact wpAny_pure ⟨plainId_quiet plain_sift _, hC⟩
        | false =>
          obtain ⟨s', rfl, I', hC⟩ := swap (2 * pos + 1 + 1) xr (fun _ _ => ret result) (by omega) (par_r pos) hxr (fun i z hi0 hip hz' => by
            rcases par_two hi0 hip with rfl | rfl
            · rw [hxl] at hz'
              cases hz'
              exact hlr
            · rw [hxr] at hz'
              cases hz'
              exact o.irr _) ur er rur
          show wpAny _ X.A.in1 (((seqItems? (.ref a) >>= _) >>= _) >>= _) _ _ s
          refine wpAny_bind (wpAny_bind (wpAny_bind (wpAny_seqItems hob rfl ?_)))
          refine wpAny_pure ?_
          refine wpAny_bind (wpAny_of_eq (a := ur) (by show (match its.toArray[2 * pos + 1 + 1]? with | some v => (pure v : Sem Value) | none => unsupported _) = _; rw [er]) ?_)
          refine wpAny_bind (wpAny_of_eq (a := v) (by show (match its.toArray[pos]? with | some v => (pure v : Sem Value) | none => unsupported _) = _; rw [ey]) ?_)
          refine wpAny_updateSeq hob rfl ?_ (by rw [List.size_toArray, hlen, ← hzV_len]; exact hz) (by rw [Array.size_setIfInBounds, Array.size_setIfInBounds, List.size_toArray, hlen, ← hzV_len]; omega)
          exact wpAny_pure ⟨plainId_quiet plain_sift _, hC⟩
      · rw [if_neg (by rw [hsz]; exact hr)]
        obtain ⟨s', rfl, I', hC⟩ := swap (2 * pos + 1) xl (fun _ _ => ret result) (by omega) (par_l pos) hxl (fun i z hi0 hip hz' => by
          rcases par_two hi0 hip with rfl | rfl
          · rw [hxl] at hz'
            cases hz'
            exact o.irr _
          · have := (List.getElem?_eq_some_iff.mp hz').1
            omega) ul el rul
        show wpAny _ X.A.in1 (((seqItems? (.ref a) >>= _) >>= _) >>= _) _ _ s
        refine wpAny_bind (wpAny_bind (wpAny_bind (wpAny_seqItems hob rfl ?_)))
        refine wpAny_pure ?_
        refine wpAny_bind (wpAny_of_eq (a := ul) (by show (match its.toArray[2 * pos + 1]? with | some v => (pure v : Sem Value) | none => unsupported _) = _; rw [el]) ?_)
        refine wpAny_bind (wpAny_of_eq (a := v) (by show (match its.toArray[pos]? with | some v => (pure v : Sem Value) | none => unsupported _) = _; rw [ey]) ?_)
        refine wpAny_updateSeq hob rfl ?_ (by rw [List.size_toArray, hlen, ← hzV_len]; exact hz) (by rw [Array.size_setIfInBounds, Array.size_setIfInBounds, List.size_toArray, hlen, ← hzV_len]; omega)
        exact wpAny_pure ⟨plainId_quiet plain_sift _, hC⟩
    · rw [if_neg (by rw [hsz]; exact hh)]
      show wpAny _ X.A.in1 (again _) _ _ s
      refine wpAny_pure ⟨plainId_quiet plain_sift _, sift_up o hu ha ok pos pos zs s (Nat.le_refl _) hpl hp I (Kp.but_up hbut hh) hR⟩
theorem hz_ord : Kp.Ord hzLt where
  asym := fun a b h => by
    unfold hzLt dataLt at *
    cases h2 : PyProof.Rows.lexLt itemOrd (keyToks b.2) (keyToks a.2) with
    | false => rfl
    | true =>
      have := lex_trans _ _ _ h h2
      rw [lex_irrefl] at this
      cases this
  cot := fun a b c h1 h2 => by
    unfold hzLt dataLt at *
    cases h3 : PyProof.Rows.lexLt itemOrd (keyToks a.2) (keyToks c.2) with
    | false => rfl
    | true =>
      rcases lex_negTrans _ (keyToks b.2) _ h3 with z | z
      · rw [h1] at z
        cases z
      · rw [h2] at z
        cases z
/-- heappush(l, x) -/
def rPush (K : PySem.W.Frag) : List V → Hp → VK → Prop := fun vs H Q => ∃ (a : Addr) (z : HZ) (zs : List HZ), vs = [.ref a, z.1] ∧ H a = some (.lst (hzV zs)) ∧ HzOk K H (zs ++ [z]) ∧ zs.length < 1000000 ∧ Kp.IsHeap hzLt zs ∧
  ∀ ys, ys.Perm (zs ++ [z]) → Kp.IsHeap hzLt ys → Q .non (upd H a (.lst (hzV ys)))
theorem cr_push (hu : X.A.units + 64 < cLine) : CallR X (.builtin "_heapq.heappush") (rPush X.K) := by
  intro pins s σ H vs us Q I r h
  obtain ⟨a, z, zs, rfl, ha, ok, hlen, hh, q⟩ := h
  obtain ⟨u1, u, rfl, r1, ru⟩ := vals2 r
  cases (show u1 = Value.ref a from r1)
  have h0 : upd H a (.lst (hzV zs)) = H := by
    funext b
    by_cases e : b = a
    · rw [e, upd_same, ha]
    · rw [upd_ne e]
  have I0 : Inv X pins σ (HL H a zs) s := by
    show Inv X pins σ (upd H a (.lst (hzV zs))) s
    rw [h0]
    exact I
  obtain ⟨its, m, rv, hob, hz⟩ := hl_obj I0
  have hil : its.length = zs.length := by rw [← rv.length, hzV_len]
  refine call_function_tree kind_push plain_push entry_push (args_push _ _) ?_
  show wpAny _ X.A.in1 ((noKeywords "_heapq.heappush" ⟨[.ref a, u], []⟩ >>= _) >>= _) _ _ s
  refine wpAny_bind (wpAny_bind (wpAny_of_eq (show noKeywords "_heapq.heappush" ⟨[.ref a, u], []⟩ = pure () from rfl) ?_))
  refine wpAny_bind (wpAny_of_eq (show checkCount "heappush" 2 2 ([.ref a, u] : List Value).length = pure () from rfl) ?_)
  show wpAny _ X.A.in1 ((isInstance (.ref a) (.type "list") >>= _) >>= _) _ _ s
  refine wpAny_bind (wpAny_bind (wpAny_isInstance (T := "list") (b := true) ⟨_, hob, rfl⟩ sub_list ?_))
  show wpAny _ X.A.in1 (pure a) _ _ s
  refine wpAny_pure (wpAny_pure ?_)
  show wpAny _ X.A.in1 (updateSeq a (·.push u) >>= _) _ _ s
  refine wpAny_bind (wpAny_updateSeq hob rfl ?_ (by rw [List.size_toArray, hil, ← hzV_len]; exact hz) (by rw [Array.size_push, List.size_toArray, hil, ← hzV_len]; omega))
  have l6 : zs.length + 1 ≤ sizeLine := by rw [sizeLine_eq]; omega
  have I1 : Inv X pins σ (HL H a (zs ++ [z])) { s with heap := s.heap.update a (Obj.mapSeq (·.push u)) } :=
    hl_set (its' := its ++ [u]) I0 hob (by simp) (by unfold hzV; rw [List.map_append]; exact rv.append (.cons ru .nil)) (by rw [hzV_len, List.length_append, List.length_singleton]; exact l6)
  obtain ⟨its1, m1, rv1, hob1, hz1⟩ := hl_obj I1
  have hil1 : its1.length = zs.length + 1 := by rw [← rv1.length, hzV_len, List.length_append, List.length_singleton]
  show wpAny _ X.A.in1 (((seqItems? (.ref a) >>= _) >>= _)) _ _ _
  refine wpAny_bind (wpAny_bind (wpAny_seqItems hob1 rfl ?_))
  refine wpAny_pure ?_
  show wpAny _ X.A.in1 (again (.builtin "_heapq.heapify.sift" ⟨[.ref a, .bool false, .bool false, rawInt ((its1.toArray.size - 1 : Nat)), rawInt ((0 : Nat)), .none, rawInt (-1)], []⟩)) _ _ _
  have hsz1 : its1.toArray.size - 1 = zs.length := by
    rw [List.size_toArray, hil1]
    omega
  rw [hsz1]
  refine wpAny_pure ⟨plainId_quiet plain_sift _, sift_up hz_ord hu ha ok zs.length zs.length (zs ++ [z]) _ (Nat.le_refl _) (by rw [List.length_append, List.length_singleton]; omega) (List.Perm.refl _) I1 (Kp.up_of_heap hh z) fun ys s' hp hh' I' => ?_⟩
  exact ⟨.non, _, I', rfl, q ys hp hh'⟩
/-- heappop(l), l not empty -/
def rPop (K : PySem.W.Frag) : List V → Hp → VK → Prop := fun vs H Q => ∃ (a : Addr) (zs : List HZ), vs = [.ref a] ∧ H a = some (.lst (hzV zs)) ∧ HzOk K H zs ∧ 0 < zs.length ∧ Kp.IsHeap hzLt zs ∧
  ∀ (z : HZ) (ys : List HZ), zs.Perm (z :: ys) → Kp.IsHeap hzLt ys → (∀ y ∈ ys, hzLt y z = false) → Q z.1 (upd H a (.lst (hzV ys)))
theorem cr_pop (hu : X.A.units + 64 < cLine) : CallR X (.builtin "_heapq.heappop") (rPop X.K) := by
  intro pins s σ H vs us Q I r h
  obtain ⟨a, zs, rfl, ha, ok, hpos, hh, q⟩ := h
  rw [Vals.ref1 r]
  have h0 : upd H a (.lst (hzV zs)) = H := by
    funext b
    by_cases e : b = a
    · rw [e, upd_same, ha]
    · rw [upd_ne e]
  have I0 : Inv X pins σ (HL H a zs) s := by
    show Inv X pins σ (upd H a (.lst (hzV zs))) s
    rw [h0]
    exact I
  obtain ⟨its, m, rv, hob, hz⟩ := hl_obj I0
  have hil : its.length = zs.length := by rw [← rv.length, hzV_len]
  have hxl : zs[zs.length - 1]? = some (zs[zs.length - 1]'(by omega)) := List.getElem?_eq_getElem (by omega)
  generalize zs[zs.length - 1]'(by omega) = zl at hxl
  obtain ⟨ul, hul, rul⟩ := hz_at rv hxl
  have hx0 : zs[0]? = some (zs[0]'hpos) := List.getElem?_eq_getElem hpos
  generalize zs[0]'hpos = z0 at hx0
  obtain ⟨u0, hu0, ru0⟩ := hz_at rv hx0
  have hback : its.toArray.back? = some ul := by
    rw [Array.back?_eq_getElem?]
    simp only [List.size_toArray, List.getElem?_toArray]
    rw [hil]
    exact hul
  have hroot := Kp.root_least hz_ord hh hx0
  refine call_function_tree kind_pop plain_pop entry_pop (args_pop _) ?_
  show wpAny _ X.A.in1 ((oneArg "_heapq.heappop" ⟨[.ref a], []⟩ >>= _) >>= _) _ _ s
  refine wpAny_bind (wpAny_bind (wpAny_of_eq (show oneArg "_heapq.heappop" ⟨[.ref a], []⟩ = pure (.ref a) from rfl) ?_))
  show wpAny _ X.A.in1 ((isInstance (.ref a) (.type "list") >>= _) >>= _) _ _ s
  refine wpAny_bind (wpAny_bind (wpAny_isInstance (T := "list") (b := true) ⟨_, hob, rfl⟩ sub_list ?_))
  show wpAny _ X.A.in1 (pure a) _ _ s
  refine wpAny_pure (wpAny_pure ?_)
  show wpAny _ X.A.in1 ((seqItems? (.ref a) >>= _) >>= _) _ _ s
  refine wpAny_bind (wpAny_bind (wpAny_seqItems hob rfl ?_))
  refine wpAny_pure ?_
  simp only [hback]
  have hlz : (hzV zs).length = zs.length := hzV_len zs
  refine wpAny_bind (wpAny_updateSeq hob rfl ?_ (by rw [List.size_toArray, hil, ← hzV_len]; exact hz) (by rw [Array.size_pop, List.size_toArray, hil]; omega))
  have I1 : Inv X pins σ (HL H a zs.dropLast) { s with heap := s.heap.update a (Obj.mapSeq (·.pop)) } :=
    hl_set (its' := its.dropLast) I0 hob (by simp) (by unfold hzV; rw [List.map_dropLast, List.dropLast_eq_take, List.dropLast_eq_take, List.length_map, hil]; exact rv.take _) (by rw [hzV_len, List.length_dropLast]; omega)
  obtain ⟨its1, m1, rv1, hob1, hz1⟩ := hl_obj I1
  by_cases h1 : zs.length = 1
  · rw [if_pos (by rw [List.size_toArray, hil, h1]; rfl)]
    match zs, h1, hxl, q, I1 with
    | [z], _, hxl, q, I1 =>
      cases hxl
      refine wpAny_pure ⟨zl.1, _, I1, rul, ?_⟩
      exact q zl [] (List.Perm.refl _) Kp.heap_nil fun y hy => nomatch hy
  · rw [if_neg (by rw [List.size_toArray, hil]; simpa using h1)]
    obtain ⟨mid, hmid⟩ : ∃ mid, zs = z0 :: (mid ++ [zl]) := by
      match zs, h1, hx0, hxl with
      | [], _, hx0, _ => cases hx0
      | x :: rest, h1, hx0, hxl =>
        cases hx0
        have hr : rest ≠ [] := fun e => h1 (by rw [e]; rfl)
        refine ⟨rest.dropLast, ?_⟩
        have hg : rest.getLast hr = zl := by
          have : (z0 :: rest)[(z0 :: rest).length - 1]? = some (rest.getLast hr) := by
            rw [List.length_cons, Nat.add_sub_cancel]
            cases rest with
            | nil => exact absurd rfl hr
            | cons y t =>
              rw [List.length_cons, List.getElem?_cons_succ, List.getLast_eq_getElem]
              simp
          rw [hxl] at this
          exact (Option.some.inj this).symm
        rw [← hg, List.dropLast_concat_getLast]
    have e0 : its.toArray[0]? = some u0 := by simpa using hu0
    refine wpAny_bind (wpAny_of_eq (a := u0) (by show (match its.toArray[0]? with | some v => (pure v : Sem Value) | none => unsupported _) = _; rw [e0]) ?_)
    have hil1 : its1.length = zs.dropLast.length := by rw [← rv1.length, hzV_len]
    refine wpAny_bind (wpAny_updateSeq hob1 rfl ?_ (by rw [List.size_toArray, hil1, ← hzV_len]; exact hz1) (by rw [Array.size_setIfInBounds, List.size_toArray, hil1, ← hzV_len]; omega))
    have hdl : zs.dropLast = z0 :: mid := by
      rw [hmid, ← List.cons_append, List.dropLast_concat]
    have hset : zs.dropLast.set 0 zl = zl :: mid := by rw [hdl]; rfl
    have hperm : (zl :: mid).Perm (zl :: mid) := List.Perm.refl _
    have hsub : ∀ y ∈ zl :: mid, y ∈ zs := fun y hy => by
      rw [hmid]
      rcases List.mem_cons.mp hy with e | e
      · rw [e]
        exact List.mem_cons_of_mem _ (List.mem_append_right _ List.mem_cons_self)
      · exact List.mem_cons_of_mem _ (List.mem_append_left _ e)
    have I2 := hl_set (zs' := zl :: mid) (its' := its1.set 0 ul) (f := fun xs => xs.setIfInBounds 0 ul) I1 hob1 (by simp) (by rw [← hset]; unfold hzV; rw [List.map_set]; exact Vals.set rul 0 rv1) (by rw [hzV_len, ← hset, List.length_set, ← hzV_len]; exact hz1)
    have hbut : Kp.But hzLt (zl :: mid) 0 := by
      rw [← hset]
      exact Kp.but_of_heap (Kp.heap_dropLast hh) zl
    refine wpAny_pure ⟨plainId_quiet plain_sift _, sift_down hz_ord hu ha (ok.sub hsub) (zl :: mid).length 0 (zl :: mid) _ (by omega) (Nat.succ_pos _) hperm I2 hbut fun ys s' hp hh' I' => ?_⟩
    refine ⟨z0.1, _, I', ru0, q z0 ys ?_ hh' fun y hy => ?_⟩
    · rw [hmid]
      refine List.Perm.cons _ ?_
      exact (List.perm_append_comm (l₁ := mid) (l₂ := [zl])).trans hp.symm
    · obtain ⟨i, hi⟩ := List.mem_iff_getElem?.mp (hsub y (hp.subset hy))
      exact hroot i y hi
end
end Ka
/-! sorted(l) of a list of tuples by their data; sorted(d) of a dict whose keys are tuples. -/
namespace Ka
open PySem PySem.Spec PyProof.Rows L2 PySem.W PySem.SeqAt
def hzLe (a b : HZ) : Bool := !hzLt b a
theorem hz_each : ∀ {zs : List HZ} {us : List Value}, Vals (hzV zs) us → EachIs (fun v (b : HZ) => RelV b.1 v) us zs
  | [], _, r => by
    cases r
    exact .nil
  | x :: zs, _, r => by
    cases r with
    | cons a b => exact .cons a (hz_each b)
theorem each_hz : ∀ {zs : List HZ} {us : List Value}, EachIs (fun v (b : HZ) => RelV b.1 v) us zs → Vals (hzV zs) us
  | _, _, .nil => .nil
  | _, _, .cons h t => .cons h (each_hz t)
def rSortG (K : PySem.W.Frag) : List V → Hp → VK → Prop := fun vs H Q => ∃ (a : Addr) (zs : List HZ), vs = [V.ref a] ∧ SqL K H a (hzV zs) ∧ (∀ z ∈ zs, Dp K H z.1 z.2) ∧ (∀ z ∈ zs, ∀ y ∈ zs, alike z.2 y.2 = true) ∧ (∀ z ∈ zs, ∃ x r, z.2 = .tuple (x :: r)) ∧ (∀ z ∈ zs, z.2.depth ≤ 50) ∧
  ∀ p, H p = none → Q (.ref p) (upd H p (.lst (hzV (zs.mergeSort hzLe))))
theorem cr_sortG {X : Cx} (hu : X.A.units + 64 < cLine) : CallR X (.builtin "sorted") (rSortG X.K) := by
  intro pins s σ H vs us Q I r h
  obtain ⟨a, zs, rfl, hs, hr, hal, ht, hdep, q⟩ := h
  obtain ⟨its, rv, hl, hz⟩ := I.list hs
  rw [Vals.ref1 r]
  rw [hzV_len] at hz
  have e := hz_each rv
  have er : EachIs (fun v (b : HZ) => ∃ as, Reads s.heap v b.2 as) its zs := (each_mem e).mono fun v b ⟨ev, hm⟩ => Dp.reads I b.2 b.1 v (hr b hm) ev
  refine sorted_data (enc := fun r : HZ => r.2) hl.isList e er (fun d hd d' hd' => ?_) (.inl fun d hd => ?_) hz (fun b hb => ?_) fun out hol eo => ?_
  · obtain ⟨r, h1, rfl⟩ := List.mem_map.mp hd
    obtain ⟨q, h2, rfl⟩ := List.mem_map.mp hd'
    exact hal r h1 q h2
  · obtain ⟨r, hm, rfl⟩ := List.mem_map.mp hd
    exact ht r hm
  · have := hdep b hb
    omega
  · obtain ⟨ep, he'⟩ := PyProof.Rows.sortedAll_at s.heap its out.toArray
    have hle : (hzV (zs.mergeSort hzLe)).length ≤ sizeLine := by
      rw [hzV_len, List.length_mergeSort]
      exact hz
    exact ⟨.ref _, upd H (s.heap.objs.size + 1) (.lst (hzV (zs.mergeSort hzLe))), I.laid (t' := s.toks) (fun _ _ => PyProof.Rows.sortedAll_old) (Nat.le_succ _) ⟨hle, out, ep, each_hz eo, he'⟩, rfl, q _ (I.hok.fresh (Nat.le_succ _))⟩
/-! ### keys that are tuples -/
def keyD : L2.Key → PyData
  | .inl i => .int i
  | .inr x => .str x
def keysD (k : List L2.Key) : PyData := .tuple (k.map keyD)
def kLe (a b : List L2.Key) : Bool := !dataLt (keysD b) (keysD a)
theorem depth_keys : ∀ k : List L2.Key, PyData.depthAll (k.map keyD) ≤ 1
  | [] => by simp [PyData.depthAll]
  | x :: k => by
    have := depth_keys k
    rw [List.map_cons]
    simp only [PyData.depthAll]
    have : (keyD x).depth ≤ 1 := by cases x <;> simp [keyD, PyData.depth]
    omega
theorem depth_keysD (k : List L2.Key) : (keysD k).depth ≤ 2 := by
  have := depth_keys k
  unfold keysD
  simp only [PyData.depth]
  omega
theorem reads_keys {h : Heap} : ∀ {k : List L2.Key} {us : List Value}, Vals (k.map kV) us → ReadsAll h us (k.map keyD) []
  | [], _, r => by
    cases r
    exact .nil
  | x :: k, _, r => by
    rw [List.map_cons] at r
    cases r with
    | cons a b =>
      cases x with
      | inl i =>
        obtain ⟨t, rfl⟩ := a
        exact .cons (as := []) (bs := []) (.int i t) (reads_keys b)
      | inr z =>
        obtain ⟨t, rfl⟩ := a
        exact .cons (as := []) (bs := []) (.str z t) (reads_keys b)
/-- a key at its place -/
abbrev KR := Addr × List L2.Key
theorem krs_of {H : Hp} {kvs : List (List L2.Key × V)} {xs : List (List L2.Key × Addr × Value)} (r : KT H kvs xs) :
    ∃ rs : List KR, rs.map (·.2) = kvs.map (·.1) ∧ rs.map (·.1) = xs.map (fun x => x.2.1) ∧ ∀ r ∈ rs, H r.1 = some (.tup (r.2.map kV)) := by
  induction r with
  | nil => exact ⟨[], rfl, rfl, fun r h => by cases h⟩
  | @cons p q ps qs hq t ih =>
    obtain ⟨rs, h1, h2, h3⟩ := ih
    refine ⟨(q.2.1, p.1) :: rs, by rw [List.map_cons, h1]; rfl, by rw [List.map_cons, List.map_cons, h2], fun r hr => ?_⟩
    rcases List.mem_cons.mp hr with e | hr
    · subst e
      exact hq.2.1
    · exact h3 r hr
theorem kr_each {rs : List KR} {us : List Value} (e : EachIs (fun v (b : KR) => v = Value.ref b.1) us rs) : Vals (rs.map fun r => V.ref r.1) us := by
  induction e with
  | nil => exact .nil
  | cons h t ih =>
    subst h
    exact .cons rfl ih
def rSortT : List V → Hp → VK → Prop := fun vs H Q => ∃ (a : Addr) (kvs : List (List L2.Key × V)), vs = [.ref a] ∧ Rd H a (.dT kvs) ∧ (∀ x ∈ kvs, ∀ y ∈ kvs, alike (keysD x.1) (keysD y.1) = true) ∧ (∀ x ∈ kvs, x.1 ≠ []) ∧
  ∀ (rs : List KR) (p : Addr), rs.map (·.2) = (kvs.map (·.1)).mergeSort kLe → (∀ r ∈ rs, H r.1 = some (.tup (r.2.map kV))) → H p = none → Q (.ref p) (upd H p (.lst (rs.map fun r => V.ref r.1)))
theorem cr_sortT {X : Cx} (hc : X.calm = true) (hu : X.A.units + 64 < cLine) : CallR X (.builtin "sorted") rSortT := by
  intro pins s σ H vs us Q I r h
  obtain ⟨a, kvs, rfl, hd, halk, hne, q⟩ := h
  obtain rfl := Vals.ref1 r
  obtain ⟨z, lo, xs, rel, o, es, ep, ho, hx, hdat, hes, hno⟩ := (show ObjOk X.prog X.w H s.heap a (.dT kvs) from hd.ok I.hok)
  obtain ⟨rs, h1, h2, h3⟩ := krs_of rel
  have hlen : rs.length = es.size := by
    have e1 := congrArg List.length h2
    have e2 := congrArg List.length hes
    rw [List.length_map, List.length_map] at e1
    rw [Array.length_toList, List.length_map] at e2
    omega
  have hz : rs.length ≤ sizeLine := by
    have e1 := congrArg List.length h2
    have e2 := Paired.length rel
    rw [List.length_map, List.length_map] at e1
    omega
  have hmem : ∀ r ∈ rs, ∃ x ∈ kvs, x.1 = r.2 := fun r hr => by
    have : r.2 ∈ kvs.map (·.1) := by rw [← h1]; exact List.mem_map.mpr ⟨r, hr, rfl⟩
    obtain ⟨x, hx, e⟩ := List.mem_map.mp this
    exact ⟨x, hx, e⟩
  have hall : AllAlike (rs.map fun r => keysD r.2) := fun d hd d' hd' => by
    obtain ⟨r, hr, rfl⟩ := List.mem_map.mp hd
    obtain ⟨r', hr', rfl⟩ := List.mem_map.mp hd'
    obtain ⟨x, hx, e⟩ := hmem r hr
    obtain ⟨y, hy, e'⟩ := hmem r' hr'
    rw [← e, ← e']
    exact halk x hx y hy
  have hso : Sortable (rs.map fun r => keysD r.2) := .inl fun d hd => by
    obtain ⟨r, hr, rfl⟩ := List.mem_map.mp hd
    obtain ⟨x, hx, e⟩ := hmem r hr
    have := hne x hx
    rw [e] at this
    cases h : r.2 with
    | nil => exact absurd h this
    | cons y l => exact ⟨keyD y, l.map keyD, rfl⟩
  have raw : s.heap.DictRaw a es ep := ⟨o, ho, hx, hdat⟩
  refine Calls.call_function_entry PyProof.Rows.kind_sorted PyProof.Rows.plain_sorted PyProof.Rows.entry_sorted (PyProof.Rows.args_sorted1 _) ?_
  unfold Builtin.«sorted»
  refine wpAny_bind (m := checkCount "sorted" 1 1 _) (wpAny_pure ?_)
  refine wpAny_bind (kdu_collect (A := X.A.in1) (KdlSrc.rawDict (es := es) (ep := ep) lo) (I.ok.hd hc) raw (by omega) fun h' tk acc hkp hacc => ?_)
  have hal : acc.toList.length = rs.length := by rw [Array.length_toList, hacc.1, hlen]
  have each : EachIs (fun v (b : KR) => v = Value.ref b.1) acc.toList rs := by
    refine EachIs.of_zip hal fun p hp => ?_
    obtain ⟨i, hi⟩ := List.getElem?_of_mem hp
    rw [List.getElem?_zip_eq_some] at hi
    obtain ⟨hia, hib⟩ := hi
    obtain ⟨hsz, ev⟩ := hacc.2 i p.1 (by rw [← Array.getElem?_toList]; exact hia)
    have e1 : (rs.map (·.1))[i]? = some p.2.1 := by rw [List.getElem?_map, hib]; rfl
    have e2 : es.toList[i]? = some es[i] := by rw [Array.getElem?_toList, Array.getElem?_eq_getElem hsz]
    rw [h2, List.getElem?_map] at e1
    rw [hes, List.getElem?_map] at e2
    cases ex : xs[i]? with
    | none =>
      rw [ex] at e1
      cases e1
    | some x =>
      rw [ex] at e1 e2
      have e1' : x.2.1 = p.2.1 := Option.some.inj e1
      have e2' := Option.some.inj e2
      rw [ev, ← e2', ← e1']
      rfl
  have I1 : Inv X pins σ H { s with heap := h', toks := tk } := I.kept hkp
  refine wpAny_bind (wpAny_newList ?_ (by omega))
  have hoL : (h'.push (seqObj "list" acc.toList.toArray 0)).get? h'.objs.size = some (seqObj "list" acc.toList.toArray 0) := Heap.get?_push_size _ rfl
  have ne : ∀ {b : Addr} {o : Obj}, s.heap.get? b = some o → b ≠ h'.objs.size := fun e => Nat.ne_of_lt (Heap.lt_size (hkp _ _ e))
  refine wpAny_bind (wpAny_holding ?_)
  show wpAny (model X.prog X.w) X.A.in1 (call (.builtin "list.sort") [.ref h'.objs.size]) _ _ { s with heap := h'.push (seqObj "list" acc.toList.toArray 0), toks := tk }
  have er : EachIs (fun v (b : KR) => ∃ as, Reads (h'.push (seqObj "list" acc.toList.toArray 0)) v (keysD b.2) as ∧ h'.objs.size ∉ as) acc.toList rs := (each_mem each).mono fun v b ⟨ev, hm⟩ => by
    subst ev
    obtain ⟨its', rv', ht, hz'⟩ := I.tuple (.inl (.inl (h3 b hm)))
    obtain ⟨o2, ho2, hc2, n2, hd2⟩ := ht
    refine ⟨_, Reads.tuple (Heap.get?_push_of_some _ (hkp _ _ ho2)) hc2 hd2 (reads_keys rv'), fun hmm => ?_⟩
    have hb := Heap.lt_size (hkp _ _ ho2)
    simp at hmm
  refine list_sort_data (s := { s with heap := h'.push (seqObj "list" acc.toList.toArray 0), toks := tk }) (enc := fun r : KR => keysD r.2) hoL each er hall hso hz (fun r _ => ?_) fun out ho2 eo => ?_
  · have hdep := depth_keysD r.2
    show X.A.units + 1 + 1 + (keysD r.2).depth < cLine
    omega
  · obtain ⟨e', he'⟩ := PyProof.Rows.sortedHeap_at (vs := acc.toList) (out := out.toArray) hoL
    have hle2 : ((rs.mergeSort fun a b => kLe a.2 b.2).map fun r => V.ref r.1).length ≤ sizeLine := by
      rw [List.length_map, List.length_mergeSort]
      exact hz
    have up : ∀ b o, h'.get? b = some o → (sortedHeap (h'.push (seqObj "list" acc.toList.toArray 0)) h'.objs.size acc.toList out.toArray).get? b = some o := fun b u e => by
      have hb : b < h'.objs.size := Heap.lt_size e
      rw [PyProof.Rows.sortedHeap_old (Nat.ne_of_lt hb) (by rw [size_push']; exact Nat.lt_succ_of_lt hb)]
      exact Heap.get?_push_of_some _ e
    refine wpAny_pure ⟨_, rfl, .ref h'.objs.size, _, I1.laid (t' := tk) (o := .lst ((rs.mergeSort fun a b => kLe a.2 b.2).map fun r => V.ref r.1)) up (Nat.le_refl _) ⟨hle2, out, e', kr_each eo, he'⟩, rfl, q _ _ ?_ (fun r hr => h3 r (List.mem_mergeSort.mp hr)) (I1.hok.fresh (Nat.le_refl _))⟩
    rw [← h1]
    exact sort_maps (fun r : KR => r.2) fun _ _ _ _ => rfl
end Ka
/-! d.update(e), two dicts with numbers or texts as keys. -/
namespace Ka
open PySem PySem.Spec PyProof.Rows L2
def rUpdate : V → List V → Hp → VK → Prop := fun x vs H Q => ∃ (d e : Addr) (kvs more : List (L2.Key × V)), x = .ref d ∧ vs = [.ref e] ∧ H d = some (.dK kvs) ∧ H e = some (.dK more) ∧ d ≠ e ∧ kvs.length + more.length ≤ 1000000 ∧ Q .non (upd H d (.dK (mergeK kvs more)))
theorem mt_update {X : Cx} : MtM X "dict.update" rUpdate := by
  intro pins s σ H x xs v us Q I rx rv h
  obtain ⟨d, e, kvs, more, rfl, rfl, hd, he, hne, hz, q⟩ := h
  cases rx
  obtain ⟨u, rfl, ru⟩ := rv.one
  cases ru
  obtain ⟨z, lo, vs, rel, dd⟩ := dk_of I.hok hd
  obtain ⟨z2, lo2, vs2, rel2, dd2⟩ := dk_of I.hok he
  have l1 := rel.length
  have l2 := rel2.length
  have l3 : (1000000 : Nat) ≤ sizeLine := by rw [sizeLine_eq]; decide
  refine call_meetsIn PySem.F.slot_dict_update dd.typeIs PySem.F.entry_dict_update (PySem.F.args_dict_update_2 _ _) (meets_dict_update (mixKind X.prog X.w) d e hne lo2)
    ⟨vs, vs2, dd, dd2, by omega, fun h' dd' _ hs => ?_⟩
  have hq : ∃ q, h'.get? d = some q := let ⟨q, _, _, hq, _⟩ := dd'; ⟨q, hq⟩
  have l4 := length_mergeK more kvs
  exact ⟨.non, _, d_write (t' := s.toks) I (by rw [hd]; exact True.intro) hs hq (dk_new (by omega) lo (rel2.merge rel) dd'), rfl, q⟩
end Ka
namespace Kb
open PySem PySem.Spec PyProof.Rows L2
/-! ### the text, def by def -/
def topS (i : Nat) : Stmt := PySem.Challenge.pw_stillowed_k13_bounds_and_tallest_books.main.body.getD i (.Pass ⟨0, 0, 0, 0⟩)
abbrev sBookErrInit : Stmt := inClass (topS 4) 0
abbrev sRefusedInit : Stmt := inClass (topS 5) 0
abbrev sIsInt : Stmt := topS 8
abbrev sIsNum : Stmt := topS 9
abbrev sIsNumTo : Stmt := topS 10
abbrev sName : Stmt := topS 11
abbrev sLetter : Stmt := topS 12
abbrev sIsLot : Stmt := topS 13
abbrev sAscending : Stmt := topS 14
abbrev sBkInit : Stmt := inClass (topS 20) 0
abbrev sBkEq : Stmt := inClass (topS 20) 1
abbrev sBkNames : Stmt := inClass (topS 20) 2
abbrev sBkMain : Stmt := inClass (topS 20) 3
abbrev sBkIndex : Stmt := inClass (topS 20) 4
abbrev sBkEnds : Stmt := inClass (topS 20) 5
abbrev sBkSteps : Stmt := inClass (topS 20) 6
abbrev sBkFrom : Stmt := inClass (topS 20) 7
abbrev sBkIsEnd : Stmt := inClass (topS 20) 8
abbrev sBkIsStage : Stmt := inClass (topS 20) 9
abbrev sBkStages : Stmt := inClass (topS 20) 10
abbrev sBkCalls : Stmt := inClass (topS 20) 11
abbrev sBkDeeds : Stmt := inClass (topS 20) 12
abbrev sChEach : Stmt := topS 21
abbrev sChTog : Stmt := topS 22
abbrev sIsCourse : Stmt := topS 23
abbrev sAreEnds : Stmt := topS 24
abbrev sAreSteps : Stmt := topS 25
abbrev sIsStep : Stmt := topS 26
abbrev sDeedsIn : Stmt := topS 27
abbrev sLeaving : Stmt := topS 28
abbrev sLengthBound : Stmt := topS 31
abbrev sTallest : Stmt := topS 32
abbrev sLine : Stmt := topS 33
abbrev sPartsOf : Stmt := topS 35
abbrev sStepsInto : Stmt := topS 36
abbrev sAllIn : Stmt := topS 37
abbrev sSettled : Stmt := topS 41
abbrev sWithParts : Stmt := topS 42
abbrev sWayCosts : Stmt := topS 43
abbrev sLeastWeights : Stmt := topS 44
abbrev sPlain : Stmt := topS 46
abbrev sLengths : Stmt := topS 47
abbrev sRowLengths : Stmt := topS 48
abbrev sBox : Stmt := topS 50
abbrev sTake : Stmt := topS 51
abbrev sPick : Stmt := topS 52
abbrev sLawMixed : Stmt := topS 53
abbrev sLawStep : Stmt := topS 54
abbrev sLawCourse : Stmt := topS 55
abbrev sLawCourses : Stmt := topS 56
abbrev sLawLeaving : Stmt := topS 57
abbrev sLawEnds : Stmt := topS 58
abbrev sLawAllIn : Stmt := topS 59
abbrev sLawGood : Stmt := topS 60
abbrev sLawProduct : Stmt := topS 61
abbrev sLawBookRight : Stmt := topS 62
abbrev sLawCounts : Stmt := topS 63
abbrev sLawFit : Stmt := topS 64
abbrev sLawTold : Stmt := topS 65
abbrev sLawWalked : Stmt := topS 66
abbrev sLawTallestRight : Stmt := topS 67
abbrev sLaw : Stmt := topS 68
/-! ### heaps -/
theorem same_new {H : Hp} {p : Addr} {o : HO} (h : H p = none) : Same H (upd H p o) := fun b x e => by
  rw [upd_ne (ne_of_none e h)]
  exact e
theorem Same.sqT {K : PySem.W.Frag} {H H' : Hp} {a : Addr} {xs : List V} (e : Same H H') (h : SqT K H a xs) : SqT K H' a xs := by
  rcases h with (h | ⟨o, h⟩) | h
  · exact .inl (.inl (e _ _ h))
  · exact .inl (.inr ⟨o, e _ _ h⟩)
  · exact .inr h
theorem sqT_new {K : PySem.W.Frag} {H : Hp} {p : Addr} {xs : List V} (h : H p = some (.tup xs)) : SqT K H p xs := .inl (.inl h)
theorem sqL_new {K : PySem.W.Frag} {H : Hp} {p : Addr} {xs : List V} (h : H p = some (.lst xs)) : SqL K H p xs := .inl (.inl h)
theorem get_map {α β : Type} {f : α → β} {l : List α} {i : Nat} {y : β} (h : (l.map f)[i]? = some y) : ∃ x, l[i]? = some x ∧ y = f x := by
  rw [List.getElem?_map] at h
  cases e : l[i]? with
  | none =>
    rw [e] at h
    cases h
  | some x =>
    rw [e] at h
    exact ⟨x, rfl, (Option.some.inj h).symm⟩
theorem lt_of_get {α : Type} {l : List α} {i : Nat} {x : α} (h : l[i]? = some x) : i < l.length := (List.getElem?_eq_some_iff.mp h).1
theorem drop_of_get {α : Type} {l : List α} {i : Nat} {x : α} (h : l[i]? = some x) : l.drop i = x :: l.drop (i + 1) := by
  obtain ⟨h1, h2⟩ := List.getElem?_eq_some_iff.mp h
  rw [List.drop_eq_getElem_cons h1, h2]
theorem take_of_get {α : Type} {l : List α} {i : Nat} {x : α} (h : l[i]? = some x) : l.take (i + 1) = l.take i ++ [x] := by
  rw [List.take_add_one, h]
  rfl
/-! ### rules told by K, for a comprehension's block -/
def rLen (K : PySem.W.Frag) : List V → Hp → VK → Prop := fun xs H Q => ∃ p ys, xs = [V.ref p] ∧ (SqL K H p ys ∨ SqT K H p ys) ∧ Q (.int (ys.length : Nat)) H
theorem len_at {X : Cx} {K : PySem.W.Frag} (h : X.K = K) : CallR X (.builtin "len") (rLen K) := by
  subst h
  exact call_len_seq
theorem ixT_at {X : Cx} {K : PySem.W.Frag} (h : X.K = K) : IxR X (rIxT K) := by
  subst h
  exact ix_tup
theorem ixL_at {X : Cx} {K : PySem.W.Frag} (h : X.K = K) : IxR X (rIxL K) := by
  subst h
  exact ix_list
/-- places as values -/
def natV (l : List Nat) : List V := l.map fun (i : Nat) => V.int (i : Int)
theorem natV_len (l : List Nat) : (natV l).length = l.length := List.length_map _
theorem small {n : Nat} (h : n ≤ 1000000) : n < sizeLine := Nat.lt_of_le_of_lt h (by rw [sizeLine_eq]; decide)
theorem smallE {n : Nat} (h : n ≤ 1000000) : n ≤ sizeLine := Nat.le_of_lt (small h)
theorem walk_revT {K : PySem.W.Frag} {a : Addr} {xs : List V} : Walk (RT.ItvT K a xs.length) xs.length (fun H => SqT K H a xs) (fun i H x H' => H' = H ∧ xs[xs.length - 1 - i]? = some x) := by
  refine ⟨fun i H hi q => ?_, fun H q => ?_, fun i H x H' hi q y => ?_⟩
  · exact ⟨hi, xs, xs[xs.length - 1 - i], q, by simp⟩
  · exact Nat.le_refl _
  · exact ⟨y.1, y.2 xs q⟩
/-- counts as values -/
def intV (l : List Int) : List V := l.map V.int
theorem intV_len (l : List Int) : (intV l).length = l.length := List.length_map _
theorem intV_get {l : List Int} {i : Nat} {x : Int} (h : l[i]? = some x) : (intV l)[i]? = some (.int x) := by
  unfold intV
  rw [List.getElem?_map, h]
  rfl
theorem natV_get {l : List Nat} {i x : Nat} (h : l[i]? = some x) : (natV l)[i]? = some (.int (x : Nat)) := by
  unfold natV
  rw [List.getElem?_map, h]
  rfl
end Kb
namespace Kb
open PySem PySem.Spec PyProof.Rows L2
/-- a sign from a to z -/
def lowC (c : Nat) : Bool := decide (97 ≤ c) && decide (c ≤ 122)
/-- a name -/
def isName (s : Str) : Bool := decide (1 ≤ s.cps.size) && decide (s.cps.size ≤ 5) && s.cps.toList.all lowC
/-- the names of the language that no text hides -/
structure Nones (mg : Str → Option Value) : Prop where
  len : mg "len" = none
  range : mg "range" = none
  iter : mg "iter" = none
  enumerate : mg "enumerate" = none
  reversed : mg "reversed" = none
  tuple : mg "tuple" = none
  list : mg "list" = none
  sorted : mg "sorted" = none
  any : mg "any" = none
  all : mg "all" = none
  int : mg "int" = none
  str : mg "str" = none
  bool : mg "bool" = none
  abs : mg "abs" = none
  min : mg "min" = none
  max : mg "max" = none
  sum : mg "sum" = none
  isinstance : mg "isinstance" = none
  valueError : mg "ValueError" = none
/-- range(n), its turns told -/
theorem walk_r0 {n : Nat} : Walk (Itr 0 n) n (fun _ => True) (fun i H x H' => H' = H ∧ x = .int (i : Nat)) := walk_range.mono (fun _ h => h) fun i H x H' _ _ y => ⟨y.1, by
  rw [y.2]
  show V.int (0 + (i : Int)) = _
  rw [Int.zero_add]⟩
section
variable {K : PySem.W.Frag}
theorem slA_at {X : Cx} {K : PySem.W.Frag} (h : X.K = K) : SlR X (rSlA K) := by
  subst h
  exact sl_tupA
theorem slA_take {H : Hp} {a : Addr} {xs : List V} {j : Nat} {Q : VK} (hA : SqT K H a xs) (q0 : xs.take j = xs → Q (.ref a) H) (q1 : ∀ p, H p = none → Q (.ref p) (upd H p (.tup (xs.take j)))) : rSlA K (.ref a) none (some (j : Int)) H Q := by
  refine ⟨a, xs, rfl, hA, fun hw => ?_, fun _ p np => ?_⟩
  · have h2 := hw.2
    rw [HT.sIx_nat] at h2
    exact q0 (List.take_of_length_le (by omega))
  · have e : cutV xs none (some (j : Int)) = xs.take j := by
      unfold cutV
      rw [HT.sIx_nat, HT.sIx_none, List.drop_zero, Nat.sub_zero]
      by_cases h : j ≤ xs.length
      · rw [Nat.min_eq_left h]
      · rw [Nat.min_eq_right (by omega), List.take_length, List.take_of_length_le (by omega)]
    rw [e]
    exact q1 p np
theorem slA_drop {H : Hp} {a : Addr} {xs : List V} {j : Nat} {Q : VK} (hA : SqT K H a xs) (q0 : xs.drop j = xs → Q (.ref a) H) (q1 : ∀ p, H p = none → Q (.ref p) (upd H p (.tup (xs.drop j)))) : rSlA K (.ref a) (some (j : Int)) none H Q := by
  refine ⟨a, xs, rfl, hA, fun hw => ?_, fun _ p np => ?_⟩
  · have h2 := hw.1
    rw [HT.sIx_nat] at h2
    refine q0 ?_
    by_cases h : j = 0
    · rw [h]
      rfl
    · have h0 : xs.length = 0 := by omega
      rw [List.eq_nil_of_length_eq_zero h0, List.drop_nil]
  · have e : cutV xs (some (j : Int)) none = xs.drop j := by
      unfold cutV
      rw [HT.sIx_nat, HT.sIx_none]
      by_cases h : j ≤ xs.length
      · rw [Nat.min_eq_left h, List.take_of_length_le (by rw [List.length_drop]; exact Nat.le_refl _)]
      · rw [Nat.min_eq_right (by omega), List.drop_length, List.drop_eq_nil_of_le (by omega), List.take_nil]
    rw [e]
    exact q1 p np
/-- a slice of a row -/
theorem slA_takeR {H : Hp} {a : Addr} {us : List Str} {j : Nat} {Q : VK} (hA : SqT K H a (us.map V.str)) (q : ∀ H' p, Same H H' → SqT K H' p ((us.take j).map V.str) → Q (.ref p) H') : rSlA K (.ref a) none (some (j : Int)) H Q :=
  slA_take hA (fun e => q H a (fun _ _ h => h) (by rw [List.map_take, e]; exact hA)) fun p np => q _ p (same_new np) (by rw [List.map_take]; exact sqT_new upd_same)
theorem slA_dropR {H : Hp} {a : Addr} {us : List Str} {j : Nat} {Q : VK} (hA : SqT K H a (us.map V.str)) (q : ∀ H' p, Same H H' → SqT K H' p ((us.drop j).map V.str) → Q (.ref p) H') : rSlA K (.ref a) (some (j : Int)) none H Q :=
  slA_drop hA (fun e => q H a (fun _ _ h => h) (by rw [List.map_drop, e]; exact hA)) fun p np => q _ p (same_new np) (by rw [List.map_drop]; exact sqT_new upd_same)
theorem tyT {H : Hp} {p : Addr} {xs : List V} (h : SqT K H p xs) : TyX K H (.ref p) (.type "tuple") := by
  rcases h with (h | ⟨o, h⟩) | h
  · exact .base (.tup h)
  · exact .fTuple h
  · obtain ⟨o, its, n, h1, h2, h3⟩ := h
    exact .kTuple h1 h2
theorem catR {H : Hp} {a b : Addr} {xs ys : List V} {Q : VK} (hx : SqT K H a xs) (hy : SqT K H b ys) (hl : xs.length + ys.length ≤ 100000) (q : ∀ H' p, Same H H' → SqT K H' p (xs ++ ys) → Q (.ref p) H') : rCatA K (.ref a) (.ref b) H Q := by
  refine ⟨a, b, xs, ys, rfl, rfl, hx, hy, smallE (by omega), fun e => ?_, fun _ e => ?_, fun _ _ p np => ?_⟩
  · exact q H b (fun _ _ h => h) (by rw [e]; exact hy)
  · exact q H a (fun _ _ h => h) (by rw [e, List.append_nil]; exact hx)
  · exact q _ p (same_new np) (sqT_new upd_same)
theorem slR_take {H : Hp} {a : Addr} {xs : List V} {j : Nat} {Q : VK} (hA : SqT K H a xs) (q : ∀ H' p, Same H H' → SqT K H' p (xs.take j) → Q (.ref p) H') : rSlA K (.ref a) none (some (j : Int)) H Q :=
  slA_take hA (fun e => q H a (fun _ _ h => h) (by rw [e]; exact hA)) fun p np => q _ p (same_new np) (sqT_new upd_same)
theorem slR_drop {H : Hp} {a : Addr} {xs : List V} {j : Nat} {Q : VK} (hA : SqT K H a xs) (q : ∀ H' p, Same H H' → SqT K H' p (xs.drop j) → Q (.ref p) H') : rSlA K (.ref a) (some (j : Int)) none H Q :=
  slA_drop hA (fun e => q H a (fun _ _ h => h) (by rw [e]; exact hA)) fun p np => q _ p (same_new np) (sqT_new upd_same)
end
end Kb
namespace Kb
open PySem PySem.Spec PyProof.Rows L2
/-! ### is_integer, is_number, is_number_to, is_lot -/
section
variable {P : Program} {w : World} {K : PySem.W.Frag} {mg : Str → Option Value} {base : Heap}
/-- an integer, asked for by its value -/
def spIsInt : Sp := fun vs H Q _ => ∃ i : Int, vs = [.int i] ∧ Q (.bl true) H
abbrev nIi : List Str := ["value"]
theorem scIi : FnScope nIi ["value"] (defScope sIsInt) := ⟨rfl, rfl, rfl, by decide +kernel, rfl, by decide +kernel, by decide +kernel⟩
theorem ok_isint {f : Addr} {fd : FuncData} (F : Fun K "is_integer" "is_integer" sIsInt f fd) (N : Nones mg) : FnOk P w K mg base CX0 1 f fd ["value"] spIsInt := by
  refine F.ok scIi (fun vs H Q E h => ?_) (fun cdv A outer s H vs Q E hr h => ?_)
  · obtain ⟨i, rfl, _⟩ := h
    rfl
  · obtain ⟨i, rfl, q⟩ := h
    refine ⟨_, pss_one (ps_ret (pe_and (pe_callB call_isi (by rfl) N.isinstance (by decide +kernel) (pa_cons (pv 0) (pa_cons (pe_bltn (v := .ty "int") (by rfl) N.int (by decide +kernel) rfl) pa_nil))) (pe_one (pe_not (pe_callB call_isi (by rfl) N.isinstance (by decide +kernel) (pa_cons (pv 0) (pa_cons (pe_bltn (v := .ty "bool") (by rfl) N.bool (by decide +kernel) rfl) pa_nil))))))), ?_⟩
    refine ⟨.int i, rfl, .int i, .ty "int", .type "int", .type "int", true, rfl, .ty "int", .base (.int i), kit_ty (by decide +kernel), _, rfl, ite2 (fun _ => ?_) (fun c => absurd rfl c)⟩
    exact ⟨.int i, rfl, .int i, .ty "bool", .type "int", .type "bool", false, rfl, .ty "bool", .base (.int i), kit_ty (by decide +kernel), _, rfl, q⟩
def spIsNum : Sp := fun vs H Q _ => ∃ i : Int, vs = [.int i] ∧ Q (.bl (decide (0 ≤ i))) H
abbrev nIn : List Str := ["value"]
theorem scIn : FnScope nIn ["value"] (defScope sIsNum) := ⟨rfl, rfl, rfl, by decide +kernel, rfl, by decide +kernel, by decide +kernel⟩
structure CallC (K : PySem.W.Frag) (mg : Str → Option Value) (n : Str) (ps : List Str) (f : Addr) (fd : FuncData) : Prop where
  g : mg n = some (.ref f)
  kp : PySem.W.keepIn K (.ref f) = true
  b : Binds K fd ps []
theorem ok_isnum {f fI : Addr} {fd fdI : FuncData} (F : Fun K "is_number" "is_number" sIsNum f fd) (N : Nones mg) (G_is_integer : FnOk P w K mg base CX0 1 fI fdI ["value"] spIsInt) (C_is_integer : CallC K mg "is_integer" ["value"] fI fdI) : FnOk P w K mg base CX0 2 f fd ["value"] spIsNum := by
  refine F.ok scIn (fun vs H Q E h => ?_) (fun cdv A outer s H vs Q E hr h => ?_)
  · obtain ⟨i, rfl, _⟩ := h
    rfl
  · obtain ⟨i, rfl, q⟩ := h
    refine ⟨_, pss_one (ps_ret (pe_and (pe_call G_is_integer (hr.mono (by decide)) (by rfl) C_is_integer.g C_is_integer.kp C_is_integer.b .nil pass0 (pa_cons (pv 0) pa_nil)) (pe_one (pe_cmpR op_ge (pv 0) pe_int (nomark _))))), ?_⟩
    refine ⟨.int i, rfl, i, rfl, _, rfl, ite2 (fun _ => ?_) (fun c => absurd rfl c)⟩
    exact ⟨.int i, rfl, _, _, rfl, rfl, q⟩
def spIsNumTo : Sp := fun vs H Q _ => ∃ i m : Int, vs = [.int i, .int m] ∧ Q (.bl (decide (0 ≤ i) && decide (i ≤ m))) H
abbrev nNt : List Str := ["value", "most"]
theorem scNt : FnScope nNt ["value", "most"] (defScope sIsNumTo) := ⟨rfl, rfl, rfl, by decide +kernel, rfl, by decide +kernel, by decide +kernel⟩
theorem ok_isnumto {f fI : Addr} {fd fdI : FuncData} (F : Fun K "is_number_to" "is_number_to" sIsNumTo f fd) (G_is_number : FnOk P w K mg base CX0 2 fI fdI ["value"] spIsNum) (C_is_number : CallC K mg "is_number" ["value"] fI fdI) : FnOk P w K mg base CX0 3 f fd ["value", "most"] spIsNumTo := by
  refine F.ok scNt (fun vs H Q E h => ?_) (fun cdv A outer s H vs Q E hr h => ?_)
  · obtain ⟨i, m, rfl, _⟩ := h
    rfl
  · obtain ⟨i, m, rfl, q⟩ := h
    refine ⟨_, pss_one (ps_ret (pe_and (pe_call G_is_number (hr.mono (by decide)) (by rfl) C_is_number.g C_is_number.kp C_is_number.b .nil pass0 (pa_cons (pv 0) pa_nil)) (pe_one (pe_cmpR op_le (pv 0) (pv 1) (nomark _))))), ?_⟩
    refine ⟨.int i, rfl, i, rfl, _, rfl, ite2 (fun c => ?_) (fun c => ?_)⟩
    · have c : decide (0 ≤ i) = true := c
      rw [c, Bool.true_and] at q
      exact ⟨.int i, rfl, .int m, rfl, _, _, rfl, rfl, q⟩
    · have c : decide (0 ≤ i) = false := Bool.eq_false_iff.mpr c
      rw [c, Bool.false_and] at q
      exact q
end
end Kb
namespace Kb
open PySem PySem.Spec PyProof.Rows L2
/-! ### is_letter, is_name -/
theorem lt_sign (a b : Nat) : decide ([a] < [b]) = decide (a < b) := by
  by_cases h : a < b
  · rw [decide_eq_true h, decide_eq_true]
    exact List.Lex.rel h
  · rw [decide_eq_false h, decide_eq_false]
    intro w
    cases w with
    | rel w => exact h w
    | cons w => cases w
section
variable {P : Program} {w : World} {K : PySem.W.Frag} {mg : Str → Option Value} {base : Heap}
theorem scLetter : FnScope ["sign"] ["sign"] (defScope sLetter) := ⟨rfl, rfl, rfl, by decide +kernel, rfl, by decide +kernel, by decide +kernel⟩
def spLetter : Sp := fun vs H Q _ => ∃ c : Nat, vs = [.str ⟨#[c]⟩] ∧ Q (.bl (lowC c)) H
theorem ok_letter {f : Addr} {fd : FuncData} (F : Fun K "is_letter" "is_letter" sLetter f fd) : FnOk P w K mg base CX0 1 f fd ["sign"] spLetter := by
  refine F.ok scLetter (fun vs H Q E h => ?_) (fun cdv A outer s H vs Q E hr h => ?_)
  · obtain ⟨c, rfl, _⟩ := h
    rfl
  · obtain ⟨c, rfl, q⟩ := h
    refine ⟨_, pss_one (ps_ret (pe_chain op_le_str op_le_str pe_str (pv 0) pe_str)), ?_⟩
    refine ⟨.str ⟨#[c]⟩, rfl, _, _, rfl, rfl, _, rfl, ?_⟩
    have e1 : (!decide ([c] < (Str.ofString "a").cps.toList)) = decide (97 ≤ c) := by
      rw [show (Str.ofString "a").cps.toList = [97] from by decide +kernel, lt_sign]
      by_cases h : 97 ≤ c
      · rw [decide_eq_true h, decide_eq_false (Nat.not_lt.mpr h)]
        rfl
      · rw [decide_eq_false h, decide_eq_true (Nat.lt_of_not_le h)]
        rfl
    have e2 : (!decide ((Str.ofString "z").cps.toList < [c])) = decide (c ≤ 122) := by
      rw [show (Str.ofString "z").cps.toList = [122] from by decide +kernel, lt_sign]
      by_cases h : c ≤ 122
      · rw [decide_eq_true h, decide_eq_false (Nat.not_lt.mpr h)]
        rfl
      · rw [decide_eq_false h, decide_eq_true (Nat.lt_of_not_le h)]
        rfl
    unfold lowC at q
    rw [← e1, ← e2] at q
    refine ite2 (fun hc => ?_) (fun hc => ?_)
    · refine ⟨_, _, rfl, rfl, ?_⟩
      have hc' : (!decide ([c] < (Str.ofString "a").cps.toList)) = true := hc
      rw [hc', Bool.true_and] at q
      exact q
    · have hc' : (!decide ([c] < (Str.ofString "a").cps.toList)) = false := Bool.eq_false_iff.mpr hc
      rw [hc', Bool.false_and] at q
      exact q
theorem scName : FnScope ["value", "sign"] ["value"] (defScope sName) := ⟨rfl, rfl, rfl, by decide +kernel, rfl, by decide +kernel, by decide +kernel⟩
/-- a value that can be asked for a name: of a known other type, or a text that is short enough -/
def spName (K : PySem.W.Frag) : Sp := fun vs H Q _ => ∃ v : V, vs = [v] ∧ ((∃ t : String, TyX K H v (.type t) ∧ kitB t "str" = some false ∧ Q (.bl false) H) ∨ (∃ s, v = .str s ∧ s.length ≤ sizeLine ∧ ∀ H', Same H H' → Q (.bl (isName s)) H'))
theorem ok_name {f fL : Addr} {fd fdL : FuncData} (F : Fun K "is_name" "is_name" sName f fd) (FL : Fun K "is_letter" "is_letter" sLetter fL fdL) (bL : Binds K fdL ["sign"] []) (gL : mg "is_letter" = some (.ref fL)) {tag : Nat} (gN : mg "LONGEST_NAME" = some (.int 5 tag))
    (mi : mg "isinstance" = none) (ms : mg "str" = none) (ml : mg "len" = none) (ma : mg "all" = none) : FnOk P w K mg base CX0 2 f fd ["value"] (spName K) := by
  have GL : FnOk P w K mg base CX0 1 fL fdL ["sign"] spLetter := ok_letter FL
  refine F.ok scName (fun vs H Q E h => ?_) (fun cdv A outer s H vs Q E hr h => ?_)
  · obtain ⟨v, rfl, _⟩ := h
    rfl
  · obtain ⟨v, rfl, q⟩ := h
    refine ⟨_, pss_cons (ps_if (PW.pt (pw_or (pt_not (pt_val (pe_callB call_isi (by rfl) mi (by decide +kernel) (pa_cons (pv 0) (pa_cons (pe_bltn (v := .ty "str") (by rfl) ms (by decide +kernel) rfl) pa_nil))))) (pw_or1 (pt_not (pt_chain op_le op_le pe_int (pe_callB call_len (by rfl) ml PySem.boot_len (pa_cons (pv 0) pa_nil)) (pe_glob (v := .int 5) rfl gN ⟨_, rfl⟩))))))
      (pss_one (ps_ret pe_bl)) pss_nil)
      (pss_one (ps_ret (pe_callB (cr_all rfl) (by rfl) ma (by decide +kernel) (pa_cons
        (pe_lc (own := [("sign", 1)]) (g := gName 1) (tt := tYes) rfl scName.nd (pi_str (pv 0)) (blkOk_by (own := [("sign", 1)]) (N := ["value", "sign"]) (sc := defScope sName) (by decide +kernel)) (fun _ _ _ _ _ => pg_name (i := 1) scName.nd rfl (Or.inl rfl)) (fun _ _ _ _ _ => pts_nil)
          (fun _ _ _ _ _ => pe_call GL hr (by rfl) gL FL.kp bL .nil pass0 (pa_cons (pv 1) pa_nil))) pa_nil)))), ?_⟩
    rcases q with ⟨t, ty, hb, q⟩ | ⟨z, rfl, hz, q⟩
    · refine ⟨v, rfl, v, .ty "str", .type t, .type "str", false, rfl, .ty "str", ty, kit_ty hb, ?_⟩
      refine ⟨false, rfl, ?_⟩
      exact iteT (iteT q)
    · refine ⟨.str z, rfl, .str z, .ty "str", .type "str", .type "str", true, rfl, .ty "str", .base (.str z), kit_ty (by decide +kernel), true, rfl, iteF ?_⟩
      refine ⟨.str z, rfl, .str z, _, rfl, ⟨hz, rfl⟩, ?_⟩
      refine ⟨_, _, rfl, rfl, _, rfl, ?_⟩
      have no : isName z = false → Q (.bl false) H := fun e => by
        rw [e] at q
        exact q H (fun _ _ h => h)
      refine ite2 (fun c1 => ?_) (fun c1 => ?_)
      · have c1 := of_decide_eq_true c1
        refine ⟨_, _, rfl, rfl, _, rfl, ite2 (fun c2 => ?_) (fun c2 => ?_)⟩
        · refine no ?_
          have c3 : ¬ ((z.length : Nat) : Int) ≤ 5 := of_decide_eq_false (by simpa using c2)
          have c4 : ¬ z.cps.size ≤ 5 := fun h => c3 (by show ((z.cps.size : Nat) : Int) ≤ 5; omega)
          unfold isName
          rw [decide_eq_false c4, Bool.and_false, Bool.false_and]
        · have c3 : ((z.length : Nat) : Int) ≤ 5 := by simpa using c2
          have c4 : z.cps.size ≤ 5 := by have : ((z.cps.size : Nat) : Int) ≤ 5 := c3; omega
          have c5 : 1 ≤ z.cps.size := by have : 1 ≤ ((z.cps.size : Nat) : Int) := c1; omega
          have en : isName z = z.cps.toList.all lowC := by
            unfold isName
            rw [decide_eq_true c5, decide_eq_true c4]
            rfl
          refine ⟨.str z, rfl, z, rfl, fun D nD => ?_⟩
          refine lc_it walk_str (fun i H2 => Same H H2 ∧ H2 D = some (.lst ((((z.cps.toList.map lowC).take i)).map V.bl))) ⟨same_new nD, upd_same⟩ (fun _ _ _ _ => True.intro) (fun i x H2 H3 hi h2 y => ?_) (fun H2 h2 => ?_)
          · obtain ⟨rfl, c, hc, rfl⟩ := y
            obtain ⟨sm, eD⟩ := h2
            refine ⟨rfl, ?_⟩
            refine ⟨.str ⟨#[c]⟩, rfl, c, rfl, _, eD, ?_, fun b o e => ?_, ?_⟩
            · rw [List.length_map]
              refine small (Nat.le_trans (List.length_take_le _ _) ?_)
              omega
            · rw [upd_ne (ne_of_none e nD)]
              exact sm b o e
            · have hg : (z.cps.toList.map lowC)[i]? = some (lowC c) := by
                rw [List.getElem?_map, Array.getElem?_toList, hc]
                rfl
              rw [upd_same, take_of_get hg, List.map_append]
              rfl
          · obtain ⟨sm, eD⟩ := h2
            have el : (z.cps.toList.map lowC).take z.cps.size = z.cps.toList.map lowC := List.take_of_length_le (by rw [List.length_map, Array.length_toList]; exact Nat.le_refl _)
            rw [el] at eD
            refine ⟨D, _, rfl, sqL_new eD, ?_⟩
            have ea : (z.cps.toList.map lowC).all id = isName z := by
              rw [en, List.all_map]
              rfl
            rw [ea]
            exact q H2 sm
      · have c1 : ¬ (1 : Int) ≤ ((z.length : Nat) : Int) := fun h => c1 (decide_eq_true h)
        refine ⟨_, rfl, iteT (no ?_)⟩
        have c4 : ¬ 1 ≤ z.cps.size := fun h => c1 (by show (1 : Int) ≤ ((z.cps.size : Nat) : Int); omega)
        unfold isName
        rw [decide_eq_false c4]
        rfl
end
end Kb
namespace Kb
open PySem PySem.Spec PyProof.Rows L2
/-- keys numbers or texts, with tests -/
theorem dcK_it {J : It} {n : Nat} {G : Hp → Prop} {Y : Nat → Hp → V → Hp → Prop} (w : Walk J n G Y) {g : TG} {tt : TT} {tk tv : TE} {vs : List Nat} {σ : L2.St} {H1 : Hp} {D : Addr} {Qd : Hp → Prop} (Pv : Nat → Hp → Prop) (h0 : Pv 0 (upd H1 D (.dK []))) (hG : ∀ i H, i ≤ n → Pv i H → G H)
    (hs : ∀ i x H H', i < n → Pv i H → Y i H x H' → g x (wipe σ vs) H' fun σ2 H2 => wipe σ2 vs = wipe σ vs ∧ tt σ2 H2 fun b H3 => if b = true then tk σ2 H3 fun y H4 => tv σ2 H4 fun z H5 => ∃ kvs k, y = kV k ∧ H5 D = some (.dK kvs) ∧ kvs.length < sizeLine ∧ Pv (i + 1) (upd H5 D (.dK (putK kvs k z))) else Pv (i + 1) H3)
    (hd : ∀ H, Pv n H → Qd H) : ∃ W : Nat → Nat → Hp → Prop, (∃ m, W 0 m (upd H1 D (.dK []))) ∧ ∀ i m H, W i m H →
      (J.stop i H ∧ Qd H) ∨ (J.go i H ∧ ∃ Nx : Hp → Prop, (∀ H', Nx H' → ∃ m', m' < m ∧ W (i + 1) m' H') ∧ ∀ x H', J.yld i H x H' → g x (wipe σ vs) H' fun σ2 H2 => wipe σ2 vs = wipe σ vs ∧ tt σ2 H2 fun b H3 =>
        if b = true then tk σ2 H3 fun y H4 => tv σ2 H4 fun z H5 => ∃ kvs k, y = kV k ∧ H5 D = some (.dK kvs) ∧ kvs.length < sizeLine ∧ Nx (upd H5 D (.dK (putK kvs k z))) else Nx H3) := by
  refine ⟨fun i m H => m = n - i ∧ i ≤ n ∧ Pv i H, ⟨n, rfl, Nat.zero_le _, h0⟩, fun i m H ⟨em, hi, p⟩ => ?_⟩
  by_cases hlt : i < n
  · refine .inr ⟨w.goes i H hlt (hG i H hi p), Pv (i + 1), fun H' p' => ⟨n - (i + 1), by omega, rfl, hlt, p'⟩, fun x H' y => ?_⟩
    exact hs i x H H' hlt p (w.yields i H x H' hlt (hG i H hi p) y)
  · obtain rfl : i = n := by omega
    exact .inl ⟨w.stops H (hG i H hi p), hd H p⟩
/-- keys tuples -/
theorem dcT_it {J : It} {n : Nat} {G : Hp → Prop} {Y : Nat → Hp → V → Hp → Prop} (w : Walk J n G Y) {g : TG} {tk tv : TE} {vs : List Nat} {σ : L2.St} {H1 : Hp} {D : Addr} {Qd : Hp → Prop} (Pv : Nat → Hp → Prop) (h0 : Pv 0 (upd H1 D (.dT []))) (hG : ∀ i H, i ≤ n → Pv i H → G H)
    (hs : ∀ i x H H', i < n → Pv i H → Y i H x H' → g x (wipe σ vs) H' fun σ2 H2 => wipe σ2 vs = wipe σ vs ∧ tk σ2 H2 fun y H4 => tv σ2 H4 fun z H5 => ∃ kvs k b, y = .ref b ∧ H5 b = some (.tup (k.map kV)) ∧ H5 D = some (.dT kvs) ∧ kvs.length < sizeLine ∧ Pv (i + 1) (upd H5 D (.dT (putK kvs k z))))
    (hd : ∀ H, Pv n H → Qd H) : ∃ W : Nat → Nat → Hp → Prop, (∃ m, W 0 m (upd H1 D (.dT []))) ∧ ∀ i m H, W i m H →
      (J.stop i H ∧ Qd H) ∨ (J.go i H ∧ ∃ Nx : Hp → Prop, (∀ H', Nx H' → ∃ m', m' < m ∧ W (i + 1) m' H') ∧ ∀ x H', J.yld i H x H' → g x (wipe σ vs) H' fun σ2 H2 => wipe σ2 vs = wipe σ vs ∧
        tk σ2 H2 fun y H4 => tv σ2 H4 fun z H5 => ∃ kvs k b, y = .ref b ∧ H5 b = some (.tup (k.map kV)) ∧ H5 D = some (.dT kvs) ∧ kvs.length < sizeLine ∧ Nx (upd H5 D (.dT (putK kvs k z)))) := by
  refine ⟨fun i m H => m = n - i ∧ i ≤ n ∧ Pv i H, ⟨n, rfl, Nat.zero_le _, h0⟩, fun i m H ⟨em, hi, p⟩ => ?_⟩
  by_cases hlt : i < n
  · refine .inr ⟨w.goes i H hlt (hG i H hi p), Pv (i + 1), fun H' p' => ⟨n - (i + 1), by omega, rfl, hlt, p'⟩, fun x H' y => ?_⟩
    exact hs i x H H' hlt p (w.yields i H x H' hlt (hG i H hi p) y)
  · obtain rfl : i = n := by omega
    exact .inl ⟨w.stops H (hG i H hi p), hd H p⟩
/-- the second clause of two -/
theorem in_it {J : It} {n : Nat} {G : Hp → Prop} {Y : Nat → Hp → V → Hp → Prop} (w : Walk J n G Y) {up : Addr → V → V → Hp → (Hp → Prop) → Prop} {D : Addr} {g1 : TG} {tt1 : TT} {tk tv : TE} {vs1 : List Nat} {τ : L2.St} {H0 : Hp} {Nx : Hp → Prop} (Pv : Nat → Hp → Prop) (h0 : Pv 0 H0) (hG : ∀ i H, i ≤ n → Pv i H → G H)
    (hs : ∀ j x H H', j < n → Pv j H → Y j H x H' → g1 x (wipe τ vs1) H' fun τ2 H5 => wipe τ2 vs1 = wipe τ vs1 ∧ tt1 τ2 H5 fun b H6 => if b = true then tk τ2 H6 fun y H7 => tv τ2 H7 fun z H8 => up D y z H8 (Pv (j + 1)) else Pv (j + 1) H6)
    (hd : ∀ H, Pv n H → Nx H) : Ka.InP up D g1 tt1 tk tv vs1 τ Nx J H0 := by
  refine ⟨fun i m H => m = n - i ∧ i ≤ n ∧ Pv i H, ⟨n, rfl, Nat.zero_le _, h0⟩, fun i m H ⟨em, hi, p⟩ => ?_⟩
  by_cases hlt : i < n
  · refine .inr ⟨w.goes i H hlt (hG i H hi p), Pv (i + 1), fun H' p' => ⟨n - (i + 1), by omega, rfl, hlt, p'⟩, fun x H' y => ?_⟩
    exact hs i x H H' hlt p (w.yields i H x H' hlt (hG i H hi p) y)
  · obtain rfl : i = n := by omega
    exact .inl ⟨w.stops H (hG i H hi p), hd H p⟩
/-- the first -/
theorem out_it {J : It} {n : Nat} {G : Hp → Prop} {Y : Nat → Hp → V → Hp → Prop} (w : Walk J n G Y) {o0 : HO} {up : Addr → V → V → Hp → (Hp → Prop) → Prop} {g g1 : TG} {tt tt1 : TT} {wi1 : TI} {tk tv : TE} {vs vs1 : List Nat} {σ : L2.St} {H1 : Hp} {D : Addr} {Qd : Hp → Prop} (Pv : Nat → Hp → Prop) (h0 : Pv 0 (upd H1 D o0)) (hG : ∀ i H, i ≤ n → Pv i H → G H)
    (hs : ∀ i x H H', i < n → Pv i H → Y i H x H' → g x (wipe σ vs) H' fun τ H2 => wipe τ vs = wipe σ vs ∧ tt τ H2 fun b H3 => if b = true then wi1 τ H3 fun J1 H4 => Ka.InP up D g1 tt1 tk tv vs1 τ (Pv (i + 1)) J1 H4 else Pv (i + 1) H3)
    (hd : ∀ H, Pv n H → Qd H) : ∃ W : Nat → Nat → Hp → Prop, (∃ m, W 0 m (upd H1 D o0)) ∧ ∀ i m H, W i m H → (J.stop i H ∧ Qd H) ∨ (J.go i H ∧ ∃ Nx : Hp → Prop, (∀ H', Nx H' → ∃ m', m' < m ∧ W (i + 1) m' H') ∧
      ∀ x H', J.yld i H x H' → g x (wipe σ vs) H' fun τ H2 => wipe τ vs = wipe σ vs ∧ tt τ H2 fun b H3 => if b = true then wi1 τ H3 fun J1 H4 => Ka.InP up D g1 tt1 tk tv vs1 τ Nx J1 H4 else Nx H3) := by
  refine ⟨fun i m H => m = n - i ∧ i ≤ n ∧ Pv i H, ⟨n, rfl, Nat.zero_le _, h0⟩, fun i m H ⟨em, hi, p⟩ => ?_⟩
  by_cases hlt : i < n
  · refine .inr ⟨w.goes i H hlt (hG i H hi p), Pv (i + 1), fun H' p' => ⟨n - (i + 1), by omega, rfl, hlt, p'⟩, fun x H' y => ?_⟩
    exact hs i x H H' hlt p (w.yields i H x H' hlt (hG i H hi p) y)
  · obtain rfl : i = n := by omega
    exact .inl ⟨w.stops H (hG i H hi p), hd H p⟩
/-- a list comprehension with two clauses: the second -/
theorem lcin_it {J : It} {n : Nat} {G : Hp → Prop} {Y : Nat → Hp → V → Hp → Prop} (w : Walk J n G Y) {D : Addr} {g1 : TG} {tt1 : TT} {te : TE} {vs1 : List Nat} {τ : L2.St} {H0 : Hp} {Nx : Hp → Prop} (Pv : Nat → Hp → Prop) (h0 : Pv 0 H0) (hG : ∀ i H, i ≤ n → Pv i H → G H)
    (hs : ∀ j x H H', j < n → Pv j H → Y j H x H' → g1 x (wipe τ vs1) H' fun τ2 H5 => wipe τ2 vs1 = wipe τ vs1 ∧ tt1 τ2 H5 fun b H6 => if b = true then te τ2 H6 fun y H7 => ∃ acc, H7 D = some (.lst acc) ∧ acc.length < sizeLine ∧ Pv (j + 1) (upd H7 D (.lst (acc ++ [y]))) else Pv (j + 1) H6)
    (hd : ∀ H, Pv n H → Nx H) : ∃ W1 : Nat → Nat → Hp → Prop, (∃ m, W1 0 m H0) ∧ ∀ j k H, W1 j k H →
      (J.stop j H ∧ Nx H) ∨ (J.go j H ∧ ∃ Nx1 : Hp → Prop, (∀ H', Nx1 H' → ∃ k', k' < k ∧ W1 (j + 1) k' H') ∧ ∀ x H', J.yld j H x H' → g1 x (wipe τ vs1) H' fun σ3 H5 => wipe σ3 vs1 = wipe τ vs1 ∧ tt1 σ3 H5 fun b H6 =>
        if b = true then te σ3 H6 fun y H7 => ∃ acc, H7 D = some (.lst acc) ∧ acc.length < sizeLine ∧ Nx1 (upd H7 D (.lst (acc ++ [y]))) else Nx1 H6) := by
  refine ⟨fun i m H => m = n - i ∧ i ≤ n ∧ Pv i H, ⟨n, rfl, Nat.zero_le _, h0⟩, fun i m H ⟨em, hi, p⟩ => ?_⟩
  by_cases hlt : i < n
  · refine .inr ⟨w.goes i H hlt (hG i H hi p), Pv (i + 1), fun H' p' => ⟨n - (i + 1), by omega, rfl, hlt, p'⟩, fun x H' y => ?_⟩
    exact hs i x H H' hlt p (w.yields i H x H' hlt (hG i H hi p) y)
  · obtain rfl : i = n := by omega
    exact .inl ⟨w.stops H (hG i H hi p), hd H p⟩
/-- what the second clause asks -/
def LcIn (D : Addr) (g1 : TG) (tt1 : TT) (te : TE) (vs1 : List Nat) (σ2 : L2.St) (Nx : Hp → Prop) (J1 : It) (H4 : Hp) : Prop := ∃ W1 : Nat → Nat → Hp → Prop, (∃ m, W1 0 m H4) ∧ ∀ j k H, W1 j k H →
      (J1.stop j H ∧ Nx H) ∨ (J1.go j H ∧ ∃ Nx1 : Hp → Prop, (∀ H', Nx1 H' → ∃ k', k' < k ∧ W1 (j + 1) k' H') ∧ ∀ x H', J1.yld j H x H' → g1 x (wipe σ2 vs1) H' fun σ3 H5 => wipe σ3 vs1 = wipe σ2 vs1 ∧ tt1 σ3 H5 fun b H6 =>
        if b = true then te σ3 H6 fun y H7 => ∃ acc, H7 D = some (.lst acc) ∧ acc.length < sizeLine ∧ Nx1 (upd H7 D (.lst (acc ++ [y]))) else Nx1 H6)
theorem lcout_it {J : It} {n : Nat} {G : Hp → Prop} {Y : Nat → Hp → V → Hp → Prop} (w : Walk J n G Y) {g g1 : TG} {tt tt1 : TT} {wi1 : TI} {te : TE} {vs vs1 : List Nat} {σ : L2.St} {H1 : Hp} {D : Addr} {Qd : Hp → Prop} (Pv : Nat → Hp → Prop) (h0 : Pv 0 (upd H1 D (.lst []))) (hG : ∀ i H, i ≤ n → Pv i H → G H)
    (hs : ∀ i x H H', i < n → Pv i H → Y i H x H' → g x (wipe σ vs) H' fun τ H2 => wipe τ vs = wipe σ vs ∧ tt τ H2 fun b H3 => if b = true then wi1 τ H3 fun J1 H4 => LcIn D g1 tt1 te vs1 τ (Pv (i + 1)) J1 H4 else Pv (i + 1) H3)
    (hd : ∀ H, Pv n H → Qd H) : ∃ W : Nat → Nat → Hp → Prop, (∃ m, W 0 m (upd H1 D (.lst []))) ∧ ∀ i m H, W i m H → (J.stop i H ∧ Qd H) ∨ (J.go i H ∧ ∃ Nx : Hp → Prop, (∀ H', Nx H' → ∃ m', m' < m ∧ W (i + 1) m' H') ∧
      ∀ x H', J.yld i H x H' → g x (wipe σ vs) H' fun τ H2 => wipe τ vs = wipe σ vs ∧ tt τ H2 fun b H3 => if b = true then wi1 τ H3 fun J1 H4 => LcIn D g1 tt1 te vs1 τ Nx J1 H4 else Nx H3) := by
  refine ⟨fun i m H => m = n - i ∧ i ≤ n ∧ Pv i H, ⟨n, rfl, Nat.zero_le _, h0⟩, fun i m H ⟨em, hi, p⟩ => ?_⟩
  by_cases hlt : i < n
  · refine .inr ⟨w.goes i H hlt (hG i H hi p), Pv (i + 1), fun H' p' => ⟨n - (i + 1), by omega, rfl, hlt, p'⟩, fun x H' y => ?_⟩
    exact hs i x H H' hlt p (w.yields i H x H' hlt (hG i H hi p) y)
  · obtain rfl : i = n := by omega
    exact .inl ⟨w.stops H (hG i H hi p), hd H p⟩
theorem piT_at {X : Cx} {K : PySem.W.Frag} {tg l : Expr} {t : TE} (h : X.K = K) (hl : PE X l t) : PI X tg l (iTup K t) := by
  subst h
  exact pi_tup hl
theorem piL_at {X : Cx} {K : PySem.W.Frag} {tg l : Expr} {t : TE} (h : X.K = K) (hl : PE X l t) : PI X tg l (iList K t) := by
  subst h
  exact pi_list hl
theorem putK_new {κ : Type} [DecidableEq κ] : ∀ {kvs : List (κ × V)} {k : κ} {v : V}, k ∉ kvs.map (·.1) → putK kvs k v = kvs ++ [(k, v)] := by
  intro kvs k v h
  unfold putK
  rw [if_neg]
  rw [List.any_eq_true]
  rintro ⟨x, hx, e⟩
  exact h (List.mem_map.mpr ⟨x, hx, of_decide_eq_true e⟩)
theorem valV_mem {κ : Type} [DecidableEq κ] : ∀ {kvs : List (κ × V)} {k : κ} {v : V}, (kvs.map (·.1)).Nodup → (k, v) ∈ kvs → valV kvs k = some v
  | [], _, _, _, h => nomatch h
  | p :: r, k, v, nd, h => by
    rw [List.map_cons, List.nodup_cons] at nd
    rcases List.mem_cons.mp h with e | e
    · subst e
      exact valV_pos rfl
    · have : ¬ p.1 = k := fun z => nd.1 (z ▸ List.mem_map.mpr ⟨_, e, rfl⟩)
      rw [valV_neg this]
      exact valV_mem nd.2 e
theorem valV_none {κ : Type} [DecidableEq κ] : ∀ {kvs : List (κ × V)} {k : κ}, k ∉ kvs.map (·.1) → valV kvs k = none
  | [], _, _ => rfl
  | p :: r, k, h => by
    rw [List.map_cons, List.mem_cons, not_or] at h
    rw [valV_neg fun z => h.1 z.symm]
    exact valV_none h.2
theorem Rd.mono {H H' : Hp} {a : Addr} {u : HO} (h : Rd H a u) (s : Same H H') : Rd H' a u := h.elim (fun e => .inl (s _ _ e)) fun ⟨o, e⟩ => .inr ⟨o, s _ _ e⟩
end Kb
/-! comprehensions whose items are told beforehand; zip and enumerate of tuples as walks. -/
namespace Kb
open PySem PySem.Spec PyProof.Rows L2
theorem iteYes {c : Bool} {A B : Prop} (h : c = true) (a : A) : if c = true then A else B := by
  rw [if_pos h]
  exact a
theorem iteNo {c : Bool} {A B : Prop} (h : c = false) (b : B) : if c = true then A else B := by
  rw [h]
  exact iteF b
/-- the list at D holds the first i of ys, all else stands -/
def Lp (H1 : Hp) (D : Addr) (ys : List V) (i : Nat) (H : Hp) : Prop := Same H1 H ∧ H D = some (.lst (ys.take i))
theorem Lp.put {H1 H H4 : Hp} {D : Addr} {ys : List V} {i : Nat} {y : V} (h : Lp H1 D ys i H) (nD : H1 D = none) (s : Same H H4) (hy : ys[i]? = some y) (hl : ys.length ≤ 1000000) :
    ∃ acc, H4 D = some (.lst acc) ∧ acc.length < sizeLine ∧ Lp H1 D ys (i + 1) (upd H4 D (.lst (acc ++ [y]))) := by
  have hi := (List.getElem?_eq_some_iff.mp hy).1
  refine ⟨_, s _ _ h.2, Nat.lt_of_lt_of_le (m := ys.length) (by rw [List.length_take]; omega) (smallE hl), fun c u e => ?_, ?_⟩
  · rw [upd_ne (ne_of_none e nD)]
    exact s _ _ (h.1 _ _ e)
  · rw [upd_same, take_of_get hy]
section
variable {J : It} {n : Nat} {G : Hp → Prop} {Y : Nat → Hp → V → Hp → Prop}
theorem lc_pure (w : Walk J n G Y) {g : TG} {tt : TT} {te : TE} {vs : List Nat} {σ : L2.St} {H1 : Hp} {D : Addr} {Qd : Hp → Prop} (ys : List V) (hn : ys.length = n) (nD : H1 D = none) (hG : ∀ H, Same H1 H → G H)
    (hs : ∀ i x H H', i < n → Lp H1 D ys i H → Y i H x H' → g x (wipe σ vs) H' fun σ2 H2 => wipe σ2 vs = wipe σ vs ∧ tt σ2 H2 fun b H3 =>
      if b = true then te σ2 H3 fun y H4 => ∃ acc, H4 D = some (.lst acc) ∧ acc.length < sizeLine ∧ Lp H1 D ys (i + 1) (upd H4 D (.lst (acc ++ [y]))) else Lp H1 D ys (i + 1) H3) (hd : ∀ H, Same H1 H → H D = some (.lst ys) → Qd H) :
    ∃ W : Nat → Nat → Hp → Prop, (∃ m, W 0 m (upd H1 D (.lst []))) ∧ ∀ i m H, W i m H →
      (J.stop i H ∧ Qd H) ∨ (J.go i H ∧ ∃ Nx : Hp → Prop, (∀ H', Nx H' → ∃ m', m' < m ∧ W (i + 1) m' H') ∧ ∀ x H', J.yld i H x H' → g x (wipe σ vs) H' fun σ2 H2 => wipe σ2 vs = wipe σ vs ∧ tt σ2 H2 fun b H3 =>
        if b = true then te σ2 H3 fun y H4 => ∃ acc, H4 D = some (.lst acc) ∧ acc.length < sizeLine ∧ Nx (upd H4 D (.lst (acc ++ [y]))) else Nx H3) :=
  lc_it w (Lp H1 D ys) ⟨same_new nD, upd_same⟩ (fun i H _ h => hG H h.1) hs fun H h => hd H h.1 (by rw [h.2, List.take_of_length_le (by omega)])
end
section
variable {K : PySem.W.Frag} {a b : Addr} {xs ys : List V}
theorem walk_enumT : Walk (Ka.Iet K a) xs.length (fun H => SqT K H a xs) (YPair (fun i => some (.int (i : Nat))) (fun i => xs[i]?)) :=
  ⟨fun i _ hi q => ⟨xs, xs[i], q, by simp [hi]⟩, fun _ q => ⟨xs, q, Nat.le_refl _⟩, fun i H x H' _ q y => by
    obtain ⟨T, z, e, nT, e2, hz⟩ := y
    exact ⟨T, .int (i : Nat), z, e, nT, e2, rfl, hz xs q⟩⟩
theorem walk_zipT {n : Nat} (hn : n = min xs.length ys.length) : Walk (RZ.ItzT K a b) n (fun H => SqT K H a xs ∧ SqT K H b ys) (YPair (fun i => xs[i]?) (fun i => ys[i]?)) :=
  ⟨fun i _ hi q => ⟨xs, ys, xs[i]'(by omega), ys[i]'(by omega), q.1, q.2, List.getElem?_eq_getElem _, List.getElem?_eq_getElem _⟩, fun _ q => ⟨xs, ys, q.1, q.2, by omega⟩, fun i H x H' _ q y => by
    obtain ⟨T, u, v, e, nT, e2, hx, hy⟩ := y
    exact ⟨T, u, v, e, nT, e2, hx xs q.1, hy ys q.2⟩⟩
theorem tup_at {X : Cx} {K : PySem.W.Frag} {es : List Expr} {k : Nat} {pos : Pos} {t : TGs} {n : Nat} (h : X.K = K) (hc : X.calm = true) (hg : PGs X es t) (hst : List.findIdx? (fun x => x.fst) (assignEach es X.env) = none := by rfl) (hn : (assignEach es X.env).length = n := by rfl) : PG X (.Tuple es k pos) (gTup K n t) := by
  subst h
  subst hn
  exact pg_tup hc hg rfl hst
end
end Kb
namespace Kb
open PySem PySem.Spec PyProof.Rows L2
def Rows (H : Hp) (rs : List Ka.Row) : Prop := ∀ r ∈ rs, H r.1 = some (.tup (r.2.map V.str))
def adV (rs : List Ka.Row) : List V := rs.map fun r => V.ref r.1
/-! ### values as data: places, rows, lists of them -/
def natD (g : List Nat) : PyData := .tuple (g.map fun (i : Nat) => .int (i : Int))
/-- the lists of codes are the same: the texts are -/
theorem str_beq (x y : Str) : (x == y) = decide (x = y) := by
  by_cases h : x = y
  · subst h
    simp
  · rw [decide_eq_false h]
    exact beq_eq_false_iff_ne.mpr h
theorem eqvAll_map {α : Type} [DecidableEq α] {f : α → PyData} (h : ∀ a b, PyData.eqv (f a) (f b) = decide (a = b)) : ∀ l m : List α, PyData.eqvAll (l.map f) (m.map f) = decide (l = m)
  | [], [] => by simp [PyData.eqvAll]
  | [], _ :: _ => by simp [PyData.eqvAll]
  | _ :: _, [] => by simp [PyData.eqvAll]
  | x :: l, y :: m => by
    rw [List.map_cons, List.map_cons, PyData.eqvAll, h, eqvAll_map h l m]
    by_cases h1 : x = y <;> by_cases h2 : l = m <;> simp [h1, h2]
theorem eq_int (a b : Nat) : PyData.eqv (.int (a : Int)) (.int (b : Int)) = decide (a = b) := by
  rw [PyData.eqv]
  by_cases h : a = b
  · subst h
    simp
  · rw [decide_eq_false h]
    exact beq_eq_false_iff_ne.mpr (by omega)
theorem eq_str (a b : Str) : PyData.eqv (.str a) (.str b) = decide (a = b) := by
  rw [PyData.eqv, str_beq]
theorem eqN (g g' : List Nat) : PyData.eqv (natD g) (natD g') = decide (g = g') := by
  unfold natD
  rw [PyData.eqv, eqvAll_map (f := fun (i : Nat) => PyData.int (i : Int)) eq_int]
theorem eqR (r r' : List Str) : PyData.eqv (Ka.rowD r) (Ka.rowD r') = decide (r = r') := by
  unfold Ka.rowD
  rw [PyData.eqv, eqvAll_map eq_str]
theorem eqRows (l m : List (List Str)) : PyData.eqvAll (l.map Ka.rowD) (m.map Ka.rowD) = decide (l = m) := eqvAll_map eqR l m
theorem dep_le {α : Type} {f : α → PyData} {n : Nat} (h : ∀ a, (f a).depth ≤ n) : ∀ l : List α, PyData.depthAll (l.map f) ≤ n
  | [] => by simp [PyData.depthAll]
  | x :: l => by
    have h1 := h x
    have h2 := dep_le h l
    rw [List.map_cons]
    simp only [PyData.depthAll]
    omega
theorem lay_all {α : Type} {f : α → PyData} : ∀ l : List α, (∀ a ∈ l, (f a).canLay0 = true) → PyData.canLayAll0 (l.map f) = true
  | [], _ => by simp [PyData.canLayAll0]
  | x :: l, h => by
    rw [List.map_cons, PyData.canLayAll0, h x List.mem_cons_self, lay_all l fun a ha => h a (List.mem_cons_of_mem _ ha)]
    rfl
theorem shaped_of {d : PyData} (h1 : d.canLay0 = true) (h2 : d.depth ≤ 64) : SeqAt.shaped d = true := by
  unfold SeqAt.shaped
  rw [h1, decide_eq_true h2]
  rfl
theorem depN (g : List Nat) : (natD g).depth ≤ 2 := by
  unfold natD
  have := dep_le (f := fun (i : Nat) => PyData.int (i : Int)) (n := 1) (fun a => by simp [PyData.depth]) g
  simp only [PyData.depth]
  omega
theorem layN (g : List Nat) : (natD g).canLay0 = true := by
  unfold natD
  rw [PyData.canLay0]
  exact lay_all g fun a _ => by rw [PyData.canLay0]
theorem shN (g : List Nat) : SeqAt.shaped (natD g) = true := shaped_of (layN g) (Nat.le_trans (depN g) (by decide))
theorem depR (r : List Str) : (Ka.rowD r).depth ≤ 2 := by
  unfold Ka.rowD
  have := dep_le (f := PyData.str) (n := 1) (fun a => by simp [PyData.depth]) r
  simp only [PyData.depth]
  omega
theorem name_ok {z : Str} (h : isName z = true) : PyData.strOk z = true := by
  unfold isName at h
  rw [Bool.and_eq_true] at h
  unfold PyData.strOk
  rw [← Array.all_toList, List.all_eq_true]
  intro c hc
  have := List.all_eq_true.mp h.2 c hc
  unfold lowC at this
  rw [Bool.and_eq_true] at this
  have := of_decide_eq_true this.2
  exact decide_eq_true (by omega)
theorem layR {r : List Str} (h : ∀ z ∈ r, isName z = true) : (Ka.rowD r).canLay0 = true := by
  unfold Ka.rowD
  rw [PyData.canLay0]
  exact lay_all r fun a ha => by rw [PyData.canLay0]; exact name_ok (h a ha)
theorem shR {r : List Str} (h : ∀ z ∈ r, isName z = true) : SeqAt.shaped (Ka.rowD r) = true := shaped_of (layR h) (Nat.le_trans (depR r) (by decide))
theorem shRows {l : List (List Str)} (h : ∀ r ∈ l, ∀ z ∈ r, isName z = true) : SeqAt.shaped (.list (l.map Ka.rowD)) = true ∧ SeqAt.shaped (.tuple (l.map Ka.rowD)) = true := by
  have h1 := dep_le (f := Ka.rowD) (n := 2) depR l
  have h2 := lay_all (f := Ka.rowD) l fun r hr => layR (h r hr)
  exact ⟨shaped_of (by rw [PyData.canLay0]; exact h2) (by simp only [PyData.depth]; omega), shaped_of (by rw [PyData.canLay0]; exact h2) (by simp only [PyData.depth]; omega)⟩
section
variable {K : PySem.W.Frag} {H : Hp}
theorem dpNs : ∀ g : List Nat, DpAll K H (natV g) (g.map fun (i : Nat) => .int (i : Int))
  | [] => .nil
  | i :: g => .cons (.int _) (dpNs g)
theorem dpN {p : Addr} {g : List Nat} (h : H p = some (.tup (natV g))) : Dp K H (.ref p) (natD g) := .tup (sqT_new h) (dpNs g)
theorem dpRs : ∀ r : List Str, DpAll K H (r.map V.str) (r.map .str)
  | [] => .nil
  | i :: g => .cons (.str _) (dpRs g)
theorem dpR {p : Addr} {r : List Str} (h : H p = some (.tup (r.map V.str))) : Dp K H (.ref p) (Ka.rowD r) := .tup (sqT_new h) (dpRs r)
theorem dpRows : ∀ {rs : List Ka.Row}, Rows H rs → DpAll K H (adV rs) ((rs.map (·.2)).map Ka.rowD)
  | [], _ => .nil
  | r :: rs, h => .cons (dpR (h r List.mem_cons_self)) (dpRows fun q hq => h q (List.mem_cons_of_mem _ hq))
end
end Kb
namespace Kb
open PySem PySem.Spec PyProof.Rows L2
/-! ### courses as data -/
structure Stp where
  n : Nat
  call : Bool
  nm : Str
  o : Nat
  deriving DecidableEq
def kindS (c : Bool) : Str := if c = true then "call" else "do"
def stpK (s : Stp) : List L2.Key := [.inl (s.n : Int), .inr (kindS s.call), .inr s.nm, .inl (s.o : Int)]
def stpV (s : Stp) : List V := [.int (s.n : Int), .str (kindS s.call), .str s.nm, .int (s.o : Int)]
theorem stpKV (s : Stp) : (stpK s).map kV = stpV s := rfl
theorem kindS_inj {a b : Bool} (h : kindS a = kindS b) : a = b := by
  cases a <;> cases b <;> first | rfl | exact absurd h (by decide +kernel)
theorem stpK_inj {s t : Stp} (h : stpK s = stpK t) : s = t := by
  cases s with | mk a b c d => cases t with | mk a' b' c' d' =>
  unfold stpK at h
  injection h with h1 h
  injection h with h2 h
  injection h with h3 h
  injection h with h4 h
  have h1 := Sum.inl.inj h1
  have h2 := kindS_inj (Sum.inr.inj h2)
  have h3 := Sum.inr.inj h3
  have h4 := Sum.inl.inj h4
  have h1 : (a : Int) = (a' : Int) := h1
  have h4 : (d : Int) = (d' : Int) := h4
  obtain rfl : a = a' := by omega
  obtain rfl : d = d' := by omega
  have h2 : b = b' := h2
  have h3 : c = c' := h3
  rw [h2, h3]
def StpOk (n : Nat) (s : Stp) : Prop := s.n < n ∧ s.o < n ∧ isName s.nm = true
/-- a course where it stands -/
structure CA where
  a : Addr
  nm : Str
  n : Nat
  ea : Addr
  es : List Nat
  sa : Addr
  ss : List (Addr × Stp)
def crsV (c : CA) : List V := [.str c.nm, .int (c.n : Int), .ref c.ea, .ref c.sa]
structure CrsAt (K : PySem.W.Frag) (H : Hp) (c : CA) : Prop where
  t : SqT K H c.a (crsV c)
  e : SqT K H c.ea (natV c.es)
  s : SqT K H c.sa (c.ss.map fun p => V.ref p.1)
  p : ∀ p ∈ c.ss, H p.1 = some (.tup (stpV p.2))
theorem CrsAt.mono {K : PySem.W.Frag} {H H' : Hp} {c : CA} (s : Same H H') (h : CrsAt K H c) : CrsAt K H' c := ⟨Same.sqT s h.t, Same.sqT s h.e, Same.sqT s h.s, fun p hp => s _ _ (h.p p hp)⟩
structure CrsOk (c : CA) : Prop where
  nm : isName c.nm = true
  n0 : 1 ≤ c.n
  n1 : c.n ≤ 20
  el : ∀ e ∈ c.es, e < c.n
  asc : c.es.Pairwise (· < ·)
  sl : ∀ p ∈ c.ss, StpOk c.n p.2
  nd : (c.ss.map (·.2)).Nodup
  sz : c.ss.length ≤ 1000
  ez : c.es.length ≤ 10000
theorem name_len {s : Str} (h : isName s = true) : s.length ≤ sizeLine := by
  unfold isName at h
  rw [Bool.and_eq_true, Bool.and_eq_true] at h
  have := of_decide_eq_true h.1.2
  exact smallE (by show s.cps.size ≤ 1000000; omega)
theorem all_trueL (n : Nat) : (List.replicate n true).all id = true := by simp
section
variable {P : Program} {w : World} {K : PySem.W.Frag} {mg : Str → Option Value} {base : Heap}
def spIsLot (K : PySem.W.Frag) : Sp := fun vs H Q _ => ∃ (a : Addr) (l : List Nat), vs = [.ref a] ∧ SqT K H a (natV l) ∧ l.length ≤ 10000 ∧ l.Pairwise (· < ·) ∧ ∀ H', Same H H' → Q (.bl true) H'
abbrev nIl : List Str := ["values", "at"]
theorem scIl : FnScope nIl ["values"] (defScope sIsLot) := ⟨rfl, rfl, rfl, by decide +kernel, rfl, by decide +kernel, by decide +kernel⟩
theorem ok_islot {f : Addr} {fd : FuncData} (F : Fun K "is_lot" "is_lot" sIsLot f fd) (N : Nones mg) : FnOk P w K mg base CX0 1 f fd ["values"] (spIsLot K) := by
  refine F.ok scIl (fun vs H Q E h => ?_) (fun cdv A outer s H vs Q E hr h => ?_)
  · obtain ⟨a, l, rfl, _⟩ := h
    rfl
  · obtain ⟨a, l, rfl, hA, hl, asc, q⟩ := h
    refine ⟨_, pss_one (ps_ret (pe_callB (cr_all rfl) (by rfl) N.all (by decide +kernel) (pa_cons (pe_lc (own := [("at", 1)]) (g := gName 1) (tt := tYes) rfl scIl.nd (pi_range1 (by rfl) N.range (pa_cons (pe_op op_sub (pe_callB call_len_seq (by rfl) N.len PySem.boot_len (pa_cons (pv 0) pa_nil)) pe_int) pa_nil)) (blkOk_by (own := [("at", 1)]) (N := nIl) (sc := defScope sIsLot) (by decide +kernel)) (fun _ _ _ _ _ => (pg_name (i := 1) scIl.nd rfl (Or.inl rfl))) (fun _ _ _ _ _ => pts_nil) (fun _ _ _ _ _ => (pe_cmpR op_lt (pe_ix (ixT_at (K := K) rfl) (pv 0) (pv 1) (fun _ _ => rfl)) (pe_ix (ixT_at (K := K) rfl) (pv 0) (pe_op op_add (pv 1) pe_int) (fun _ _ => rfl)) (nomark _)))) pa_nil))), ?_⟩
    refine ⟨.ref a, rfl, a, _, rfl, .inr hA, _, 1, rfl, rfl, _, rfl, (by rw [natV_len]; omega), (by rw [natV_len]; omega), fun D nD => ?_⟩
    have em : (((natV l).length : Int) - 1).toNat = l.length - 1 := by rw [natV_len]; omega
    rw [em]
    refine lc_pure (walk_r0 (n := l.length - 1)) ((List.replicate (l.length - 1) true).map V.bl) (by rw [List.length_map, List.length_replicate]) nD (fun _ _ => True.intro) (fun i x H0 H' hi h0 y => ?_) (fun H' s' e => ?_)
    · obtain ⟨rfl, rfl⟩ := y
      have h1 : l[i]? = some (l[i]'(by omega)) := List.getElem?_eq_getElem _
      have h2 : l[i + 1]? = some (l[i + 1]'(by omega)) := List.getElem?_eq_getElem _
      refine ⟨rfl, .ref a, rfl, .int (i : Nat), rfl, a, _, _, _, rfl, rfl, Same.sqT h0.1 hA, atI_nat (natV_get h1), .ref a, rfl, .int (i : Nat), rfl, _, 1, rfl, rfl, a, _, _, .int ((l[i + 1]'(by omega) : Nat) : Int), rfl, rfl, Same.sqT h0.1 hA, ?_, _, _, rfl, rfl, ?_⟩
      · rw [show (i : Int) + 1 = ((i + 1 : Nat) : Int) from rfl]
        exact atI_nat (natV_get h2)
      · have lt : l[i]'(by omega) < l[i + 1]'(by omega) := List.pairwise_iff_getElem.mp asc i (i + 1) _ _ (Nat.lt_succ_self i)
        have e : decide (((l[i]'(by omega) : Nat) : Int) < ((l[i + 1]'(by omega) : Nat) : Int)) = true := decide_eq_true (by omega)
        dsimp only
        rw [e]
        refine h0.put nD (fun _ _ h => h) ?_ (by rw [List.length_map, List.length_replicate]; omega)
        rw [List.getElem?_map, List.getElem?_replicate, if_pos hi]
        rfl
    · refine ⟨D, _, rfl, sqL_new e, ?_⟩
      rw [all_trueL]
      exact q H' s'
end
end Kb
namespace Kb
open PySem PySem.Spec PyProof.Rows L2
/-! ### is_step, are_ends, are_steps, is_course: of good ones -/
section
variable {P : Program} {w : World} {K : PySem.W.Frag} {mg : Str → Option Value} {base : Heap}
def spIsStep : Sp := fun vs H Q _ => ∃ (a : Addr) (n : Nat) (s : Stp), vs = [.ref a, .int (n : Int)] ∧ H a = some (.tup (stpV s)) ∧ StpOk n s ∧ ∀ H', Same H H' → Q (.bl true) H'
abbrev nIs : List Str := ["value", "stages", "number", "kind", "name", "onto"]
theorem scIs : FnScope nIs ["value", "stages"] (defScope sIsStep) := ⟨rfl, rfl, rfl, by decide +kernel, rfl, by decide +kernel, by decide +kernel⟩
theorem ok_isstep {f fT fN : Addr} {fd fdT fdN : FuncData} (F : Fun K "is_step" "is_step" sIsStep f fd) (N : Nones mg) (G_is_number_to : FnOk P w K mg base CX0 3 fT fdT ["value", "most"] spIsNumTo) (C_is_number_to : CallC K mg "is_number_to" ["value", "most"] fT fdT) (G_is_name : FnOk P w K mg base CX0 2 fN fdN ["value"] (spName K)) (C_is_name : CallC K mg "is_name" ["value"] fN fdN) : FnOk P w K mg base CX0 4 f fd ["value", "stages"] spIsStep := by
  refine F.ok scIs (fun vs H Q E h => ?_) (fun cdv A outer s H vs Q E hr h => ?_)
  · obtain ⟨a, n, t, rfl, _⟩ := h
    rfl
  · obtain ⟨a, n, t, rfl, ha, ⟨o1, o2, o3⟩, q⟩ := h
    refine ⟨_, pss_cons (ps_if (PW.pt (pw_or (pt_not (pt_val (pe_callB call_isi (by rfl) N.isinstance (by decide +kernel) (pa_cons (pv 0) (pa_cons (pe_bltn (v := .ty "tuple") (by rfl) N.tuple (by decide +kernel) rfl) pa_nil))))) (pw_or1 (pt_cmpR op_ne (pe_callB call_len_seq (by rfl) N.len PySem.boot_len (pa_cons (pv 0) pa_nil)) pe_int (nomark _))))) (pss_one (ps_ret pe_bl)) pss_nil)
      (pss_cons (ps_asg (pv 0) (pg_tup rfl (pgs_cons (pg_name (i := 2) scIs.nd rfl (Or.inl rfl)) (pgs_cons (pg_name (i := 3) scIs.nd rfl (Or.inl rfl)) (pgs_cons (pg_name (i := 4) scIs.nd rfl (Or.inl rfl)) (pgs_cons (pg_name (i := 5) scIs.nd rfl (Or.inl rfl)) pgs_nil))))))
      (pss_cons (ps_if (PW.pt (pw_or (pt_not (pt_val (pe_call G_is_number_to (hr.mono (by decide)) (by rfl) C_is_number_to.g C_is_number_to.kp C_is_number_to.b .nil pass0 (pa_cons (pv 2) (pa_cons (pe_op op_sub (pv 1) pe_int) pa_nil))))) (pw_or1 (pt_not (pt_val (pe_call G_is_number_to (hr.mono (by decide)) (by rfl) C_is_number_to.g C_is_number_to.kp C_is_number_to.b .nil pass0 (pa_cons (pv 5) (pa_cons (pe_op op_sub (pv 1) pe_int) pa_nil)))))))) (pss_one (ps_ret pe_bl)) pss_nil)
      (pss_one (ps_ret (pe_and (pe_callB call_isi (by rfl) N.isinstance (by decide +kernel) (pa_cons (pv 3) (pa_cons (pe_bltn (v := .ty "str") (by rfl) N.str (by decide +kernel) rfl) pa_nil))) (pe_and (pe_cmpR op_in_seq (pv 3) (pe_tup (pa_cons pe_str (pa_cons pe_str pa_nil))) (by rfl)) (pe_one (pe_call G_is_name (hr.mono (by decide)) (by rfl) C_is_name.g C_is_name.kp C_is_name.b .nil pass0 (pa_cons (pv 4) pa_nil))))))))), ?_⟩
    have hA : SqT K H a (stpV t) := sqT_new ha
    refine ⟨.ref a, rfl, .ref a, .ty "tuple", .type "tuple", .type "tuple", true, rfl, .ty "tuple", tyT hA, kit_ty (by decide +kernel), true, rfl, iteF ?_⟩
    refine ⟨.ref a, rfl, a, _, rfl, .inr hA, rfl, _, rfl, iteNo (by simp [stpV]) ?_⟩
    refine ⟨.ref a, rfl, a, _, rfl, hA, rfl, _, _, rfl, _, _, rfl, _, _, rfl, _, _, rfl, rfl, ?_⟩
    have y1 : (decide ((0 : Int) ≤ (t.n : Int)) && decide ((t.n : Int) ≤ (n : Int) - 1)) = true := by
      rw [decide_eq_true (by omega), decide_eq_true (by omega)]
      rfl
    have y2 : (decide ((0 : Int) ≤ (t.o : Int)) && decide ((t.o : Int) ≤ (n : Int) - 1)) = true := by
      rw [decide_eq_true (by omega), decide_eq_true (by omega)]
      rfl
    refine ⟨_, rfl, _, rfl, _, _, rfl, rfl, _, _, rfl, ?_⟩
    rw [y1]
    refine ⟨true, rfl, iteF ⟨_, rfl, _, rfl, _, _, rfl, rfl, _, _, rfl, ?_⟩⟩
    rw [y2]
    refine ⟨true, rfl, iteF ?_⟩
    refine ⟨_, rfl, .str (kindS t.call), .ty "str", .type "str", .type "str", true, rfl, .ty "str", .base (.str _), kit_ty (by decide +kernel), _, rfl, ite2 (fun _ => ?_) (fun c => absurd rfl c)⟩
    have hin : inV (V.str (kindS t.call)) [V.str "do", V.str "call"] = true := by
      cases t.call <;> decide +kernel
    refine ⟨_, rfl, smallE (by show 2 ≤ 1000000; decide), fun p np => ⟨p, _, rfl, .inr (sqT_new upd_same), rfl, rfl, ?_⟩⟩
    have s1 : Same H (upd H p (.tup [V.str "do", V.str "call"])) := same_new np
    refine ⟨_, rfl, iteYes hin ?_⟩
    exact ⟨_, rfl, _, rfl, .inr ⟨_, rfl, name_len o3, fun H' s' => by rw [o3]; exact q H' (s1.trans s')⟩⟩
def spAreEnds (K : PySem.W.Frag) : Sp := fun vs H Q _ => ∃ (a : Addr) (n : Nat) (l : List Nat), vs = [.ref a, .int (n : Int)] ∧ SqT K H a (natV l) ∧ l.length ≤ 10000 ∧ l.Pairwise (· < ·) ∧ (∀ e ∈ l, e < n) ∧ ∀ H', Same H H' → Q (.bl true) H'
abbrev nAe : List Str := ["ends", "stages", "number"]
theorem scAe : FnScope nAe ["ends", "stages"] (defScope sAreEnds) := ⟨rfl, rfl, rfl, by decide +kernel, rfl, by decide +kernel, by decide +kernel⟩
theorem ok_areends {f fT fN : Addr} {fd fdT fdN : FuncData} (F : Fun K "are_ends" "are_ends" sAreEnds f fd) (N : Nones mg) (G_is_number_to : FnOk P w K mg base CX0 3 fT fdT ["value", "most"] spIsNumTo) (C_is_number_to : CallC K mg "is_number_to" ["value", "most"] fT fdT) (G_is_lot : FnOk P w K mg base CX0 1 fN fdN ["values"] (spIsLot K)) (C_is_lot : CallC K mg "is_lot" ["values"] fN fdN) : FnOk P w K mg base CX0 4 f fd ["ends", "stages"] (spAreEnds K) := by
  refine F.ok scAe (fun vs H Q E h => ?_) (fun cdv A outer s H vs Q E hr h => ?_)
  · obtain ⟨a, n, t, rfl, _⟩ := h
    rfl
  · obtain ⟨a, n, l, rfl, hA, hz, asc, lt, q⟩ := h
    refine ⟨_, pss_cons (ps_if (pt_not (pt_val (pe_callB call_isi (by rfl) N.isinstance (by decide +kernel) (pa_cons (pv 0) (pa_cons (pe_bltn (v := .ty "tuple") (by rfl) N.tuple (by decide +kernel) rfl) pa_nil))))) (pss_one (ps_ret pe_bl)) pss_nil)
      (pss_one (ps_ret (pe_and (pe_callB (cr_all rfl) (by rfl) N.all (by decide +kernel) (pa_cons (pe_lc (own := [("number", 2)]) (g := gName 2) (tt := tYes) rfl scAe.nd (pi_tup (pv 0)) (blkOk_by (own := [("number", 2)]) (N := nAe) (sc := defScope sAreEnds) (by decide +kernel)) (fun _ _ _ _ _ => (pg_name (i := 2) scAe.nd rfl (Or.inl rfl))) (fun _ _ _ _ _ => pts_nil) (fun _ _ _ _ _ => (pe_call G_is_number_to (hr.mono (by decide)) (by rfl) C_is_number_to.g C_is_number_to.kp C_is_number_to.b .nil pass0 (pa_cons (pv 2) (pa_cons (pe_op op_sub (pv 1) pe_int) pa_nil))))) pa_nil)) (pe_one (pe_call G_is_lot (hr.mono (by decide)) (by rfl) C_is_lot.g C_is_lot.kp C_is_lot.b .nil pass0 (pa_cons (pv 0) pa_nil)))))), ?_⟩
    refine ⟨.ref a, rfl, .ref a, .ty "tuple", .type "tuple", .type "tuple", true, rfl, .ty "tuple", tyT hA, kit_ty (by decide +kernel), true, rfl, iteF ?_⟩
    refine ⟨.ref a, rfl, a, rfl, ⟨_, hA⟩, fun D nD => ?_⟩
    refine lc_pure (walk_tup (K := K) (a := a) (xs := natV l)) ((List.replicate l.length true).map V.bl) (by rw [List.length_map, List.length_replicate, natV_len]) nD (fun _ s => Same.sqT s hA) (fun i x H0 H' hi h0 y => ?_) (fun H' s' e => ?_)
    · obtain ⟨rfl, hx⟩ := y
      rw [natV_len] at hi
      have hg : l[i]? = some (l[i]'hi) := List.getElem?_eq_getElem _
      have hx' := natV_get hg
      rw [hx] at hx'
      cases hx'
      have lti := lt _ (List.getElem_mem hi)
      refine ⟨rfl, _, rfl, _, rfl, _, _, rfl, rfl, _, _, rfl, ?_⟩
      have y1 : (decide ((0 : Int) ≤ ((l[i]'hi : Nat) : Int)) && decide (((l[i]'hi : Nat) : Int) ≤ (n : Int) - 1)) = true := by
        rw [decide_eq_true (by omega), decide_eq_true (by omega)]
        rfl
      rw [y1]
      refine h0.put nD (fun _ _ h => h) ?_ (by rw [List.length_map, List.length_replicate]; omega)
      rw [List.getElem?_map, List.getElem?_replicate, if_pos hi]
      rfl
    · refine ⟨D, _, rfl, sqL_new e, ?_⟩
      rw [all_trueL]
      refine ⟨_, rfl, iteYes rfl ?_⟩
      exact ⟨.ref a, rfl, a, l, rfl, Same.sqT s' hA, hz, asc, fun H2 s2 => q H2 (s'.trans s2)⟩
def spAreSteps (K : PySem.W.Frag) : Sp := fun vs H Q _ => ∃ (a : Addr) (n : Nat) (l : List (Addr × Stp)), vs = [.ref a, .int (n : Int)] ∧ SqT K H a (l.map fun p => V.ref p.1) ∧ (∀ p ∈ l, H p.1 = some (.tup (stpV p.2))) ∧ l.length ≤ 10000 ∧ (l.map (·.2)).Nodup ∧ (∀ p ∈ l, StpOk n p.2) ∧ ∀ H', Same H H' → Q (.bl true) H'
abbrev nAt : List Str := ["steps", "stages", "step"]
theorem scAt : FnScope nAt ["steps", "stages"] (defScope sAreSteps) := ⟨rfl, rfl, rfl, by decide +kernel, rfl, by decide +kernel, by decide +kernel⟩
theorem ok_aresteps {f fT : Addr} {fd fdT : FuncData} (F : Fun K "are_steps" "are_steps" sAreSteps f fd) (N : Nones mg) (G_is_step : FnOk P w K mg base CX0 4 fT fdT ["value", "stages"] spIsStep) (C_is_step : CallC K mg "is_step" ["value", "stages"] fT fdT) : FnOk P w K mg base CX0 5 f fd ["steps", "stages"] (spAreSteps K) := by
  refine F.ok scAt (fun vs H Q E h => ?_) (fun cdv A outer s H vs Q E hr h => ?_)
  · obtain ⟨a, n, t, rfl, _⟩ := h
    rfl
  · obtain ⟨a, n, l, rfl, hA, hP, hz, nd, ok, q⟩ := h
    refine ⟨_, pss_cons (ps_if (PW.pt (pw_or (pt_not (pt_val (pe_callB call_isi (by rfl) N.isinstance (by decide +kernel) (pa_cons (pv 0) (pa_cons (pe_bltn (v := .ty "tuple") (by rfl) N.tuple (by decide +kernel) rfl) pa_nil))))) (pw_or1 (pt_not (pt_val (pe_callB (cr_all rfl) (by rfl) N.all (by decide +kernel) (pa_cons (pe_lc (own := [("step", 2)]) (g := gName 2) (tt := tYes) rfl scAt.nd (pi_tup (pv 0)) (blkOk_by (own := [("step", 2)]) (N := nAt) (sc := defScope sAreSteps) (by decide +kernel)) (fun _ _ _ _ _ => (pg_name (i := 2) scAt.nd rfl (Or.inl rfl))) (fun _ _ _ _ _ => pts_nil) (fun _ _ _ _ _ => (pe_call G_is_step (hr.mono (by decide)) (by rfl) C_is_step.g C_is_step.kp C_is_step.b .nil pass0 (pa_cons (pv 2) (pa_cons (pv 1) pa_nil))))) pa_nil))))))) (pss_one (ps_ret pe_bl)) pss_nil)
      (pss_one (ps_ret (pe_cmpR op_eq (pe_callB call_len_dT (by rfl) N.len PySem.boot_len (pa_cons (Ka.pe_dcT (own := [("step", 2)]) (g := gName 2) rfl (hu_of hr) scAt.nd (pi_tup (pv 0)) (blkOk_by (own := [("step", 2)]) (N := nAt) (sc := defScope sAreSteps) (by decide +kernel)) (fun _ _ _ _ _ => (pg_name (i := 2) scAt.nd rfl (Or.inl rfl))) (fun _ _ _ _ _ => (pv 2)) (fun _ _ _ _ _ => pe_bl)) pa_nil)) (pe_callB call_len_seq (by rfl) N.len PySem.boot_len (pa_cons (pv 0) pa_nil)) (nomark _)))), ?_⟩
    refine ⟨.ref a, rfl, .ref a, .ty "tuple", .type "tuple", .type "tuple", true, rfl, .ty "tuple", tyT hA, kit_ty (by decide +kernel), true, rfl, iteF ?_⟩
    refine ⟨.ref a, rfl, a, rfl, ⟨_, hA⟩, fun D nD => ?_⟩
    refine lc_pure (walk_tup (K := K) (a := a) (xs := l.map fun p => V.ref p.1)) ((List.replicate l.length true).map V.bl) (by rw [List.length_map, List.length_replicate, List.length_map]) nD (fun _ s => Same.sqT s hA) (fun i x H0 H' hi h0 y => ?_) (fun H' s' e => ?_)
    · obtain ⟨rfl, hx⟩ := y
      rw [List.length_map] at hi
      obtain ⟨p, hp, rfl⟩ := get_map hx
      have mp := List.mem_of_getElem? hp
      refine ⟨rfl, _, rfl, _, rfl, p.1, n, p.2, rfl, h0.1 _ _ (hP p mp), ok p mp, fun H2 s2 => ?_⟩
      refine h0.put nD s2 ?_ (by rw [List.length_map, List.length_replicate]; omega)
      rw [List.getElem?_map, List.getElem?_replicate, if_pos hi]
      rfl
    · refine ⟨D, _, rfl, sqL_new e, ?_⟩
      rw [all_trueL]
      refine ⟨true, rfl, iteF ?_⟩
      refine ⟨.ref a, rfl, a, rfl, ⟨_, Same.sqT s' hA⟩, fun D2 nD2 => ?_⟩
      refine dcT_it (walk_tup (K := K) (a := a) (xs := l.map fun p => V.ref p.1)) (fun i H2 => Same H' H2 ∧ H2 D2 = some (.dT ((l.take i).map fun p => (stpK p.2, V.bl true)))) ⟨same_new nD2, upd_same⟩ (fun _ _ _ h => Same.sqT h.1 (Same.sqT s' hA)) (fun i x H0 H2 hi h0 y => ?_) (fun H2 h => ?_)
      · obtain ⟨rfl, hx⟩ := y
        rw [List.length_map] at hi
        obtain ⟨p, hp, rfl⟩ := get_map hx
        have mp := List.mem_of_getElem? hp
        refine ⟨rfl, _, rfl, _, stpK p.2, p.1, rfl, h0.1 _ _ (s' _ _ (hP p mp)), h0.2, ?_, fun c o e => ?_, ?_⟩
        · rw [List.length_map, List.length_take]
          exact small (by omega)
        · rw [upd_ne (ne_of_none e nD2)]
          exact h0.1 _ _ e
        · rw [upd_same, putK_new, take_of_get hp, List.map_append, List.map_singleton]
          rw [List.map_map]
          intro hm
          obtain ⟨p2, hp2, e2⟩ := List.mem_map.mp hm
          have e2 : p2.2 = p.2 := stpK_inj e2
          obtain ⟨j, hj⟩ := List.getElem?_of_mem hp2
          rw [List.getElem?_take] at hj
          split at hj
          · rename_i hlt
            have g1 : (l.map (·.2))[j]? = some p.2 := by rw [List.getElem?_map, hj, ← e2]; rfl
            have g2 : (l.map (·.2))[i]? = some p.2 := by rw [List.getElem?_map, hp]; rfl
            have := (List.getElem?_inj (by rw [List.length_map]; omega) nd).mp (g1.trans g2.symm)
            omega
          · cases hj
      · obtain ⟨s2, e2⟩ := h
        rw [List.length_map, List.take_of_length_le (Nat.le_refl _)] at e2
        refine ⟨D2, _, rfl, e2, .ref a, rfl, a, _, rfl, .inr (Same.sqT s2 (Same.sqT s' hA)), rfl, ?_⟩
        have e3 : decide (V.int (((l.map fun p => (stpK p.2, V.bl true)).length : Nat) : Int) = V.int (((l.map fun p => V.ref p.1).length : Nat) : Int)) = true := decide_eq_true (by rw [List.length_map, List.length_map])
        dsimp only
        rw [e3]
        exact q _ (s'.trans s2)
def spIsCourse (K : PySem.W.Frag) : Sp := fun vs H Q _ => ∃ (c : CA), vs = [.ref c.a] ∧ CrsAt K H c ∧ CrsOk c ∧ ∀ H', Same H H' → Q (.bl true) H'
abbrev nIc : List Str := ["value", "name", "stages", "ends", "steps"]
theorem scIc : FnScope nIc ["value"] (defScope sIsCourse) := ⟨rfl, rfl, rfl, by decide +kernel, rfl, by decide +kernel, by decide +kernel⟩
theorem ok_iscourse {f fT fN fE fS : Addr} {fd fdT fdN fdE fdS : FuncData} (F : Fun K "is_course" "is_course" sIsCourse f fd) (N : Nones mg) {tag : Nat} (g_MOST_STAGES : mg "MOST_STAGES" = some (.int 20 tag)) (G_is_number_to : FnOk P w K mg base CX0 3 fT fdT ["value", "most"] spIsNumTo) (C_is_number_to : CallC K mg "is_number_to" ["value", "most"] fT fdT) (G_is_name : FnOk P w K mg base CX0 2 fN fdN ["value"] (spName K)) (C_is_name : CallC K mg "is_name" ["value"] fN fdN)
    (G_are_ends : FnOk P w K mg base CX0 4 fE fdE ["ends", "stages"] (spAreEnds K)) (C_are_ends : CallC K mg "are_ends" ["ends", "stages"] fE fdE) (G_are_steps : FnOk P w K mg base CX0 5 fS fdS ["steps", "stages"] (spAreSteps K)) (C_are_steps : CallC K mg "are_steps" ["steps", "stages"] fS fdS) : FnOk P w K mg base CX0 6 f fd ["value"] (spIsCourse K) := by
  refine F.ok scIc (fun vs H Q E h => ?_) (fun cdv A outer s H vs Q E hr h => ?_)
  · obtain ⟨c, rfl, _⟩ := h
    rfl
  · obtain ⟨c, rfl, hc, ok, q⟩ := h
    refine ⟨_, pss_cons (ps_if (PW.pt (pw_or (pt_not (pt_val (pe_callB call_isi (by rfl) N.isinstance (by decide +kernel) (pa_cons (pv 0) (pa_cons (pe_bltn (v := .ty "tuple") (by rfl) N.tuple (by decide +kernel) rfl) pa_nil))))) (pw_or1 (pt_cmpR op_ne (pe_callB call_len_seq (by rfl) N.len PySem.boot_len (pa_cons (pv 0) pa_nil)) pe_int (nomark _))))) (pss_one (ps_ret pe_bl)) pss_nil)
      (pss_cons (ps_asg (pv 0) (pg_tup rfl (pgs_cons (pg_name (i := 1) scIc.nd rfl (Or.inl rfl)) (pgs_cons (pg_name (i := 2) scIc.nd rfl (Or.inl rfl)) (pgs_cons (pg_name (i := 3) scIc.nd rfl (Or.inl rfl)) (pgs_cons (pg_name (i := 4) scIc.nd rfl (Or.inl rfl)) pgs_nil))))))
      (pss_cons (ps_if (PW.pt (pw_or (pt_not (pt_val (pe_call G_is_name (hr.mono (by decide)) (by rfl) C_is_name.g C_is_name.kp C_is_name.b .nil pass0 (pa_cons (pv 1) pa_nil)))) (pw_or (pt_not (pt_val (pe_call G_is_number_to (hr.mono (by decide)) (by rfl) C_is_number_to.g C_is_number_to.kp C_is_number_to.b .nil pass0 (pa_cons (pv 2) (pa_cons (pe_glob (v := .int 20) rfl g_MOST_STAGES ⟨_, rfl⟩) pa_nil))))) (pw_or1 (pt_cmpR op_eq (pv 2) pe_int (nomark _)))))) (pss_one (ps_ret pe_bl)) pss_nil)
      (pss_one (ps_ret (pe_and (pe_call G_are_ends (hr.mono (by decide)) (by rfl) C_are_ends.g C_are_ends.kp C_are_ends.b .nil pass0 (pa_cons (pv 3) (pa_cons (pv 2) pa_nil))) (pe_one (pe_call G_are_steps (hr.mono (by decide)) (by rfl) C_are_steps.g C_are_steps.kp C_are_steps.b .nil pass0 (pa_cons (pv 4) (pa_cons (pv 2) pa_nil))))))))), ?_⟩
    have hA := hc.t
    refine ⟨_, rfl, .ref c.a, .ty "tuple", .type "tuple", .type "tuple", true, rfl, .ty "tuple", tyT hA, kit_ty (by decide +kernel), true, rfl, iteF ?_⟩
    refine ⟨_, rfl, c.a, _, rfl, .inr hA, rfl, _, rfl, iteNo (by simp [crsV]) ?_⟩
    refine ⟨_, rfl, c.a, _, rfl, hA, rfl, _, _, rfl, _, _, rfl, _, _, rfl, _, _, rfl, rfl, ?_⟩
    have y1 : (decide ((0 : Int) ≤ (c.n : Int)) && decide ((c.n : Int) ≤ 20)) = true := by
      have := ok.n1
      rw [decide_eq_true (by omega), decide_eq_true (by omega)]
      rfl
    refine ⟨_, rfl, _, rfl, .inr ⟨_, rfl, name_len ok.nm, fun H1 s1 => ?_⟩⟩
    rw [ok.nm]
    refine ⟨true, rfl, iteF ?_⟩
    refine ⟨_, rfl, _, _, rfl, ?_⟩
    rw [y1]
    refine ⟨true, rfl, iteF ?_⟩
    have n0 := ok.n0
    refine ⟨_, rfl, rfl, _, rfl, iteNo (decide_eq_false fun h => by injection h with h; omega) ?_⟩
    refine ⟨_, rfl, _, rfl, c.ea, c.n, c.es, rfl, Same.sqT s1 hc.e, ok.ez, ok.asc, ok.el, fun H2 s2 => ?_⟩
    refine ⟨_, rfl, iteYes rfl ?_⟩
    exact ⟨_, rfl, _, rfl, c.sa, c.n, c.ss, rfl, Same.sqT (s1.trans s2) hc.s, fun p hp => (s1.trans s2) _ _ (hc.p p hp), (Nat.le_trans ok.sz (by decide)), ok.nd, ok.sl, fun H3 s3 => q H3 ((s1.trans s2).trans s3)⟩
end
end Kb
namespace Kb
open PySem PySem.Spec PyProof.Rows L2
/-! ### the deeds of courses -/
def addD (l : List Str) (d : Str) : List Str := if d ∈ l then l else l ++ [d]
/-- each text once, where it stands first -/
def uniq (l : List Str) : List Str := l.foldl addD []
theorem uniq_snoc (l : List Str) (d : Str) : uniq (l ++ [d]) = addD (uniq l) d := by
  unfold uniq
  rw [List.foldl_append]
  rfl
theorem uniq_ind {C : List Str → List Str → Prop} (h0 : C [] []) (h1 : ∀ l d, C l (uniq l) → C (l ++ [d]) (addD (uniq l) d)) : ∀ l, C l (uniq l) := by
  intro l
  have : ∀ n, ∀ l : List Str, l.length = n → C l (uniq l) := by
    intro n
    induction n with
    | zero =>
      intro l h
      rw [List.eq_nil_of_length_eq_zero h]
      exact h0
    | succ n ih =>
      intro l h
      have hne : l ≠ [] := by
        intro z
        rw [z] at h
        cases h
      have e := List.dropLast_concat_getLast hne
      rw [← e, uniq_snoc]
      exact h1 _ _ (ih _ (by rw [List.length_dropLast, h]; rfl))
  exact this _ l rfl
theorem mem_uniq (l : List Str) (x : Str) : x ∈ uniq l ↔ x ∈ l := by
  refine uniq_ind (C := fun l u => x ∈ u ↔ x ∈ l) (Iff.rfl) (fun l d h => ?_) l
  unfold addD
  by_cases hd : d ∈ uniq l
  · rw [if_pos hd, h, List.mem_append, List.mem_singleton]
    refine ⟨.inl, fun z => z.elim id fun z => ?_⟩
    rw [z] at h ⊢
    exact h.mp hd
  · rw [if_neg hd, List.mem_append, List.mem_append, h]
theorem uniq_nd (l : List Str) : (uniq l).Nodup := by
  refine uniq_ind (C := fun l u => u.Nodup) List.nodup_nil (fun l d h => ?_) l
  unfold addD
  by_cases hd : d ∈ uniq l
  · rw [if_pos hd]
    exact h
  · rw [if_neg hd, List.nodup_append]
    exact ⟨h, by simp, fun a ha b hb e => hd (by rw [← List.mem_singleton.mp hb, ← e]; exact ha)⟩
theorem uniq_len (l : List Str) : (uniq l).length ≤ l.length := by
  refine uniq_ind (C := fun l u => u.length ≤ l.length) (Nat.le_refl _) (fun l d h => ?_) l
  unfold addD
  rw [List.length_append]
  split
  · exact Nat.le_trans h (Nat.le_add_right _ _)
  · rw [List.length_append]
    exact Nat.add_le_add_right h _
def deedKV (l : List Str) : List (L2.Key × V) := l.map fun d => (Sum.inr d, V.bl true)
theorem deedKV_keys (l : List Str) : (deedKV l).map (·.1) = l.map Sum.inr := by
  unfold deedKV
  rw [List.map_map]
  rfl
theorem deedKV_len (l : List Str) : (deedKV l).length = l.length := List.length_map _
theorem put_deed (l : List Str) (d : Str) : putK (deedKV l) (Sum.inr d : L2.Key) (V.bl true) = deedKV (addD l d) := by
  unfold addD
  by_cases h : d ∈ l
  · rw [if_pos h]
    unfold putK
    have hany : ((deedKV l).any fun q => decide (q.1 = (Sum.inr d : L2.Key))) = true := by
      rw [List.any_eq_true]
      exact ⟨(Sum.inr d, V.bl true), List.mem_map.mpr ⟨d, h, rfl⟩, decide_eq_true rfl⟩
    rw [if_pos hany]
    have : ∀ q ∈ deedKV l, (if q.1 = (Sum.inr d : L2.Key) then ((q.1, V.bl true) : L2.Key × V) else q) = q := by
      intro q hq
      obtain ⟨x, hx, rfl⟩ := List.mem_map.mp hq
      split <;> rfl
    exact (List.map_congr_left this).trans (List.map_id _)
  · rw [if_neg h, putK_new, deedKV, deedKV, List.map_append]
    · rfl
    · rw [deedKV_keys]
      intro z
      obtain ⟨y, hy, e⟩ := List.mem_map.mp z
      exact h (by rw [← Sum.inr.inj e]; exact hy)
/-- the deeds of some steps, in their order -/
def dn (ss : List (Addr × Stp)) : List Str := (ss.filter fun p => !p.2.call).map (·.2.nm)
def dns (cs : List CA) : List Str := cs.flatMap fun c => dn c.ss
theorem dn_snoc {ss : List (Addr × Stp)} {i : Nat} {p : Addr × Stp} (h : ss[i]? = some p) : dn (ss.take (i + 1)) = dn (ss.take i) ++ (if p.2.call = true then [] else [p.2.nm]) := by
  unfold dn
  rw [take_of_get h, List.filter_append, List.map_append]
  cases e : p.2.call
  · simp [e]
  · simp [e]
theorem dns_snoc {cs : List CA} {i : Nat} {c : CA} (h : cs[i]? = some c) : dns (cs.take (i + 1)) = dns (cs.take i) ++ dn c.ss := by
  unfold dns
  rw [take_of_get h, List.flatMap_append]
  simp
theorem dn_len (ss : List (Addr × Stp)) : (dn ss).length ≤ ss.length := by
  unfold dn
  rw [List.length_map]
  exact List.length_filter_le _ _
theorem dns_le {cs : List CA} {i j : Nat} {c : CA} (h : cs[i]? = some c) : (dns (cs.take i) ++ dn (c.ss.take j)).length ≤ (dns cs).length := by
  have e : cs = cs.take i ++ c :: cs.drop (i + 1) := by
    conv => lhs; rw [← List.take_append_drop i cs, drop_of_get h]
  have e2 : dns cs = dns (cs.take i) ++ (dn c.ss ++ dns (cs.drop (i + 1))) := by
    conv => lhs; rw [e]
    unfold dns
    rw [List.flatMap_append, List.flatMap_cons]
  rw [e2, List.length_append, List.length_append, List.length_append]
  have : (dn (c.ss.take j)).length ≤ (dn c.ss).length := by
    unfold dn
    rw [List.length_map, List.length_map]
    exact (List.Sublist.filter _ (List.take_sublist j c.ss)).length_le
  omega
def CsAt (K : PySem.W.Frag) (H : Hp) (a : Addr) (cs : List CA) : Prop := SqT K H a (cs.map fun c => V.ref c.a) ∧ ∀ c ∈ cs, CrsAt K H c
theorem CsAt.mono {K : PySem.W.Frag} {H H' : Hp} {a : Addr} {cs : List CA} (s : Same H H') (h : CsAt K H a cs) : CsAt K H' a cs := ⟨Same.sqT s h.1, fun c hc => (h.2 c hc).mono s⟩
section
variable {P : Program} {w : World} {K : PySem.W.Frag} {mg : Str → Option Value} {base : Heap}
def spDeedsIn (K : PySem.W.Frag) : Sp := fun vs H Q _ => ∃ (a : Addr) (cs : List CA), vs = [.ref a] ∧ CsAt K H a cs ∧ (dns cs).length ≤ 100000 ∧ ∀ H' D, Same H H' → H D = none → H' D = some (.dK (deedKV (uniq (dns cs)))) → Q (.ref D) H'
abbrev nDi : List Str := ["courses", "course", "step"]
theorem scDi : FnScope nDi ["courses"] (defScope sDeedsIn) := ⟨rfl, rfl, rfl, by decide +kernel, rfl, by decide +kernel, by decide +kernel⟩
theorem ok_deedsin {f : Addr} {fd : FuncData} (F : Fun K "deeds_in" "deeds_in" sDeedsIn f fd) : FnOk P w K mg base CX0 1 f fd ["courses"] (spDeedsIn K) := by
  refine F.ok scDi (fun vs H Q E h => ?_) (fun cdv A outer s H vs Q E hr h => ?_)
  · obtain ⟨a, cs, rfl, _⟩ := h
    rfl
  · obtain ⟨a, cs, rfl, hC, hz, q⟩ := h
    refine ⟨_, pss_one (ps_ret (Ka.pe_dc2 (own := [("course", 1), ("step", 2)]) (vs1 := [2]) (g := gName 1) (g1 := gName 2) (tt := tYes) Ka.storeK rfl scDi.nd (pi_tup (pv 0)) (blkOk_by (own := [("course", 1), ("step", 2)]) (N := nDi) (sc := defScope sDeedsIn) (by decide +kernel)) (by decide) (fun _ _ _ _ _ => (pg_name (i := 1) scDi.nd rfl (Or.inl rfl))) (fun _ _ _ _ _ => pts_nil) (fun _ _ _ _ _ => (piT_at (K := K) rfl (pe_ix (ixT_at (K := K) rfl) (pv 1) pe_int (fun _ _ => rfl)))) (fun _ _ _ _ _ => (pg_name (i := 2) scDi.nd rfl (Or.inl rfl))) (fun _ _ _ _ _ => pts_one (pt_cmpR op_eq (pe_ix (ixT_at (K := K) rfl) (pv 2) pe_int (fun _ _ => rfl)) pe_str (nomark _))) (fun _ _ _ _ _ => (pe_ix (ixT_at (K := K) rfl) (pv 2) pe_int (fun _ _ => rfl))) (fun _ _ _ _ _ => pe_bl))), ?_⟩
    refine ⟨.ref a, rfl, a, rfl, ⟨_, hC.1⟩, fun D nD => ?_⟩
    refine out_it (walk_tup (K := K) (a := a) (xs := cs.map fun c => V.ref c.a)) (fun i G => Same H G ∧ G D = some (.dK (deedKV (uniq (dns (cs.take i)))))) ⟨same_new nD, upd_same⟩ (fun _ _ _ h => Same.sqT h.1 hC.1) (fun i x G G' hi h y => ?_) (fun G h => ?_)
    · obtain ⟨rfl, hx⟩ := y
      obtain ⟨c, hc, rfl⟩ := get_map hx
      have mc := hC.2 c (List.mem_of_getElem? hc)
      obtain ⟨sG, eG⟩ := h
      have mcG := mc.mono sG
      refine ⟨rfl, ⟨_, rfl, c.a, _, _, .ref c.sa, rfl, rfl, mcG.t, rfl, c.sa, rfl, ⟨_, mcG.s⟩, ?_⟩⟩
      refine in_it (walk_tup (K := K) (a := c.sa) (xs := c.ss.map fun p => V.ref p.1)) (fun j G2 => Same H G2 ∧ G2 D = some (.dK (deedKV (uniq (dns (cs.take i) ++ dn (c.ss.take j)))))) ⟨sG, by rw [eG]; simp [dn]⟩ (fun _ _ _ h => Same.sqT h.1 mc.s) (fun j x G2 G3 hj h2 y => ?_) (fun G2 h2 => ?_)
      · obtain ⟨rfl, hx⟩ := y
        obtain ⟨p, hp, rfl⟩ := get_map hx
        obtain ⟨s2, e2⟩ := h2
        have hpt := s2 _ _ (mc.p p (List.mem_of_getElem? hp))
        have hle := Nat.le_trans (uniq_len _) (dns_le (j := j) hc)
        refine ⟨rfl, _, rfl, p.1, _, _, .str (kindS p.2.call), rfl, rfl, sqT_new hpt, rfl, rfl, _, rfl, ?_⟩
        cases ec : p.2.call with
        | true =>
          refine iteNo (by show decide (V.str (kindS true) = V.str "do") = false; decide +kernel) ?_
          refine ⟨s2, ?_⟩
          rw [e2, dn_snoc hp, ec, if_pos rfl, List.append_nil]
        | false =>
          refine iteYes (by show decide (V.str (kindS false) = V.str "do") = true; decide +kernel) ?_
          refine ⟨_, rfl, p.1, _, _, .str p.2.nm, rfl, rfl, sqT_new hpt, rfl, _, Sum.inr p.2.nm, rfl, e2, ?_, fun b o e => ?_, ?_⟩
          · rw [deedKV_len]
            exact small (by omega)
          · rw [upd_ne (ne_of_none e nD)]
            exact s2 _ _ e
          · rw [upd_same, put_deed, ← uniq_snoc, dn_snoc hp, ec, if_neg Bool.false_ne_true, List.append_assoc]
      · refine ⟨h2.1, ?_⟩
        rw [h2.2, dns_snoc hc, List.length_map, List.take_of_length_le (Nat.le_refl _)]
    · obtain ⟨sG, eG⟩ := h
      rw [List.length_map, List.take_of_length_le (Nat.le_refl _)] at eG
      exact q G D sG nD eG
end
end Kb
namespace Kb
open PySem PySem.Spec PyProof.Rows L2
/-! ### check_each, check_together: of good courses -/
theorem deed_no {l : List Str} {d : Str} (h : d ∉ l) : valV (deedKV l) (Sum.inr d : L2.Key) = none := valV_none (by
  rw [deedKV_keys]
  intro z
  obtain ⟨y, hy, e⟩ := List.mem_map.mp z
  exact h (by rw [← Sum.inr.inj e]; exact hy))
theorem deed_yes {l : List Str} {d : Str} (h : d ∈ l) : (valV (deedKV l) (Sum.inr d : L2.Key)).isSome = true := by
  rw [← valV_any, List.any_eq_true]
  exact ⟨(Sum.inr d, V.bl true), List.mem_map.mpr ⟨d, h, rfl⟩, decide_eq_true rfl⟩
theorem nodup_le : ∀ {l m : List Str}, l.Nodup → (∀ x ∈ l, x ∈ m) → l.length ≤ m.length
  | [], _, _, _ => Nat.zero_le _
  | x :: l, m, nd, h => by
    rw [List.nodup_cons] at nd
    have hx := h x List.mem_cons_self
    have := nodup_le (l := l) (m := m.erase x) nd.2 fun y hy => (List.mem_erase_of_ne fun e => nd.1 (by rw [← e]; exact hy)).mpr (h y (List.mem_cons_of_mem _ hy))
    rw [List.length_erase_of_mem hx] at this
    have := List.length_pos_of_mem hx
    rw [List.length_cons]
    omega
theorem merge_deeds : ∀ (m l : List Str), l.Nodup → ∃ r, mergeK (deedKV l) (deedKV m) = deedKV r ∧ r.Nodup ∧ ∀ x ∈ r, x ∈ l ∨ x ∈ m
  | [], l, nd => ⟨l, rfl, nd, fun x hx => .inl hx⟩
  | d :: m, l, nd => by
    have e : mergeK (deedKV l) (deedKV (d :: m)) = mergeK (deedKV (addD l d)) (deedKV m) := by
      show mergeK (putK (deedKV l) (Sum.inr d) (V.bl true)) (deedKV m) = _
      rw [put_deed]
    have nd2 : (addD l d).Nodup := by
      unfold addD
      by_cases hd : d ∈ l
      · rw [if_pos hd]
        exact nd
      · rw [if_neg hd, List.nodup_append]
        exact ⟨nd, by simp, fun a ha b hb e => hd (by rw [← List.mem_singleton.mp hb, ← e]; exact ha)⟩
    obtain ⟨r, h1, h2, h3⟩ := merge_deeds m (addD l d) nd2
    refine ⟨r, e.trans h1, h2, fun x hx => ?_⟩
    rcases h3 x hx with z | z
    · unfold addD at z
      split at z
      · exact .inl z
      · rcases List.mem_append.mp z with z | z
        · exact .inl z
        · exact .inr (by rw [List.mem_singleton.mp z]; exact List.mem_cons_self)
    · exact .inr (List.mem_cons_of_mem _ z)
theorem dns_one (c : CA) : dns [c] = dn c.ss := by
  unfold dns
  simp
theorem dns_mem {cs : List CA} {c : CA} (h : c ∈ cs) {x : Str} (hx : x ∈ dn c.ss) : x ∈ dns cs := List.mem_flatMap.mpr ⟨c, h, hx⟩
def calls (ss : List (Addr × Stp)) : List Str := (ss.filter fun p => p.2.call).map (·.2.nm)
def nStages (cs : List CA) : Nat := (cs.map (·.n)).foldr (· + ·) 0
theorem calls_snoc {ss : List (Addr × Stp)} {i : Nat} {p : Addr × Stp} (h : ss[i]? = some p) : calls (ss.take (i + 1)) = calls (ss.take i) ++ (if p.2.call = true then [p.2.nm] else []) := by
  unfold calls
  rw [take_of_get h, List.filter_append, List.map_append]
  cases e : p.2.call
  · simp [e]
  · simp [e]
theorem calls_len (ss : List (Addr × Stp)) : (calls ss).length ≤ ss.length := by
  unfold calls
  rw [List.length_map]
  exact List.length_filter_le _ _
theorem nStages_snoc {cs : List CA} {i : Nat} {c : CA} (h : cs[i]? = some c) : nStages (cs.take (i + 1)) = nStages (cs.take i) + c.n := by
  unfold nStages
  rw [take_of_get h, List.map_append, List.map_singleton, List.foldr_append]
  have : ∀ (l : List Nat) (x : Nat), l.foldr (· + ·) x = l.foldr (· + ·) 0 + x := by
    intro l x
    induction l with
    | nil => simp
    | cons y l ih => rw [List.foldr_cons, List.foldr_cons, ih]; omega
  rw [this]
  simp
theorem nStages_le (cs : List CA) (i : Nat) : nStages (cs.take i) ≤ nStages cs := by
  induction cs generalizing i with
  | nil => simp
  | cons c cs ih =>
    cases i with
    | zero => exact Nat.zero_le _
    | succ i =>
      have := ih i
      unfold nStages at this ⊢
      rw [List.take_succ_cons, List.map_cons, List.map_cons, List.foldr_cons, List.foldr_cons]
      omega
/-- courses of which a book is made -/
structure CsOk (cs : List CA) : Prop where
  n8 : cs.length ≤ 8
  n1 : cs ≠ []
  ok : ∀ c ∈ cs, CrsOk c
  nd : (cs.map (·.nm)).Nodup
  cl : ∀ c ∈ cs, ∀ x ∈ calls c.ss, x ∈ cs.map (·.nm)
  st : nStages cs ≤ 60
  dz : (dns cs).length ≤ 100000
  d12 : (uniq (dns cs)).length ≤ 12
section
variable {P : Program} {w : World} {K : PySem.W.Frag} {mg : Str → Option Value} {base : Heap}
def spChEach (K : PySem.W.Frag) : Sp := fun vs H Q _ => ∃ (a : Addr) (cs : List CA), vs = [.ref a] ∧ CsAt K H a cs ∧ CsOk cs ∧ ∀ H', Same H H' → Q .non H'
abbrev nCe : List Str := ["courses", "earlier", "at", "course"]
theorem scCe : FnScope nCe ["courses"] (defScope sChEach) := ⟨rfl, rfl, rfl, by decide +kernel, rfl, by decide +kernel, by decide +kernel⟩
theorem ok_cheach {f fI : Addr} {fd fdI : FuncData} (F : Fun K "check_each" "check_each" sChEach f fd) (N : Nones mg) {tag : Nat} (g_MOST_COURSES : mg "MOST_COURSES" = some (.int 8 tag)) (G_is_course : FnOk P w K mg base CX0 6 fI fdI ["value"] (spIsCourse K)) (C_is_course : CallC K mg "is_course" ["value"] fI fdI) : FnOk P w K mg base CX0 7 f fd ["courses"] (spChEach K) := by
  refine F.ok scCe (fun vs H Q E h => ?_) (fun cdv A outer s H vs Q E hr h => ?_)
  · obtain ⟨a, cs, rfl, _⟩ := h
    rfl
  · obtain ⟨a, cs, rfl, hC, ok, q⟩ := h
    refine ⟨_, pss_cons (ps_set (i := 1) scCe.nd rfl (Or.inl rfl) pe_dnewK)
      (pss_cons (ps_for PassesOwn.never rfl (Ka.pi_enumT (by rfl) N.enumerate (pa_cons (pv 0) pa_nil)) (pg_tup rfl (pgs_cons (pg_name (i := 2) scCe.nd rfl (Or.inl rfl)) (pgs_cons (pg_name (i := 3) scCe.nd rfl (Or.inl rfl)) pgs_nil)))
        (pss_cons (ps_if (PW.pt (pw_or (pt_cmpR op_ge (pv 2) (pe_glob (v := .int 8) rfl g_MOST_COURSES ⟨_, rfl⟩) (nomark _)) (pw_or (pt_not (pt_val (pe_call G_is_course (hr.mono (by decide)) (by rfl) C_is_course.g C_is_course.kp C_is_course.b .nil pass0 (pa_cons (pv 3) pa_nil)))) (pw_or1 (pt_cmp (pc_din (hu_of hr) (pe_ix ix_tup (pv 3) pe_int (fun _ _ => rfl)) (pv 1))))))) (pss_one ps_never) pss_nil)
        (pss_one (ps_dput (hu_of hr) (pv 1) (pe_ix ix_tup (pv 3) pe_int (fun _ _ => rfl)) pe_bl rfl))))
      (pss_one (ps_if (pt_not (pt_truth (pv 0) (by intro _; rfl))) (pss_one ps_never) pss_nil))), ?_⟩
    intro d nd
    refine ⟨.ref a, rfl, a, _, rfl, Same.sqT (same_new nd) hC.1, ?_⟩
    refine for_it (walk_enumT (K := K) (a := a) (xs := cs.map fun c => V.ref c.a)) (fun i σ G => ∃ x2 x3 : Option V, σ = [some (.ref a), some (.ref d), x2, x3] ∧ Same H G ∧ G d = some (.dK (deedKV ((cs.take i).map (·.nm))))) ⟨none, none, rfl, same_new nd, upd_same⟩ (fun i σ G _ h => ?_) (fun i x σ G G' hi h y => ?_) (fun σ G h => ?_)
    · obtain ⟨_, _, _, sG, _⟩ := h
      exact Same.sqT sG hC.1
    · obtain ⟨T, z, v, rfl, nT, rfl, hz, hv⟩ := y
      obtain ⟨x2, x3, rfl, sG, eG⟩ := h
      cases hz
      obtain ⟨c, hc, rfl⟩ := get_map hv
      have mc := List.mem_of_getElem? hc
      have hi := lt_of_get hc
      have s1 := sG.trans (same_new (o := .tup [V.int (i : Nat), V.ref c.a]) nT)
      have e1 := (same_new (o := .tup [V.int (i : Nat), V.ref c.a]) nT) _ _ eG
      have n8 := ok.n8
      refine ⟨T, _, rfl, sqT_new upd_same, rfl, _, _, rfl, _, _, rfl, rfl, ?_⟩
      refine ⟨_, rfl, _, _, rfl, rfl, _, rfl, iteNo (decide_eq_false (by rw [List.length_map] at *; omega)) ?_⟩
      refine ⟨_, rfl, c, rfl, (hC.2 c mc).mono s1, ok.ok c mc, fun G2 s2 => ?_⟩
      refine ⟨true, rfl, iteF ?_⟩
      have hCc := (hC.2 c mc).mono (s1.trans s2)
      refine ⟨_, rfl, c.a, _, _, .str c.nm, rfl, rfl, hCc.t, rfl, _, rfl, d, _, rfl, DGet.k (k := Sum.inr c.nm) (s2 _ _ e1), ?_⟩
      have nin : c.nm ∉ (cs.take i).map (·.nm) := by
        intro z
        have nd := ok.nd
        rw [← List.take_append_drop i cs, List.map_append, drop_of_get hc, List.map_cons, List.nodup_append] at nd
        exact nd.2.2 _ z _ List.mem_cons_self rfl
      refine ⟨_, rfl, ?_⟩
      refine iteNo (by show (valV (deedKV ((cs.take i).map (·.nm))) (Sum.inr c.nm : L2.Key)).isSome = false; rw [deed_no nin]; rfl) ?_
      refine ⟨_, rfl, _, rfl, c.a, _, _, .str c.nm, rfl, rfl, hCc.t, rfl, d, _, rfl, DPut.k (k := Sum.inr c.nm) (s2 _ _ e1) ?_, _, _, rfl, fun b o e => ?_, ?_⟩
      · rw [deedKV_len, List.length_map, List.length_take]
        exact small (by omega)
      · rw [upd_ne (ne_of_none e nd)]
        exact (s1.trans s2) _ _ e
      · rw [upd_same, put_deed, take_of_get hc, List.map_append, List.map_singleton]
        unfold addD
        rw [if_neg nin]
    · obtain ⟨x2, x3, rfl, sG, eG⟩ := h
      refine ⟨_, rfl, true, ?_, ?_⟩
      · refine .inr (.inl ⟨_, Same.sqT sG hC.1, ?_⟩)
        have := ok.n1
        cases cs with
        | nil => exact absurd rfl this
        | cons c cs => rfl
      · exact iteF (q G sG)
def spChTog (K : PySem.W.Frag) : Sp := fun vs H Q _ => ∃ (a : Addr) (cs : List CA), vs = [.ref a] ∧ CsAt K H a cs ∧ CsOk cs ∧ ∀ H', Same H H' → Q .non H'
abbrev nCt : List Str := ["courses", "names", "stages", "deeds", "at", "course", "called", "step", "name"]
theorem scCt : FnScope nCt ["courses"] (defScope sChTog) := ⟨rfl, rfl, rfl, by decide +kernel, rfl, by decide +kernel, by decide +kernel⟩
theorem ok_chtog {f fI : Addr} {fd fdI : FuncData} (F : Fun K "check_together" "check_together" sChTog f fd) (N : Nones mg) {t1 t2 : Nat} (g_MOST_STAGES_TOGETHER : mg "MOST_STAGES_TOGETHER" = some (.int 60 t1)) (g_MOST_DEEDS : mg "MOST_DEEDS" = some (.int 12 t2)) (G_deeds_in : FnOk P w K mg base CX0 1 fI fdI ["courses"] (spDeedsIn K)) (C_deeds_in : CallC K mg "deeds_in" ["courses"] fI fdI) : FnOk P w K mg base CX0 2 f fd ["courses"] (spChTog K) := by
  refine F.ok scCt (fun vs H Q E h => ?_) (fun cdv A outer s H vs Q E hr h => ?_)
  · obtain ⟨a, cs, rfl, _⟩ := h
    rfl
  · obtain ⟨a, cs, rfl, hC, ok, q⟩ := h
    refine ⟨_, pss_cons (ps_set (i := 1) scCt.nd rfl (Or.inr rfl) (pe_dc (own := [("course", 5)]) (g := gName 5) (tt := tYes) rfl scCt.nd (pi_tup (pv 0)) (blkOk_by (own := [("course", 5)]) (N := nCt) (sc := defScope sChTog) (by decide +kernel)) (fun _ _ _ _ _ => (pg_name (i := 5) scCt.nd rfl (Or.inl rfl))) (fun _ _ _ _ _ => pts_nil) (fun _ _ _ _ _ => (pe_ix (ixT_at (K := K) rfl) (pv 5) pe_int (fun _ _ => rfl))) (fun _ _ _ _ _ => pe_bl)))
      (pss_cons (ps_set (i := 2) scCt.nd rfl (Or.inl rfl) pe_int)
      (pss_cons (ps_set (i := 3) scCt.nd rfl (Or.inl rfl) pe_dnewK)
      (pss_one (ps_for PassesOwn.never rfl (Ka.pi_enumT (by rfl) N.enumerate (pa_cons (pv 0) pa_nil)) (pg_tup rfl (pgs_cons (pg_name (i := 4) scCt.nd rfl (Or.inl rfl)) (pgs_cons (pg_name (i := 5) scCt.nd rfl (Or.inl rfl)) pgs_nil)))
        (pss_cons (ps_aug (i := 2) scCt.nd rfl (Or.inl rfl) (pe_ix ix_tup (pv 5) pe_int (fun _ _ => rfl)) ip_add)
        (pss_cons (ps_expr (pe_bm PySem.F.plainAttrs_dict PySem.F.slot_dict_update PySem.F.type_dict_update Ka.mt_update (pv 3) (pa_cons (pe_call G_deeds_in (hr.mono (by decide)) (by rfl) C_deeds_in.g C_deeds_in.kp C_deeds_in.b .nil pass0 (pa_cons (pe_tup (pa_cons (pv 5) pa_nil)) pa_nil)) pa_nil)))
        (pss_cons (ps_setLc (i := 6) (own := [("step", 7)]) (g := gName 7) rfl scCt.nd rfl rfl (sw_true rfl rfl rfl rfl) (pi_tup (pe_ix ix_tup (pv 5) pe_int (fun _ _ => rfl))) (blkOk_by (own := [("step", 7)]) (N := nCt) (sc := defScope sChTog) (by decide +kernel)) (fun _ _ _ _ _ => (pg_name (i := 7) scCt.nd rfl (Or.inl rfl))) (fun _ _ _ _ _ => pts_one (pt_cmpR op_eq (pe_ix (ixT_at (K := K) rfl) (pv 7) pe_int (fun _ _ => rfl)) pe_str (nomark _))) (fun _ _ _ _ _ => (pe_ix (ixT_at (K := K) rfl) (pv 7) pe_int (fun _ _ => rfl))))
        (pss_cons (ps_if (pt_not (pt_val (pe_callB (cr_all rfl) (by rfl) N.all (by decide +kernel) (pa_cons (pe_lc (own := [("name", 8)]) (g := gName 8) (tt := tYes) rfl scCt.nd (pi_list (pv 6)) (blkOk_by (own := [("name", 8)]) (N := nCt) (sc := defScope sChTog) (by decide +kernel)) (fun _ _ _ _ _ => (pg_name (i := 8) scCt.nd rfl (Or.inl rfl))) (fun _ _ _ _ _ => pts_nil) (fun _ _ _ _ _ => (pe_cmp (pc_din (hu_of hr) (pv 8) (pv 1)) rfl))) pa_nil)))) (pss_one ps_never) pss_nil)
        (pss_one (ps_if (PW.pt (pw_or (pt_cmpR op_gt (pv 2) (pe_glob (v := .int 60) rfl g_MOST_STAGES_TOGETHER ⟨_, rfl⟩) (nomark _)) (pw_or1 (pt_cmpR op_gt (pe_callB call_lenD (by rfl) N.len PySem.boot_len (pa_cons (pv 3) pa_nil)) (pe_glob (v := .int 12) rfl g_MOST_DEEDS ⟨_, rfl⟩) (nomark _))))) (pss_one ps_never) pss_nil)))))))))), ?_⟩
    refine ⟨.ref a, rfl, a, rfl, ⟨_, hC.1⟩, fun ns nns => ?_⟩
    refine dcK_it (walk_tup (K := K) (a := a) (xs := cs.map fun c => V.ref c.a)) (fun i G => Same H G ∧ G ns = some (.dK (deedKV ((cs.take i).map (·.nm))))) ⟨same_new nns, upd_same⟩ (fun _ _ _ h => Same.sqT h.1 hC.1) (fun i x G G' hi h y => ?_) (fun G h => ?_)
    · obtain ⟨rfl, hx⟩ := y
      obtain ⟨c, hc, rfl⟩ := get_map hx
      obtain ⟨sG, eG⟩ := h
      have hi := lt_of_get hc
      have n8 := ok.n8
      have mc := (hC.2 c (List.mem_of_getElem? hc)).mono sG
      have nin : c.nm ∉ (cs.take i).map (·.nm) := by
        intro z
        have nd := ok.nd
        rw [← List.take_append_drop i cs, List.map_append, drop_of_get hc, List.map_cons, List.nodup_append] at nd
        exact nd.2.2 _ z _ List.mem_cons_self rfl
      refine ⟨rfl, _, rfl, c.a, _, _, .str c.nm, rfl, rfl, mc.t, rfl, _, Sum.inr c.nm, rfl, eG, ?_, fun b o e => ?_, ?_⟩
      · rw [deedKV_len, List.length_map, List.length_take]
        exact small (by omega)
      · rw [upd_ne (ne_of_none e nns)]
        exact sG _ _ e
      · rw [upd_same, put_deed, take_of_get hc, List.map_append, List.map_singleton]
        unfold addD
        rw [if_neg nin]
    · obtain ⟨sG, eG⟩ := h
      rw [List.length_map, List.take_of_length_le (Nat.le_refl _)] at eG
      intro d nd
      have sG2 := sG.trans (same_new (o := .dK []) nd)
      have e2 := (same_new (o := .dK []) nd) _ _ eG
      have hdn : d ≠ ns := fun w => by
        rw [w, eG] at nd
        cases nd
      have ed : upd G d (.dK []) d = some (.dK []) := upd_same
      have ndH := sG.free nd
      generalize upd G d (.dK []) = G1 at sG2 e2 ed
      refine ⟨.ref a, rfl, a, _, rfl, Same.sqT sG2 hC.1, ?_⟩
      refine for_it (walk_enumT (K := K) (a := a) (xs := cs.map fun c => V.ref c.a)) (fun i σ G => ∃ (x4 x5 x6 x7 x8 : Option V) (ds : List Str), σ = [some (.ref a), some (.ref ns), some (.int (nStages (cs.take i) : Nat)), some (.ref d), x4, x5, x6, x7, x8] ∧ Same H G ∧ G ns = some (.dK (deedKV (cs.map (·.nm)))) ∧ G d = some (.dK (deedKV ds)) ∧ ds.Nodup ∧ ∀ x ∈ ds, x ∈ uniq (dns cs)) ⟨none, none, none, none, none, [], rfl, sG2, e2, ed, List.nodup_nil, fun x hx => nomatch hx⟩ (fun i σ G _ h => ?_) (fun i x σ G G' hi h y => ?_) (fun σ G h => ?_)
      · obtain ⟨_, _, _, _, _, _, _, sG, _⟩ := h
        exact Same.sqT sG hC.1
      · obtain ⟨T, z, v, rfl, nT, rfl, hz, hv⟩ := y
        obtain ⟨x4, x5, x6, x7, x8, ds, rfl, sG, eN, eD, ndd, sub⟩ := h
        cases hz
        obtain ⟨c, hc, rfl⟩ := get_map hv
        have mc := List.mem_of_getElem? hc
        have okc := ok.ok c mc
        have sT := same_new (o := .tup [V.int (i : Nat), V.ref c.a]) nT
        have hT : upd G T (.tup [V.int (i : Nat), V.ref c.a]) T = some (.tup [V.int (i : Nat), V.ref c.a]) := upd_same
        have eN := sT _ _ eN
        have eD := sT _ _ eD
        have sG := sG.trans sT
        generalize upd G T (.tup [V.int (i : Nat), V.ref c.a]) = G1 at sG hT eN eD
        refine ⟨T, _, rfl, sqT_new hT, rfl, _, _, rfl, _, _, rfl, rfl, ?_⟩
        have hCc := (hC.2 c mc).mono sG
        refine ⟨_, rfl, _, rfl, c.a, _, _, .int (c.n : Nat), rfl, rfl, hCc.t, rfl, _, _, rfl, rfl, ?_⟩
        refine ⟨_, rfl, .inr (.inr (.inl ⟨rfl, .inl ⟨_, eD⟩⟩)), _, rfl, smallE (by show 1 ≤ 1000000; decide), fun U nU => ?_⟩
        have sU := same_new (o := .tup [V.ref c.a]) nU
        have hU : upd G1 U (.tup [V.ref c.a]) U = some (.tup ([c].map fun c => V.ref c.a)) := upd_same
        have eN := sU _ _ eN
        have eD := sU _ _ eD
        have sG := sG.trans sU
        generalize upd G1 U (.tup [V.ref c.a]) = G2 at sG hU eN eD
        refine ⟨U, [c], rfl, ⟨sqT_new hU, fun c2 h2 => ?_⟩, ?_, fun G3 W s3 nW eW => ?_⟩
        · rw [List.mem_singleton.mp h2]
          exact (hC.2 c mc).mono sG
        · rw [dns_one]
          have := dn_len c.ss
          have := okc.sz
          omega
        have dW : d ≠ W := ne_of_none eD nW
        have eN := s3 _ _ eN
        have eD := s3 _ _ eD
        have sG := sG.trans s3
        rw [dns_one] at eW
        obtain ⟨r, em, ndr, hr2⟩ := merge_deeds (uniq (dn c.ss)) ds ndd
        have subR : ∀ x ∈ r, x ∈ uniq (dns cs) := fun x hx => (hr2 x hx).elim (sub x) fun z => (mem_uniq _ _).mpr (dns_mem mc ((mem_uniq _ _).mp z))
        have l12 := ok.d12
        have lr := nodup_le ndr subR
        have lds := nodup_le ndd sub
        have lun := uniq_len (dn c.ss)
        have ldn := dn_len c.ss
        have osz := okc.sz
        refine ⟨d, W, _, _, rfl, rfl, eD, eW, dW, by rw [deedKV_len, deedKV_len]; omega, ?_⟩
        rw [em]
        have kG : ∀ b o, H b = some o → upd G3 d (.dK (deedKV r)) b = some o := fun b o e => by
          rw [upd_ne (ne_of_none e ndH)]
          exact sG _ _ e
        have eN : upd G3 d (.dK (deedKV r)) ns = some (.dK (deedKV (cs.map (·.nm)))) := by
          rw [upd_ne hdn.symm]
          exact eN
        have eD : upd G3 d (.dK (deedKV r)) d = some (.dK (deedKV r)) := upd_same
        generalize upd G3 d (.dK (deedKV r)) = G4 at kG eN eD
        have kG : Same H G4 := kG
        have hCc := (hC.2 c mc).mono kG
        refine ⟨_, rfl, c.a, _, _, .ref c.sa, rfl, rfl, hCc.t, rfl, c.sa, rfl, ⟨_, hCc.s⟩, fun L nL => ?_⟩
        refine lc_it (walk_tup (K := K) (a := c.sa) (xs := c.ss.map fun p => V.ref p.1)) (fun j Z => Same G4 Z ∧ Z L = some (.lst ((calls (c.ss.take j)).map V.str))) ⟨same_new nL, upd_same⟩ (fun _ _ _ h => Same.sqT h.1 hCc.s) (fun j x Z Z' hj h y => ?_) (fun Z h => ?_)
        · obtain ⟨rfl, hx⟩ := y
          obtain ⟨p, hp, rfl⟩ := get_map hx
          obtain ⟨sZ, eZ⟩ := h
          have hpt := sZ _ _ (hCc.p p (List.mem_of_getElem? hp))
          refine ⟨rfl, _, rfl, p.1, _, _, .str (kindS p.2.call), rfl, rfl, sqT_new hpt, rfl, rfl, _, rfl, ?_⟩
          cases ec : p.2.call with
          | false =>
            refine iteNo (by show decide (V.str (kindS false) = V.str "call") = false; decide +kernel) ?_
            refine ⟨sZ, ?_⟩
            rw [eZ, calls_snoc hp, ec, if_neg Bool.false_ne_true, List.append_nil]
          | true =>
            refine iteYes (by show decide (V.str (kindS true) = V.str "call") = true; decide +kernel) ?_
            refine ⟨_, rfl, p.1, _, _, .str p.2.nm, rfl, rfl, sqT_new hpt, rfl, _, eZ, ?_, fun b o e => ?_, ?_⟩
            · rw [List.length_map]
              have := calls_len (c.ss.take j)
              rw [List.length_take] at this
              exact small (by omega)
            · rw [upd_ne (ne_of_none e nL)]
              exact sZ _ _ e
            · rw [upd_same, calls_snoc hp, ec, if_pos rfl, List.map_append]
              rfl
        · obtain ⟨sZ, eZ⟩ := h
          rw [List.length_map, List.take_of_length_le (Nat.le_refl _)] at eZ
          have eN := sZ _ _ eN
          have eD := sZ _ _ eD
          have kZ := kG.trans sZ
          have lca := calls_len c.ss
          refine ⟨.ref L, rfl, L, rfl, ⟨_, sqL_new eZ⟩, fun M nM => ?_⟩
          refine lc_pure (walk_list (K := K) (a := L) (xs := (calls c.ss).map V.str)) ((List.replicate (calls c.ss).length true).map V.bl) (by rw [List.length_map, List.length_map, List.length_replicate]) nM (fun _ s => s.seq (sqL_new eZ)) (fun j x H0 H' hj h0 y => ?_) (fun H' s' e => ?_)
          · obtain ⟨rfl, hx⟩ := y
            obtain ⟨z, hz, rfl⟩ := get_map hx
            have hzn := ok.cl c mc z (List.mem_of_getElem? hz)
            refine ⟨rfl, _, rfl, _, rfl, ns, _, rfl, DGet.k (k := Sum.inr z) (h0.1 _ _ eN), ?_⟩
            dsimp only
            rw [deed_yes hzn]
            refine h0.put nM (fun _ _ h => h) ?_ (by rw [List.length_map, List.length_replicate]; omega)
            rw [List.getElem?_map, List.getElem?_replicate, if_pos (lt_of_get hz)]
            rfl
          · refine ⟨M, _, rfl, sqL_new e, ?_⟩
            rw [all_trueL]
            refine ⟨true, rfl, iteF ?_⟩
            have st := ok.st
            have stl := nStages_le cs (i + 1)
            have sts := nStages_snoc hc
            refine ⟨_, rfl, _, _, rfl, rfl, _, rfl, iteNo (decide_eq_false (by show ¬ (60 : Int) < ((nStages (cs.take i) : Nat) : Int) + (c.n : Int); omega)) ?_⟩
            refine ⟨_, rfl, d, _, rfl, s' _ _ eD, _, _, rfl, rfl, _, rfl, iteNo (decide_eq_false (by rw [deedKV_len]; omega)) ?_⟩
            have es : ((nStages (cs.take i) : Nat) : Int) + (c.n : Int) = ((nStages (cs.take (i + 1)) : Nat) : Int) := by omega
            refine ⟨some (.int (i : Nat)), some (.ref c.a), some (.ref L), x7, x8, r, ?_, kZ.trans s', s' _ _ eN, s' _ _ eD, ndr, subR⟩
            rw [← es]
            rfl
      · obtain ⟨_, _, _, _, _, _, rfl, sG, _⟩ := h
        exact q G sG
end
end Kb
namespace Kb
open PySem PySem.Spec PyProof.Rows L2
/-! ### the source of draws -/
/-- three whole numbers -/
def Box (H : Hp) (x : Addr) : Prop := ∃ b0 b1 b2 : Int, H x = some (.lst [.int b0, .int b1, .int b2])
/-- all but x stands -/
def But (x : Addr) (H H' : Hp) : Prop := ∀ c u, c ≠ x → H c = some u → H' c = some u
theorem But.refl {x : Addr} {H : Hp} : But x H H := fun _ _ _ e => e
theorem But.trans {x : Addr} {H H' H'' : Hp} (a : But x H H') (b : But x H' H'') : But x H H'' := fun c u h e => b c u h (a c u h e)
theorem But.of {x : Addr} {H H' : Hp} (s : Same H H') : But x H H' := fun c u _ e => s c u e
theorem But.upd {x : Addr} {H : Hp} {o : HO} : But x H (upd H x o) := fun c u h e => by
  rw [upd_ne h]
  exact e
theorem Box.mono {x : Addr} {H H' : Hp} (b : Box H x) (s : Same H H') : Box H' x := let ⟨b0, b1, b2, e⟩ := b; ⟨b0, b1, b2, s _ _ e⟩
theorem mod_nat (i : Int) {n : Nat} (h : 0 < n) : ∃ r : Nat, r < n ∧ i % (n : Int) = (r : Int) := by
  have h1 := Int.emod_nonneg i (show (n : Int) ≠ 0 by omega)
  have h2 := Int.emod_lt_of_pos i (show 0 < (n : Int) by omega)
  exact ⟨(i % (n : Int)).toNat, by omega, by omega⟩
theorem small_mul {k : Int} (h1 : -1000000000000 < k) (h2 : k < 1000000000000) : -(2 ^ 64) < k ∧ k < 2 ^ 64 := by omega
section
variable {P : Program} {w : World} {K : PySem.W.Frag} {mg : Str → Option Value} {base : Heap}
theorem scTake : FnScope ["box", "many", "digit", "raw"] ["box", "many"] (defScope sTake) := ⟨rfl, rfl, rfl, by decide +kernel, rfl, by decide +kernel, by decide +kernel⟩
def spTake : Sp := fun vs H Q _ => ∃ (x : Addr) (n : Nat), vs = [.ref x, .int (n : Nat)] ∧ Box H x ∧ 0 < n ∧ n < 2 ^ 60 ∧ ∀ (r : Nat) H', r < n → But x H H' → Box H' x → Q (.int (r : Nat)) H'
theorem ok_take {f : Addr} {fd : FuncData} (F : Fun K "_law_take" "_law_take" sTake f fd) (mi : mg "int" = none) : FnOk P w K mg base CX0 1 f fd ["box", "many"] spTake := by
  refine F.ok scTake (fun vs H Q E h => ?_) (fun cdv A outer s H vs Q E hr h => ?_)
  · obtain ⟨x, n, rfl, _⟩ := h
    rfl
  · obtain ⟨x, n, rfl, ⟨b0, b1, b2, hx⟩, hn, hn2, q⟩ := h
    refine ⟨_, pss_cons (ps_if (pt_cmpR op_gt (pe_ix ix_list (pv 0) pe_int (fun _ _ => rfl)) pe_int (nomark _))
        (pss_cons (ps_set (i := 2) scTake.nd rfl (.inl rfl) (pe_op op_mod (pe_callTy call_int1 (by rfl) mi (by decide +kernel) (pa_cons (pe_ix ix_list (pv 0) pe_int (fun _ _ => rfl)) pa_nil)) (pv 1)))
          (pss_cons (ps_asg (pe_op op_fdivW (pe_ix ix_list (pv 0) pe_int (fun _ _ => rfl)) (pv 1)) (pg_sub (pv 0) pe_int set_list)) (pss_one (ps_ret (pv 2))))) pss_nil)
      (pss_cons (ps_asg (pe_op op_add (pe_ix ix_list (pv 0) pe_int (fun _ _ => rfl)) pe_int) (pg_sub (pv 0) pe_int set_list))
      (pss_cons (ps_set (i := 3) scTake.nd rfl (.inl rfl) (pe_op op_mod (pe_callTy call_int1 (by rfl) mi (by decide +kernel) (pa_cons (pe_op op_add (pe_op op_mul (pe_op op_add (pe_ix ix_list (pv 0) pe_int (fun _ _ => rfl)) (pe_op op_mul pe_int (pe_ix ix_list (pv 0) pe_int (fun _ _ => rfl)))) pe_int) pe_int) pa_nil)) pe_int))
      (pss_cons (ps_asg (pe_op op_add (pe_op op_mod (pe_callTy call_int1 (by rfl) mi (by decide +kernel) (pa_cons (pe_op op_add (pe_op op_mul (pv 3) pe_int) pe_int) pa_nil)) pe_int) pe_int) (pg_sub (pv 0) pe_int set_list))
      (pss_one (ps_ret (pe_op op_mod (pe_callTy call_int1 (by rfl) mi (by decide +kernel) (pa_cons (pe_op op_fdivN (pe_op op_add (pe_op op_mul (pv 3) pe_int) (pe_ix ix_list (pv 0) pe_int (fun _ _ => rfl))) pe_int) pa_nil)) (pv 1))))))), ?_⟩
    refine ⟨.ref x, rfl, x, _, 0, .int b0, rfl, rfl, sqL_new hx, rfl, b0, 0, rfl, rfl, _, rfl, ite2 (fun c => ?_) (fun c => ?_)⟩
    · obtain ⟨r, hr1, hr2⟩ := mod_nat b0 hn
      refine ⟨.ref x, rfl, x, _, 0, .int b0, rfl, rfl, sqL_new hx, rfl, .inl ⟨b0, rfl, .int (n : Nat), rfl, b0, (n : Nat), rfl, rfl, (by omega), ?_⟩⟩
      refine ⟨.ref x, rfl, x, _, 0, .int b0, rfl, rfl, sqL_new hx, rfl, .int (n : Nat), rfl, b0, (n : Nat), rfl, rfl, wide_div (b := 60) (by omega) (by omega) (by decide) (by decide), .ref x, rfl, x, _, 0, 0, rfl, rfl, hx, rfl, ?_⟩
      refine ⟨_, rfl, ?_⟩
      show Q (.int (b0 % (n : Int))) _
      rw [hr2]
      exact q r _ hr1 But.upd ⟨_, _, _, upd_same⟩
    · refine ⟨.ref x, rfl, x, _, 2, .int b2, rfl, rfl, sqL_new hx, rfl, _, _, rfl, rfl, .ref x, rfl, x, _, 2, 2, rfl, rfl, hx, rfl, ?_⟩
      generalize hH1 : upd H x _ = H1
      have hx1 : H1 x = some (.lst [.int b0, .int b1, .int (b2 + 1)]) := by rw [← hH1, upd_same]; rfl
      have k1 : But x H H1 := by rw [← hH1]; exact But.upd
      refine ⟨.ref x, rfl, x, _, 1, .int b1, rfl, rfl, sqL_new hx1, rfl, .ref x, rfl, x, _, 2, .int (b2 + 1), rfl, rfl, sqL_new hx1, rfl, 99991, b2 + 1, rfl, rfl, .inl (by decide), b1, _, rfl, rfl, _, 69621, rfl, rfl, .inr (by decide), _, 53, rfl, rfl, .inl ⟨_, rfl, _, 2147483563, rfl, rfl, (by show (0 : Int) < 2147483563; decide), ?_⟩⟩
      refine ⟨_, rfl, _, 40692, rfl, rfl, .inr (by decide), _, 27011, rfl, rfl, .inl ⟨_, rfl, _, 2147483629, rfl, rfl, (by show (0 : Int) < 2147483629; decide), _, 1, rfl, rfl, .ref x, rfl, x, _, 1, 1, rfl, rfl, hx1, rfl, ?_⟩⟩
      generalize hH2 : upd H1 x _ = H2
      obtain ⟨c1, hx2⟩ : ∃ c1 : Int, H2 x = some (.lst [.int b0, .int c1, .int (b2 + 1)]) := ⟨_, by rw [← hH2, upd_same]; rfl⟩
      have k2 : But x H1 H2 := by rw [← hH2]; exact But.upd
      refine ⟨_, rfl, _, 2147483647, rfl, rfl, .inr (by decide), .ref x, rfl, x, _, 1, .int c1, rfl, rfl, sqL_new hx2, rfl, _, c1, rfl, rfl, _, 8191, rfl, rfl, ⟨by decide, by decide⟩, .inl ⟨_, rfl, .int (n : Nat), rfl, _, (n : Nat), rfl, rfl, (by omega), ?_⟩⟩
      obtain ⟨r, hr1, hr2⟩ := mod_nat _ hn
      refine (congrArg (fun z => Q (V.int z) H2) hr2).mpr ?_
      exact q r _ hr1 (k1.trans k2) ⟨_, _, _, hx2⟩
end
end Kb
namespace Kb
open PySem PySem.Spec PyProof.Rows L2
theorem But.free {x p : Addr} {H H1 : Hp} (k : But x H H1) (b : Box H1 x) (h : H1 p = none) : H p = none := by
  cases e : H p with
  | none => rfl
  | some u =>
    by_cases w : p = x
    · obtain ⟨b0, b1, b2, hb⟩ := b
      rw [← w, h] at hb
      cases hb
    · rw [k p u w e] at h
      cases h
theorem Box.ne {x p : Addr} {H : Hp} (b : Box H x) (h : H p = none) : p ≠ x := fun w => by
  obtain ⟨b0, b1, b2, hb⟩ := b
  rw [← w, h] at hb
  cases hb
theorem Box.upd {x p : Addr} {H : Hp} {o : HO} (b : Box H x) (h : p ≠ x) : Box (upd H p o) x := by
  obtain ⟨b0, b1, b2, hb⟩ := b
  exact ⟨b0, b1, b2, by rw [upd_ne (Ne.symm h)]; exact hb⟩
section
variable {P : Program} {w : World} {K : PySem.W.Frag} {mg : Str → Option Value} {base : Heap}
theorem scPick : FnScope ["box", "some"] ["box", "some"] (defScope sPick) := ⟨rfl, rfl, rfl, by decide +kernel, rfl, by decide +kernel, by decide +kernel⟩
def spPick : Sp := fun vs H Q _ => ∃ (x a : Addr) (xs : List V), vs = [.ref x, .ref a] ∧ Box H x ∧ a ≠ x ∧ (H a = some (.lst xs) ∨ H a = some (.tup xs)) ∧ 0 < xs.length ∧ xs.length < 1000000 ∧ ∀ (i : Nat) (v : V) H', xs[i]? = some v → But x H H' → Box H' x → Q v H'
theorem ok_pick {f fT : Addr} {fd fdT : FuncData} (F : Fun K "_law_pick" "_law_pick" sPick f fd) (FT : Fun K "_law_take" "_law_take" sTake fT fdT) (bT : Binds K fdT ["box", "many"] []) (gT : mg "_law_take" = some (.ref fT)) (mi : mg "int" = none) (ml : mg "len" = none) : FnOk P w K mg base CX0 2 f fd ["box", "some"] spPick := by
  have GT : FnOk P w K mg base CX0 1 fT fdT ["box", "many"] spTake := ok_take FT mi
  refine F.ok scPick (fun vs H Q E h => ?_) (fun cdv A outer s H vs Q E hr h => ?_)
  · obtain ⟨x, a, xs, rfl, _⟩ := h
    rfl
  · obtain ⟨x, a, xs, rfl, hx, hax, ha, h0, h1, q⟩ := h
    refine ⟨_, pss_one (ps_ret (pe_ix ix_seq (pv 1) (pe_call GT hr (by rfl) gT FT.kp bT .nil pass0 (pa_cons (pv 0) (pa_cons (pe_callB call_len_seq (by rfl) ml PySem.boot_len (pa_cons (pv 1) pa_nil)) pa_nil))) (fun _ _ => rfl))), ?_⟩
    refine ⟨.ref a, rfl, .ref x, rfl, .ref a, rfl, a, xs, rfl, ha.elim (fun h => .inl (sqL_new h)) (fun h => .inr (sqT_new h)), x, xs.length, rfl, hx, h0, Nat.lt_trans h1 (by decide), fun r H' hr k b => ?_⟩
    have hg : xs[r]? = some (xs[r]'hr) := List.getElem?_eq_getElem hr
    rcases ha with ha | ha
    · exact .inl ⟨a, xs, _, _, rfl, rfl, sqL_new (k _ _ hax ha), atI_nat hg, q r _ H' hg k b⟩
    · exact .inr (.inl ⟨a, xs, _, _, rfl, rfl, sqT_new (k _ _ hax ha), atI_nat hg, q r _ H' hg k b⟩)
end
end Kb
namespace Kb
open PySem PySem.Spec PyProof.Rows L2
/-! ### leaving_of, the stages as keys -/
def skey (c : CA) (k : Nat) : List L2.Key := [.inr c.nm, .inl (k : Int)]
def keysC (c : CA) (j : Nat) : List (List L2.Key) := (List.range j).map (skey c)
def keysOf (cs : List CA) : List (List L2.Key) := cs.flatMap fun c => keysC c c.n
theorem keysOf_snoc {cs : List CA} {i : Nat} {c : CA} (h : cs[i]? = some c) : keysOf (cs.take (i + 1)) = keysOf (cs.take i) ++ keysC c c.n := by
  unfold keysOf
  rw [take_of_get h, List.flatMap_append]
  simp
theorem keysC_snoc (c : CA) (j : Nat) : keysC c (j + 1) = keysC c j ++ [skey c j] := by
  unfold keysC
  rw [List.range_succ, List.map_append]
  rfl
theorem keysC_len (c : CA) (j : Nat) : (keysC c j).length = j := by
  unfold keysC
  rw [List.length_map, List.length_range]
theorem mem_keysC {c : CA} {j k : Nat} (h : k < j) : skey c k ∈ keysC c j := List.mem_map.mpr ⟨k, List.mem_range.mpr h, rfl⟩
theorem keysOf_len : ∀ cs : List CA, (keysOf cs).length = nStages cs
  | [] => rfl
  | c :: cs => by
    have := keysOf_len cs
    unfold keysOf nStages at *
    rw [List.flatMap_cons, List.length_append, List.map_cons, List.foldr_cons, this, keysC_len]
theorem mem_keysOf {cs : List CA} {c : CA} {k : Nat} (h : c ∈ cs) (hk : k < c.n) : skey c k ∈ keysOf cs := List.mem_flatMap.mpr ⟨c, h, mem_keysC hk⟩
theorem skey_inj {c c' : CA} {k k' : Nat} (h : skey c k = skey c' k') : c.nm = c'.nm ∧ k = k' := by
  unfold skey at h
  injection h with h1 h
  injection h with h2 h
  have h1 := Sum.inr.inj h1
  have h2 := Sum.inl.inj h2
  have h2 : (k : Int) = (k' : Int) := h2
  exact ⟨h1, by omega⟩
/-- a key that has not come -/
theorem key_new {cs : List CA} (nd : (cs.map (·.nm)).Nodup) {i : Nat} {c : CA} (h : cs[i]? = some c) (j : Nat) : skey c j ∉ keysOf (cs.take i) ++ keysC c j := by
  intro z
  rcases List.mem_append.mp z with z | z
  · obtain ⟨c', hc', hk⟩ := List.mem_flatMap.mp z
    obtain ⟨k, _, e⟩ := List.mem_map.mp hk
    have e := (skey_inj e).1
    rw [← List.take_append_drop i cs, List.map_append, drop_of_get h, List.map_cons, List.nodup_append] at nd
    exact nd.2.2 _ (List.mem_map.mpr ⟨c', hc', rfl⟩) _ List.mem_cons_self e
  · obtain ⟨k, hk, e⟩ := List.mem_map.mp z
    have := (skey_inj e).2
    have := List.mem_range.mp hk
    omega
theorem keys_nd {cs : List CA} (nd : (cs.map (·.nm)).Nodup) : ∀ i, i ≤ cs.length → (keysOf (cs.take i)).Nodup
  | 0, _ => by simp [keysOf]
  | i + 1, h => by
    have hc : cs[i]? = some (cs[i]'(by omega)) := List.getElem?_eq_getElem _
    have ih := keys_nd nd i (by omega)
    rw [keysOf_snoc hc]
    have : ∀ j, (keysOf (cs.take i) ++ keysC (cs[i]'(by omega)) j).Nodup := by
      intro j
      induction j with
      | zero => simpa [keysC] using ih
      | succ j ihj =>
        rw [keysC_snoc, ← List.append_assoc, List.nodup_append]
        exact ⟨ihj, by simp, fun a ha b hb e => key_new nd hc j (by rw [← List.mem_singleton.mp hb, ← e]; exact ha)⟩
    exact this _
/-- a key, the place of a list, its items -/
abbrev TR := List L2.Key × Addr × List V
def kvT (T : List TR) : List (List L2.Key × V) := T.map fun t => (t.1, V.ref t.2.1)
theorem kvT_keys (T : List TR) : (kvT T).map (·.1) = T.map (·.1) := by
  unfold kvT
  rw [List.map_map]
  rfl
/-- the lists stand, each new since H -/
structure LsAt (H G : Hp) (D : Addr) (n : Nat) (T : List TR) : Prop where
  st : ∀ t ∈ T, G t.2.1 = some (.lst t.2.2) ∧ H t.2.1 = none ∧ t.2.1 ≠ D ∧ t.2.2.length ≤ n
  nd : (T.map (·.2.1)).Nodup
theorem LsAt.mono {H G G' : Hp} {D : Addr} {n : Nat} {T : List TR} (h : LsAt H G D n T) (s : ∀ t ∈ T, ∀ o, G t.2.1 = some o → G' t.2.1 = some o) : LsAt H G' D n T := ⟨fun t ht => ⟨s t ht _ (h.st t ht).1, (h.st t ht).2⟩, h.nd⟩
theorem LsAt.le {H G : Hp} {D : Addr} {n m : Nat} {T : List TR} (h : LsAt H G D n T) (l : n ≤ m) : LsAt H G D m T := ⟨fun t ht => ⟨(h.st t ht).1, (h.st t ht).2.1, (h.st t ht).2.2.1, Nat.le_trans (h.st t ht).2.2.2 l⟩, h.nd⟩
/-- one list gets an item -/
def pushT (T : List TR) (k : List L2.Key) (x : V) : List TR := T.map fun t => if t.1 = k then (t.1, t.2.1, t.2.2 ++ [x]) else t
theorem pushT_keys (T : List TR) (k : List L2.Key) (x : V) : (pushT T k x).map (·.1) = T.map (·.1) := by
  unfold pushT
  rw [List.map_map]
  refine List.map_congr_left fun t _ => ?_
  show (if t.1 = k then (t.1, t.2.1, t.2.2 ++ [x]) else t).1 = t.1
  split <;> rfl
theorem pushT_addr (T : List TR) (k : List L2.Key) (x : V) : (pushT T k x).map (·.2.1) = T.map (·.2.1) := by
  unfold pushT
  rw [List.map_map]
  refine List.map_congr_left fun t _ => ?_
  show (if t.1 = k then (t.1, t.2.1, t.2.2 ++ [x]) else t).2.1 = t.2.1
  split <;> rfl
theorem pushT_kv (T : List TR) (k : List L2.Key) (x : V) : kvT (pushT T k x) = kvT T := by
  unfold pushT kvT
  rw [List.map_map]
  refine List.map_congr_left fun t _ => ?_
  show ((if t.1 = k then (t.1, t.2.1, t.2.2 ++ [x]) else t).1, V.ref (if t.1 = k then (t.1, t.2.1, t.2.2 ++ [x]) else t).2.1) = (t.1, V.ref t.2.1)
  split <;> rfl
theorem inj_of_nd {α β : Type} {f : α → β} : ∀ {l : List α}, (l.map f).Nodup → ∀ {x y : α}, x ∈ l → y ∈ l → f x = f y → x = y
  | [], _, _, _, h, _, _ => nomatch h
  | z :: l, nd, x, y, hx, hy, e => by
    rw [List.map_cons, List.nodup_cons] at nd
    rcases List.mem_cons.mp hx with e1 | hx
    · rcases List.mem_cons.mp hy with e2 | hy
      · rw [e1, e2]
      · exact absurd (List.mem_map.mpr ⟨y, hy, by rw [← e, e1]⟩) nd.1
    · rcases List.mem_cons.mp hy with e2 | hy
      · exact absurd (List.mem_map.mpr ⟨x, hx, by rw [e, e2]⟩) nd.1
      · exact inj_of_nd nd.2 hx hy e
theorem LsAt.push {H G : Hp} {D : Addr} {n : Nat} {T : List TR} (h : LsAt H G D n T) (kn : (T.map (·.1)).Nodup) {t : TR} (ht : t ∈ T) {x : V} : LsAt H (upd G t.2.1 (.lst (t.2.2 ++ [x]))) D (n + 1) (pushT T t.1 x) := by
  refine ⟨fun u hu => ?_, by rw [pushT_addr]; exact h.nd⟩
  obtain ⟨u0, hu0, rfl⟩ := List.mem_map.mp hu
  obtain ⟨a1, a2, a3, a4⟩ := h.st u0 hu0
  by_cases e : u0.1 = t.1
  · have : u0 = t := inj_of_nd kn hu0 ht e
    subst this
    rw [if_pos rfl]
    exact ⟨upd_same, a2, a3, by rw [List.length_append]; exact Nat.add_le_add_right a4 1⟩
  · rw [if_neg e]
    have : u0.2.1 ≠ t.2.1 := fun z => e (by rw [inj_of_nd (f := fun t : TR => t.2.1) h.nd hu0 ht z])
    exact ⟨by rw [upd_ne this]; exact a1, a2, a3, Nat.le_succ_of_le a4⟩
theorem LsAt.snoc {H G : Hp} {D l : Addr} {n : Nat} {T : List TR} {k : List L2.Key} (h : LsAt H G D n T) (e : G l = some (.lst [])) (n0 : H l = none) (nd : l ≠ D) (nT : ∀ t ∈ T, t.2.1 ≠ l) : LsAt H G D n (T ++ [(k, l, [])]) := by
  refine ⟨fun t ht => ?_, ?_⟩
  · rcases List.mem_append.mp ht with ht | ht
    · exact h.st t ht
    · rw [List.mem_singleton.mp ht]
      exact ⟨e, n0, nd, Nat.zero_le _⟩
  · rw [List.map_append, List.nodup_append]
    refine ⟨h.nd, by simp, fun a ha b hb e => ?_⟩
    obtain ⟨t, ht, rfl⟩ := List.mem_map.mp ha
    rw [List.map_singleton, List.mem_singleton] at hb
    exact nT t ht (e.trans hb)
/-- the places of a course's steps that leave the stage k, among the first j -/
def offsTo (ss : List (Addr × Stp)) (j k : Nat) : List Nat := (List.range j).filter fun i => decide ((ss[i]?).map (·.2.n) = some k)
def offs (c : CA) (k : Nat) : List Nat := offsTo c.ss c.ss.length k
theorem offsTo_succ {ss : List (Addr × Stp)} {j : Nat} {p : Addr × Stp} (h : ss[j]? = some p) (k : Nat) : offsTo ss (j + 1) k = offsTo ss j k ++ (if p.2.n = k then [j] else []) := by
  unfold offsTo
  rw [List.range_succ, List.filter_append]
  congr 1
  rw [List.filter_cons, h]
  by_cases e : p.2.n = k
  · simp [e]
  · simp [e]
/-- the table of a book's leaving steps at q -/
def LvAt (H : Hp) (q : Addr) (cs : List CA) : Prop := ∃ M : List (List L2.Key × Addr × List Nat), H q = some (.dT (M.map fun t => (t.1, V.ref t.2.1))) ∧ M.map (·.1) = keysOf cs ∧ (∀ t ∈ M, H t.2.1 = some (.tup (natV t.2.2))) ∧ ∀ t ∈ M, ∀ c ∈ cs, ∀ k, t.1 = skey c k → t.2.2 = offs c k
theorem LvAt.mono {H H' : Hp} {q : Addr} {cs : List CA} (s : Same H H') (h : LvAt H q cs) : LvAt H' q cs := by
  obtain ⟨M, h1, h2, h3, h4⟩ := h
  exact ⟨M, s _ _ h1, h2, fun t ht => s _ _ (h3 t ht), h4⟩
/-- how far the lists have come -/
def PtT (cs : List CA) (i j : Nat) (T : List TR) : Prop := ∀ t ∈ T, ∀ (ci : Nat) (c : CA) (k : Nat), cs[ci]? = some c → t.1 = skey c k → t.2.2 = natV (offsTo c.ss (if ci < i then c.ss.length else if ci = i then j else 0) k)
theorem PtT.next {cs : List CA} {i : Nat} {c : CA} {T : List TR} (hc : cs[i]? = some c) (h : PtT cs i c.ss.length T) : PtT cs (i + 1) 0 T := fun t ht ci c' k hci e => by
  rw [h t ht ci c' k hci e]
  by_cases h1 : ci < i
  · rw [if_pos h1, if_pos (by omega)]
  · rw [if_neg h1]
    by_cases h2 : ci = i
    · subst h2
      rw [hc] at hci
      cases hci
      rw [if_pos rfl, if_pos (by omega)]
    · rw [if_neg h2, if_neg (by omega)]
      by_cases h3 : ci = i + 1
      · rw [if_pos h3]
      · rw [if_neg h3]
theorem PtT.push {cs : List CA} (nd : (cs.map (·.nm)).Nodup) {i j : Nat} {c : CA} {p : Addr × Stp} {T : List TR} {t : TR} (hc : cs[i]? = some c) (hp : c.ss[j]? = some p) (et : t.1 = skey c p.2.n) (h : PtT cs i j T) : PtT cs i (j + 1) (pushT T t.1 (.int (j : Nat))) := fun u hu ci c' k hci e => by
  obtain ⟨u0, hu0, rfl⟩ := List.mem_map.mp hu
  have same : c'.nm = c.nm → ci = i := fun en => by
    have e1 : (cs.map (·.nm))[ci]? = some c.nm := by rw [List.getElem?_map, hci, ← en]; rfl
    have e2 : (cs.map (·.nm))[i]? = some c.nm := by rw [List.getElem?_map, hc]; rfl
    exact (List.getElem?_inj (lt_of_get e1) nd).mp (e1.trans e2.symm)
  by_cases w : u0.1 = t.1
  · rw [if_pos w] at e ⊢
    have e : u0.1 = skey c' k := e
    have e3 : skey c' k = skey c p.2.n := by rw [← e, w, et]
    obtain ⟨n1, n2⟩ := skey_inj e3
    obtain rfl := same n1
    rw [hc] at hci
    cases hci
    subst n2
    show u0.2.2 ++ [V.int (j : Nat)] = _
    rw [h u0 hu0 ci c p.2.n hc e, if_neg (Nat.lt_irrefl _), if_pos rfl, if_neg (Nat.lt_irrefl _), if_pos rfl, offsTo_succ hp, if_pos rfl]
    unfold natV
    rw [List.map_append]
    rfl
  · rw [if_neg w] at e ⊢
    rw [h u0 hu0 ci c' k hci e]
    by_cases h1 : ci < i
    · rw [if_pos h1, if_pos h1]
    · rw [if_neg h1, if_neg h1]
      by_cases h2 : ci = i
      · subst h2
        rw [hc] at hci
        cases hci
        rw [if_pos rfl, if_pos rfl, offsTo_succ hp, if_neg fun z => w (by rw [e, et, z]), List.append_nil]
      · rw [if_neg h2, if_neg h2]
def rTupOf (K : PySem.W.Frag) : List V → Hp → VK → Prop := fun xs H Q => ∃ p ys, xs = [.ref p] ∧ ((SqL K H p ys ∧ ∀ l, H l = none → Q (.ref l) (upd H l (.tup ys))) ∨ (SqT K H p ys ∧ Q (.ref p) H))
theorem tupOf_at {X : Cx} {K : PySem.W.Frag} (h : X.K = K) : CallR X (.type "tuple") (rTupOf K) := by
  subst h
  exact call_tuple_of
section
variable {P : Program} {w : World} {K : PySem.W.Frag} {mg : Str → Option Value} {base : Heap}
def spLeaving (K : PySem.W.Frag) : Sp := fun vs H Q _ => ∃ (a : Addr) (cs : List CA), vs = [.ref a] ∧ CsAt K H a cs ∧ CsOk cs ∧ ∀ H' p, Same H H' → H p = none → LvAt H' p cs → Q (.ref p) H'
abbrev nLe : List Str := ["courses", "found", "course", "k", "step", "number", "stage"]
theorem scLe : FnScope nLe ["courses"] (defScope sLeaving) := ⟨rfl, rfl, rfl, by decide +kernel, rfl, by decide +kernel, by decide +kernel⟩
theorem ok_leaving {f : Addr} {fd : FuncData} (F : Fun K "leaving_of" "leaving_of" sLeaving f fd) (N : Nones mg) : FnOk P w K mg base CX0 1 f fd ["courses"] (spLeaving K) := by
  refine F.ok scLe (fun vs H Q E h => ?_) (fun cdv A outer s H vs Q E hr h => ?_)
  · obtain ⟨a, cs, rfl, _⟩ := h
    rfl
  · obtain ⟨a, cs, rfl, hC, ok, q⟩ := h
    refine ⟨_, pss_cons (ps_set (i := 1) scLe.nd rfl (Or.inr rfl) (Ka.pe_dc2 (own := [("course", 2), ("number", 5)]) (vs1 := [5]) (g := gName 2) (g1 := gName 5) (tt := tYes) (tt1 := tYes) (Ka.storeT (hu_of hr)) rfl scLe.nd (pi_tup (pv 0)) (blkOk_by (own := [("course", 2), ("number", 5)]) (N := nLe) (sc := defScope sLeaving) (by decide +kernel)) (by decide) (fun _ _ _ _ _ => (pg_name (i := 2) scLe.nd rfl (Or.inl rfl))) (fun _ _ _ _ _ => pts_nil) (fun _ _ _ _ _ => (pi_range1 (by rfl) N.range (pa_cons (pe_ix (ixT_at (K := K) rfl) (pv 2) pe_int (fun _ _ => rfl)) pa_nil))) (fun _ _ _ _ _ => (pg_name (i := 5) scLe.nd rfl (Or.inl rfl))) (fun _ _ _ _ _ => pts_nil) (fun _ _ _ _ _ => (pe_tup (pa_cons (pe_ix (ixT_at (K := K) rfl) (pv 2) pe_int (fun _ _ => rfl)) (pa_cons (pv 5) pa_nil)))) (fun _ _ _ _ _ => (pe_lst pa_nil))))
      (pss_cons (ps_for PassesOwn.never rfl (pi_tup (pv 0)) (pg_name (i := 2) scLe.nd rfl (Or.inl rfl))
        (pss_one (ps_for PassesOwn.never rfl (Ka.pi_enumT (by rfl) N.enumerate (pa_cons (pe_ix ix_tup (pv 2) pe_int (fun _ _ => rfl)) pa_nil)) (pg_tup rfl (pgs_cons (pg_name (i := 3) scLe.nd rfl (Or.inl rfl)) (pgs_cons (pg_name (i := 4) scLe.nd rfl (Or.inl rfl)) pgs_nil)))
          (pss_one (ps_expr (pe_bm PySem.F.plainAttrs_list PySem.F.slot_list_append PySem.F.type_list_append mt_append (pe_dget (hu_of hr) (pv 1) (pe_tup (pa_cons (pe_ix ix_tup (pv 2) pe_int (fun _ _ => rfl)) (pa_cons (pe_ix ix_tup (pv 4) pe_int (fun _ _ => rfl)) pa_nil))) (fun _ _ => rfl)) (pa_cons (pv 3) pa_nil)))))))
      (pss_one (ps_ret (pe_lock (Ka.pe_dcT (own := [("stage", 6)]) (g := gName 6) rfl (hu_of hr) scLe.nd (pi_keys (pv 1)) (blkOk_by (own := [("stage", 6)]) (N := nLe) (sc := defScope sLeaving) (by decide +kernel)) (fun _ _ _ _ _ => (pg_name (i := 6) scLe.nd rfl (Or.inl rfl))) (fun _ _ _ _ _ => (pv 6)) (fun _ _ _ _ _ => (pe_callTy (tupOf_at (K := K) rfl) (by rfl) N.tuple (by decide +kernel) (pa_cons (pe_dget (hu_of hr) (pv 1) (pv 6) (fun _ _ => rfl)) pa_nil)))))))), ?_⟩
    have st60 := ok.st
    refine ⟨.ref a, rfl, a, rfl, ⟨_, hC.1⟩, fun D nD => ?_⟩
    refine out_it (walk_tup (K := K) (a := a) (xs := cs.map fun c => V.ref c.a)) (fun i G => ∃ T : List TR, Same H G ∧ G D = some (.dT (kvT T)) ∧ T.map (·.1) = keysOf (cs.take i) ∧ LsAt H G D 0 T) ⟨[], same_new nD, upd_same, rfl, ⟨(fun t ht => nomatch ht), List.nodup_nil⟩⟩ (fun _ _ _ h => Same.sqT h.choose_spec.1 hC.1) (fun i x G G' hi h y => ?_) (fun G h => ?_)
    · obtain ⟨rfl, hx⟩ := y
      obtain ⟨c, hc, rfl⟩ := get_map hx
      obtain ⟨T, sG, eG, kT, lT⟩ := h
      have mc := List.mem_of_getElem? hc
      have mcG := (hC.2 c mc).mono sG
      have okc := ok.ok c mc
      have n1 := okc.n1
      refine ⟨rfl, _, rfl, c.a, _, _, .int (c.n : Nat), rfl, rfl, mcG.t, rfl, _, rfl, by omega, by omega, ?_⟩
      refine in_it (walk_r0 (n := c.n)) (fun j G2 => ∃ T : List TR, Same H G2 ∧ G2 D = some (.dT (kvT T)) ∧ T.map (·.1) = keysOf (cs.take i) ++ keysC c j ∧ LsAt H G2 D 0 T) ⟨T, sG, eG, by rw [kT]; simp [keysC], lT⟩ (fun _ _ _ _ => True.intro) (fun j x G2 G3 hj h2 y => ?_) (fun G2 h2 => ?_)
      · obtain ⟨rfl, rfl⟩ := y
        obtain ⟨T, s2, e2, kT, lT⟩ := h2
        have mc2 := (hC.2 c mc).mono s2
        refine ⟨rfl, _, rfl, c.a, _, _, .str c.nm, rfl, rfl, mc2.t, rfl, _, rfl, smallE (by show 2 ≤ 1000000; decide), fun b nb => ⟨Nat.zero_le _, fun l nl => ?_⟩⟩
        have sb := same_new (o := .tup [V.str c.nm, V.int (j : Nat)]) nb
        have eb : upd G3 b (.tup [V.str c.nm, V.int (j : Nat)]) b = some (.tup ((skey c j).map kV)) := upd_same
        have lT := lT.mono fun t _ o e => sb _ _ e
        have e2 := sb _ _ e2
        have s2 := s2.trans sb
        generalize upd G3 b (.tup [V.str c.nm, V.int (j : Nat)]) = G4 at sb eb lT e2 s2 nl
        have sl := same_new (o := .lst []) nl
        have el : upd G4 l (.lst []) l = some (.lst []) := upd_same
        have nT : ∀ t ∈ T, t.2.1 ≠ l := fun t ht => ne_of_none (lT.st t ht).1 nl
        have lT := lT.mono fun t _ o e => sl _ _ e
        have lD : l ≠ D := fun z => by
          rw [z, e2] at nl
          cases nl
        have nlH := s2.free nl
        have e2 := sl _ _ e2
        have eb := sl _ _ eb
        have s2 := s2.trans sl
        generalize upd G4 l (.lst []) = G5 at sl el lT e2 eb s2
        have len : (kvT T).length ≤ 60 := by
          have h1 : (kvT T).length = (T.map (·.1)).length := by unfold kvT; rw [List.length_map, List.length_map]
          have h2 := nStages_le cs (i + 1)
          have h3 := nStages_snoc hc
          rw [h1, kT, List.length_append, keysOf_len, keysC_len]
          omega
        refine ⟨kvT T, skey c j, b, rfl, eb, e2, small (by omega), T ++ [(skey c j, l, [])], fun b o e => ?_, ?_, ?_, ?_⟩
        · rw [upd_ne (ne_of_none e nD)]
          exact s2 _ _ e
        · rw [upd_same, putK_new]
          · unfold kvT
            rw [List.map_append]
            rfl
          · rw [kvT_keys, kT]
            exact key_new ok.nd hc j
        · rw [List.map_append, kT, keysC_snoc, List.append_assoc]
          rfl
        · refine (lT.snoc el nlH lD nT).mono fun t ht o e => ?_
          rw [upd_ne]
          · exact e
          · rcases List.mem_append.mp ht with z | z
            · exact (lT.st t z).2.2.1
            · rw [List.mem_singleton.mp z]
              exact lD
      · obtain ⟨T, s2, e2, kT, lT⟩ := h2
        exact ⟨T, s2, e2, by rw [kT, keysOf_snoc hc], lT⟩
    · obtain ⟨T, sG, eG, kT, lT⟩ := h
      rw [List.length_map, List.take_of_length_le (Nat.le_refl _)] at kT
      have kn : (T.map (·.1)).Nodup := by
        rw [kT]
        have := keys_nd ok.nd cs.length (Nat.le_refl _)
        rwa [List.take_length] at this
      refine ⟨_, rfl, a, rfl, ⟨_, Same.sqT sG hC.1⟩, ?_⟩
      refine for_it (walk_tup (K := K) (a := a) (xs := cs.map fun c => V.ref c.a)) (fun i σ Z => ∃ (x2 x3 x4 x5 x6 : Option V) (T : List TR), σ = [some (.ref a), some (.ref D), x2, x3, x4, x5, x6] ∧ Same H Z ∧ Z D = some (.dT (kvT T)) ∧ T.map (·.1) = keysOf cs ∧ LsAt H Z D (10000 * i) T ∧ PtT cs i 0 T) ⟨none, none, none, none, none, T, rfl, sG, eG, kT, lT, fun t ht ci c k hci e => by
        have z := (lT.st t ht).2.2.2
        rw [List.eq_nil_of_length_eq_zero (Nat.le_zero.mp z), if_neg (Nat.not_lt_zero _)]
        split <;> rfl⟩ (fun i σ Z _ h => ?_) (fun i x σ Z Z' hi h y => ?_) (fun σ Z h => ?_)
      · obtain ⟨_, _, _, _, _, _, _, sZ, _⟩ := h
        exact Same.sqT sZ hC.1
      · obtain ⟨rfl, hx⟩ := y
        obtain ⟨c, hc, rfl⟩ := get_map hx
        obtain ⟨x2, x3, x4, x5, x6, T, rfl, sZ, eZ, kT, lT, pT⟩ := h
        have mc := List.mem_of_getElem? hc
        have okc := ok.ok c mc
        have osz := okc.sz
        have n8 := ok.n8
        have hi8 := lt_of_get hc
        have mcZ := (hC.2 c mc).mono sZ
        refine ⟨_, rfl, c.a, _, _, .ref c.sa, rfl, rfl, mcZ.t, rfl, c.sa, _, rfl, mcZ.s, ?_⟩
        refine for_it (walk_enumT (K := K) (a := c.sa) (xs := c.ss.map fun p => V.ref p.1)) (fun j σ Y => ∃ (x3 x4 x5 x6 : Option V) (T : List TR), σ = [some (.ref a), some (.ref D), some (.ref c.a), x3, x4, x5, x6] ∧ Same H Y ∧ Y D = some (.dT (kvT T)) ∧ T.map (·.1) = keysOf cs ∧ LsAt H Y D (10000 * i + j) T ∧ PtT cs i j T) ⟨x3, x4, x5, x6, T, rfl, sZ, eZ, kT, lT, pT⟩ (fun j σ Y _ h => ?_) (fun j x σ Y Y' hj h y => ?_) (fun σ Y h => ?_)
        · obtain ⟨_, _, _, _, _, _, sY, _⟩ := h
          exact Same.sqT sY (hC.2 c mc).s
        · obtain ⟨U, z, v, rfl, nU, rfl, hz, hv⟩ := y
          obtain ⟨x3, x4, x5, x6, T, rfl, sY, eY, kT, lT, pT⟩ := h
          cases hz
          obtain ⟨p, hp, rfl⟩ := get_map hv
          have mp := List.mem_of_getElem? hp
          have hjl := lt_of_get hp
          have sU := same_new (o := .tup [V.int (j : Nat), V.ref p.1]) nU
          have hU : upd Y U (.tup [V.int (j : Nat), V.ref p.1]) U = some (.tup [V.int (j : Nat), V.ref p.1]) := upd_same
          have lT := lT.mono fun t _ o e => sU _ _ e
          have eY := sU _ _ eY
          have sY := sY.trans sU
          generalize upd Y U (.tup [V.int (j : Nat), V.ref p.1]) = Y1 at sY hU eY lT
          have mcY := (hC.2 c mc).mono sY
          refine ⟨U, _, rfl, sqT_new hU, rfl, _, _, rfl, _, _, rfl, rfl, ?_⟩
          refine ⟨_, rfl, _, rfl, c.a, _, _, .str c.nm, rfl, rfl, mcY.t, rfl, _, rfl, p.1, _, _, .int (p.2.n : Nat), rfl, rfl, sqT_new (mcY.p p mp), rfl, smallE (by show 2 ≤ 1000000; decide), fun b nb => ?_⟩
          have sb := same_new (o := .tup [V.str c.nm, V.int (p.2.n : Nat)]) nb
          have eb : upd Y1 b (.tup [V.str c.nm, V.int (p.2.n : Nat)]) b = some (.tup ((skey c p.2.n).map kV)) := upd_same
          have lT := lT.mono fun t _ o e => sb _ _ e
          have eY := sb _ _ eY
          have sY := sY.trans sb
          generalize upd Y1 b (.tup [V.str c.nm, V.int (p.2.n : Nat)]) = Y2 at sY eb eY lT
          have hk : skey c p.2.n ∈ T.map (·.1) := by
            rw [kT]
            exact mem_keysOf mc (okc.sl p mp).1
          obtain ⟨t, ht, et⟩ := List.mem_map.mp hk
          have kn : (T.map (·.1)).Nodup := by
            rw [kT]
            have := keys_nd ok.nd cs.length (Nat.le_refl _)
            rwa [List.take_length] at this
          have hv : valV (kvT T) (skey c p.2.n) = some (.ref t.2.1) := valV_mem (by rw [kvT_keys]; exact kn) (List.mem_map.mpr ⟨t, ht, by rw [et]⟩)
          obtain ⟨a1, a2, a3, a4⟩ := lT.st t ht
          refine ⟨D, .ref t.2.1, rfl, hv ▸ DGet.t eY eb, .inl ⟨rfl, _, sqL_new a1⟩, _, rfl, t.2.1, _, _, rfl, rfl, a1, small (by omega), ?_⟩
          refine ⟨some (.int (j : Nat)), some (.ref p.1), x5, x6, pushT T t.1 (.int (j : Nat)), rfl, fun b2 o e => ?_, ?_, by rw [pushT_keys]; exact kT, lT.push kn ht, pT.push ok.nd hc hp et⟩
          · rw [upd_ne (ne_of_none e a2)]
            exact sY _ _ e
          · rw [upd_ne a3.symm, pushT_kv]
            exact eY
        · obtain ⟨x3, x4, x5, x6, T, rfl, sY, eY, kT, lT, pT⟩ := h
          rw [List.length_map] at lT pT
          exact ⟨_, _, _, _, _, T, rfl, sY, eY, kT, lT.le (by omega), pT.next hc⟩
      · obtain ⟨x2, x3, x4, x5, x6, T, rfl, sZ, eZ, kT, lT, pT⟩ := h
        have kn : (T.map (·.1)).Nodup := by
          rw [kT]
          have := keys_nd ok.nd cs.length (Nat.le_refl _)
          rwa [List.take_length] at this
        refine ⟨D, _, eZ, True.intro, fun od => ?_⟩
        generalize hL : upd Z D (.frz od (.dT (kvT T))) = L
        have fL : L D = some (.frz od (.dT (kvT T))) := by rw [← hL]; exact upd_same
        have kL : But D Z L := by rw [← hL]; exact But.upd
        have lT := lT.mono fun t ht o e => kL _ _ (lT.st t ht).2.2.1 e
        have sL : Same H L := fun b o e => kL _ _ (ne_of_none e nD) (sZ _ _ e)
        refine ⟨_, rfl, D, od, rfl, .inr ⟨kvT T, fL, fun D2 nD2 => ?_⟩⟩
        have lenT : (kvT T).length ≤ 60 := by
          have h1 : (kvT T).length = (T.map (·.1)).length := by unfold kvT; rw [List.length_map, List.length_map]
          rw [h1, kT, keysOf_len]
          exact st60
        have full : ∀ t ∈ T, ∀ c ∈ cs, ∀ k, t.1 = skey c k → t.2.2 = natV (offs c k) := fun t ht c hc k e => by
          obtain ⟨ci, hci⟩ := List.getElem?_of_mem hc
          have := pT t ht ci c k hci e
          rw [if_pos (by rw [List.length_map]; exact lt_of_get hci)] at this
          exact this
        have nat : ∀ t ∈ T, ∃ ns, t.2.2 = natV ns ∧ ∀ c ∈ cs, ∀ k, t.1 = skey c k → ns = offs c k := fun t ht => by
          have : t.1 ∈ keysOf cs := by rw [← kT]; exact List.mem_map.mpr ⟨t, ht, rfl⟩
          obtain ⟨c, hc, hk⟩ := List.mem_flatMap.mp this
          obtain ⟨k, _, e⟩ := List.mem_map.mp hk
          refine ⟨offs c k, full t ht c hc k e.symm, fun c' hc' k' e' => ?_⟩
          obtain ⟨n1, n2⟩ := skey_inj (e.trans e')
          obtain ⟨ci, hci⟩ := List.getElem?_of_mem hc
          obtain ⟨cj, hcj⟩ := List.getElem?_of_mem hc'
          have e1 : (cs.map (·.nm))[ci]? = some c.nm := by rw [List.getElem?_map, hci]; rfl
          have e2 : (cs.map (·.nm))[cj]? = some c.nm := by rw [List.getElem?_map, hcj, n1]; rfl
          have := (List.getElem?_inj (lt_of_get e1) ok.nd).mp (e1.trans e2.symm)
          subst this
          rw [hci] at hcj
          cases hcj
          rw [n2]
        refine dcT_it (walk_keysT (d := D) (o := od) (kvs := kvT T)) (fun i Y => Same L Y ∧ ∃ M : List (List L2.Key × Addr × List Nat), Y D2 = some (.dT (M.map fun t => (t.1, V.ref t.2.1))) ∧ M.map (·.1) = (T.take i).map (·.1) ∧ (∀ t ∈ M, Y t.2.1 = some (.tup (natV t.2.2))) ∧ ∀ t ∈ M, ∀ c ∈ cs, ∀ k, t.1 = skey c k → t.2.2 = offs c k) ⟨same_new nD2, [], upd_same, rfl, (fun t ht => nomatch ht), fun t ht => nomatch ht⟩ (fun _ _ _ h => h.1 _ _ fL) (fun i x Y Y' hi h y => ?_) (fun Y h => ?_)
        · obtain ⟨rfl, k, v, b, hkv, rfl, hb⟩ := y
          obtain ⟨sY, M, eY, kM, tM, oM⟩ := h
          obtain ⟨t, ht, e⟩ := get_map hkv
          cases e
          have mt := List.mem_of_getElem? ht
          have hv : valV (kvT T) t.1 = some (.ref t.2.1) := valV_mem (by rw [kvT_keys]; exact kn) (List.mem_map.mpr ⟨t, mt, rfl⟩)
          have hG : DGet Y' D (.ref b) (some (.ref t.2.1)) := .inr ⟨kvT T, t.1, b, .inr ⟨od, sY _ _ fL⟩, rfl, hb, hv.symm⟩
          obtain ⟨ns, hns, hof⟩ := nat t mt
          refine ⟨rfl, _, rfl, _, rfl, _, rfl, D, _, rfl, hG, t.2.1, _, rfl, .inl ⟨sqL_new (sY _ _ (lT.st t mt).1), fun l nl => ?_⟩⟩
          have sl := same_new (o := .tup t.2.2) nl
          have el : upd Y' l (.tup t.2.2) l = some (.tup (natV ns)) := by rw [upd_same, hns]
          have eD := sl _ _ eY
          have hb2 := sl _ _ hb
          generalize upd Y' l (.tup t.2.2) = W at sl el eD hb2
          have nDt : ∀ {c : Addr} {xs : List V}, W c = some (.tup xs) → c ≠ D2 := fun e w => by
            rw [w, eD] at e
            cases e
          have lM : M.length ≤ 60 := by
            have := congrArg List.length kM
            rw [List.length_map, List.length_map, List.length_take] at this
            have h1 : (kvT T).length = T.length := by unfold kvT; rw [List.length_map]
            omega
          refine ⟨_, t.1, b, rfl, hb2, eD, by rw [List.length_map]; exact small (by omega), fun b2 o e => ?_, M ++ [(t.1, l, ns)], ?_, ?_, fun u hu => ?_, fun u hu => ?_⟩
          · rw [upd_ne (ne_of_none e nD2)]
            exact sl _ _ (sY _ _ e)
          · rw [upd_same, putK_new]
            · rw [List.map_append]
              rfl
            · rw [List.map_map]
              have : (List.map ((fun x => x.1) ∘ fun (t : List L2.Key × Addr × List Nat) => (t.1, V.ref t.2.1)) M) = M.map (·.1) := rfl
              rw [this, kM]
              intro z
              have nd2 := kn
              rw [← List.take_append_drop i T, List.map_append, drop_of_get ht, List.map_cons, List.nodup_append] at nd2
              exact nd2.2.2 _ z _ List.mem_cons_self rfl
          · rw [List.map_append, kM, take_of_get ht, List.map_append]
            rfl
          · rcases List.mem_append.mp hu with z | z
            · have a1 := sl _ _ (tM u z)
              rw [upd_ne (nDt a1)]
              exact a1
            · rw [List.mem_singleton.mp z, upd_ne (nDt el)]
              exact el
          · rcases List.mem_append.mp hu with z | z
            · exact oM u z
            · rw [List.mem_singleton.mp z]
              exact hof
        · obtain ⟨sY, M, eY, kM, tM, oM⟩ := h
          have hTl : (kvT T).length = T.length := by unfold kvT; rw [List.length_map]
          rw [hTl, List.take_of_length_le (Nat.le_refl _), kT] at kM
          have nY : ∀ {c : Addr} {o : HO}, Y c = some o → (∀ u, o ≠ .frz od u) → c ≠ D := fun e h2 z => by
            rw [z, sY _ _ fL] at e
            exact h2 _ (Option.some.inj e).symm
          refine ⟨sY _ _ fL, q _ D2 (fun b o e => ?_) (sL.free nD2) ⟨M, ?_, kM, fun t ht => ?_, oM⟩⟩
          · rw [upd_ne (ne_of_none e nD)]
            exact sY _ _ (sL _ _ e)
          · rw [upd_ne (nY eY fun _ => fun e => by cases e)]
            exact eY
          · rw [upd_ne (nY (tM t ht) fun _ => fun e => by cases e)]
            exact tM t ht
end
end Kb
namespace Kb
open PySem PySem.Spec PyProof.Rows L2
/-! ### the class Book: its constructor, deeds -/
/-- what the written part says of the class -/
structure BkC (K : PySem.W.Frag) (mg : Str → Option Value) (C : Addr) : Prop where
  cl : Cls K C
  nC : NoAttr K C "courses"
  nP : NoAttr K C "_places"
  nS : NoAttr K C "_stages"
  nE : NoAttr K C "_ends"
  nL : NoAttr K C "_leaving"
  mgC : mg "Book" = some (.ref C)
/-- a book at p -/
abbrev SP := Addr × Str × Nat
def spV (S : List SP) : List V := S.map fun t => V.ref t.1
/-- names to places -/
def plTo (cs : List CA) (i : Nat) : List (L2.Key × V) := (List.range i).map fun (j : Nat) => (Sum.inr ((cs[j]?.map (·.nm)).getD ""), V.int (j : Int))
theorem plTo_succ {cs : List CA} {i : Nat} {c : CA} (h : cs[i]? = some c) : plTo cs (i + 1) = plTo cs i ++ [(Sum.inr c.nm, V.int (i : Int))] := by
  unfold plTo
  rw [List.range_succ, List.map_append, List.map_singleton, h]
  rfl
theorem plTo_keys {cs : List CA} : ∀ i, i ≤ cs.length → (plTo cs i).map (·.1) = ((cs.take i).map (·.nm)).map Sum.inr
  | 0, _ => rfl
  | i + 1, h => by
    have hc : cs[i]? = some (cs[i]'(by omega)) := List.getElem?_eq_getElem _
    rw [plTo_succ hc, List.map_append, plTo_keys i (by omega), take_of_get hc, List.map_append, List.map_append]
    rfl
theorem plTo_len (cs : List CA) (i : Nat) : (plTo cs i).length = i := by
  unfold plTo
  rw [List.length_map, List.length_range]
/-- the ends as keys -/
def edKeys (cs : List CA) : List (List L2.Key) := cs.flatMap fun c => c.es.map (skey c)
def edKV (ks : List (List L2.Key)) : List (List L2.Key × V) := ks.map fun k => (k, V.bl true)
theorem edKV_keys (ks : List (List L2.Key)) : (edKV ks).map (·.1) = ks := by
  unfold edKV
  rw [List.map_map]
  exact List.map_id _
theorem edKV_len (ks : List (List L2.Key)) : (edKV ks).length = ks.length := List.length_map _
theorem edKeys_snoc {cs : List CA} {i : Nat} {c : CA} (h : cs[i]? = some c) : edKeys (cs.take (i + 1)) = edKeys (cs.take i) ++ c.es.map (skey c) := by
  unfold edKeys
  rw [take_of_get h, List.flatMap_append]
  simp
theorem edKey_new {cs : List CA} (nd : (cs.map (·.nm)).Nodup) {i : Nat} {c : CA} (h : cs[i]? = some c) {j e : Nat} (asc : c.es.Pairwise (· < ·)) (he : c.es[j]? = some e) : skey c e ∉ edKeys (cs.take i) ++ (c.es.take j).map (skey c) := by
  intro z
  rcases List.mem_append.mp z with z | z
  · obtain ⟨c', hc', hk⟩ := List.mem_flatMap.mp z
    obtain ⟨k, _, e⟩ := List.mem_map.mp hk
    have e := (skey_inj e).1
    rw [← List.take_append_drop i cs, List.map_append, drop_of_get h, List.map_cons, List.nodup_append] at nd
    exact nd.2.2 _ (List.mem_map.mpr ⟨c', hc', rfl⟩) _ List.mem_cons_self e
  · obtain ⟨k, hk, e2⟩ := List.mem_map.mp z
    obtain rfl := (skey_inj e2).2
    rw [← List.take_append_drop j c.es, drop_of_get he, List.pairwise_append] at asc
    exact Nat.lt_irrefl _ (asc.2.2 _ hk _ List.mem_cons_self)
/-- the stages -/
def stagesOf (cs : List CA) : List (Str × Nat) := cs.flatMap fun c => (List.range c.n).map fun k => (c.nm, k)
theorem stagesOf_snoc {cs : List CA} {i : Nat} {c : CA} (h : cs[i]? = some c) : stagesOf (cs.take (i + 1)) = stagesOf (cs.take i) ++ (List.range c.n).map fun k => (c.nm, k) := by
  unfold stagesOf
  rw [take_of_get h, List.flatMap_append]
  simp
def stD (x : Str × Nat) : PyData := .tuple [.str x.1, .int (x.2 : Int)]
def stLe (x y : Str × Nat) : Bool := !PySem.W.dataLt (stD y) (stD x)
/-- the names of a book's methods -/
def bkMeths : List Str := ["names", "main", "index_of", "ends", "steps", "steps_from", "is_end", "is_stage", "stages", "calls", "deeds"]
structure FsF (fs : List (Str × V)) (a P1 S1 E1 L1 : Addr) : Prop where
  c : fs.lookup ("courses" : Str) = some (.ref a)
  p : fs.lookup ("_places" : Str) = some (.ref P1)
  s : fs.lookup ("_stages" : Str) = some (.ref S1)
  e : fs.lookup ("_ends" : Str) = some (.ref E1)
  l : fs.lookup ("_leaving" : Str) = some (.ref L1)
  no : ∀ n ∈ bkMeths, fs.lookup n = none
def BookAt (K : PySem.W.Frag) (C : Addr) (H : Hp) (p : Addr) (a : Addr) (cs : List CA) : Prop :=
  ∃ (dx : Addr) (fs : List (Str × V)) (P1 S1 E1 L1 : Addr) (S : List SP), H p = some (.ins C dx fs) ∧ FsF fs a P1 S1 E1 L1 ∧ CsAt K H a cs ∧ CsOk cs ∧ H P1 = some (.dK (plTo cs cs.length)) ∧ H S1 = some (.tup (spV S)) ∧ (∀ t ∈ S, H t.1 = some (.tup [.str t.2.1, .int (t.2.2 : Int)])) ∧ S.map (·.2) = (stagesOf cs).mergeSort stLe ∧ H E1 = some (.dT (edKV (edKeys cs))) ∧ LvAt H L1 cs
theorem BookAt.mono {K : PySem.W.Frag} {C : Addr} {H H' : Hp} {p a : Addr} {cs : List CA} (s : Same H H') (h : BookAt K C H p a cs) : BookAt K C H' p a cs := by
  obtain ⟨dx, fs, P1, S1, E1, L1, S, h1, h2, h3, h4, h5, h6, h7, h8, h9, h10⟩ := h
  exact ⟨dx, fs, P1, S1, E1, L1, S, s _ _ h1, h2, h3.mono s, h4, s _ _ h5, s _ _ h6, fun t ht => s _ _ (h7 t ht), h8, s _ _ h9, h10.mono s⟩
theorem CsAt.but {K : PySem.W.Frag} {H H' : Hp} {a p : Addr} {cs : List CA} {C dx : Addr} {fs : List (Str × V)} (k : But p H H') (hp : H p = some (.ins C dx fs)) (h : CsAt K H a cs) : CsAt K H' a cs := by
  have one : ∀ {b : Addr} {xs : List V}, SqT K H b xs → SqT K H' b xs := fun {b xs} h => by
    rcases h with (h | ⟨o, h⟩) | h
    · exact .inl (.inl (k _ _ (fun e => by rw [e, hp] at h; cases h) h))
    · exact .inl (.inr ⟨o, k _ _ (fun e => by rw [e, hp] at h; cases h) h⟩)
    · exact .inr h
  refine ⟨one h.1, fun c hc => ?_⟩
  have := h.2 c hc
  exact ⟨one this.t, one this.e, one this.s, fun q hq => k _ _ (fun e => by have := this.p q hq; rw [e, hp] at this; cases this) (this.p q hq)⟩
def spZ (t : SP) : Ka.HZ := (V.ref t.1, .tuple [.str t.2.1, .int (t.2.2 : Int)])
/-- the fields of a book so far -/
structure FsOk (fs : List (Str × V)) (a : Addr) (m : Nat) : Prop where
  c : fs.lookup ("courses" : Str) = some (.ref a)
  d : ∀ n ∈ bkMeths, fs.lookup n = none
  l : fs.length ≤ m
theorem putF_len {n : Str} {v : V} : ∀ {fs : List (Str × V)}, (putF n v fs).length ≤ fs.length + 1
  | [] => Nat.le_refl _
  | q :: fs => by
    have ih := putF_len (n := n) (v := v) (fs := fs)
    unfold putF
    split
    · simp
    · rw [List.length_cons, List.length_cons]
      omega
theorem FsOk.put {fs : List (Str × V)} {a : Addr} {m : Nat} {n : Str} {v : V} (h : FsOk fs a m) (h1 : ¬ ("courses" : Str) = n) (h2 : n ∉ bkMeths) : FsOk (putF n v fs) a (m + 1) :=
  ⟨by rw [lookup_putF, if_neg h1]; exact h.c, fun k hk => by rw [lookup_putF, if_neg (fun e => h2 (by rw [← e]; exact hk))]; exact h.d k hk, Nat.le_trans putF_len (Nat.add_le_add_right h.l 1)⟩
section
variable {P : Program} {w : World} {K : PySem.W.Frag} {mg : Str → Option Value} {base : Heap}
def spBkInit (K : PySem.W.Frag) (C : Addr) : Sp := fun vs H Q _ => ∃ (p a dx : Addr) (cs : List CA), vs = [.ref p, .ref a] ∧ H p = some (.ins C dx []) ∧ CsAt K H a cs ∧ CsOk cs ∧ ∀ H', But p H H' → BookAt K C H' p a cs → Q .non H'
abbrev nBi : List Str := ["self", "courses", "at", "course", "number"]
theorem scBi : FnScope nBi ["self", "courses"] (defScope sBkInit) := ⟨rfl, rfl, rfl, by decide +kernel, rfl, by decide +kernel, by decide +kernel⟩
theorem ok_bkinit {f C fE fT fL : Addr} {fd fdE fdT fdL : FuncData} (F : Fun K "__init__" "Book.__init__" sBkInit f fd) (N : Nones mg) (B : BkC K mg C) (G_check_each : FnOk P w K mg base CX0 7 fE fdE ["courses"] (spChEach K)) (C_check_each : CallC K mg "check_each" ["courses"] fE fdE)
    (G_check_together : FnOk P w K mg base CX0 2 fT fdT ["courses"] (spChTog K)) (C_check_together : CallC K mg "check_together" ["courses"] fT fdT) (G_leaving_of : FnOk P w K mg base CX0 1 fL fdL ["courses"] (spLeaving K)) (C_leaving_of : CallC K mg "leaving_of" ["courses"] fL fdL) : FnOk P w K mg base CX0 8 f fd ["self", "courses"] (spBkInit K C) := by
  refine F.ok scBi (fun vs H Q E h => ?_) (fun cdv A outer s H vs Q E hr h => ?_)
  · obtain ⟨p, a, dx, cs, rfl, _⟩ := h
    rfl
  · obtain ⟨p, a, dx, cs, rfl, hp, hC, ok, q⟩ := h
    refine ⟨_, pss_cons (ps_if (pt_not (pt_val (pe_callB call_isi (by rfl) N.isinstance (by decide +kernel) (pa_cons (pv 1) (pa_cons (pe_bltn (v := .ty "tuple") (by rfl) N.tuple (by decide +kernel) rfl) pa_nil))))) (pss_one ps_never) pss_nil)
      (pss_cons (ps_expr (pe_call G_check_each (hr.mono (by decide)) (by rfl) C_check_each.g C_check_each.kp C_check_each.b .nil pass0 (pa_cons (pv 1) pa_nil)))
      (pss_cons (ps_expr (pe_call G_check_together (hr.mono (by decide)) (by rfl) C_check_together.g C_check_together.kp C_check_together.b .nil pass0 (pa_cons (pv 1) pa_nil)))
      (pss_cons (ps_fld (pv 0) (pv 1) rfl)
      (pss_cons (ps_fld (pv 0) (pe_dc (own := [("at", 2), ("course", 3)]) (g := gTup K 2 (gCons (gName 2) (gCons (gName 3) gNil))) (tt := tYes) rfl scBi.nd (Ka.pi_enumT (by rfl) N.enumerate (pa_cons (pv 1) pa_nil)) (blkOk_by (own := [("at", 2), ("course", 3)]) (N := nBi) (sc := defScope sBkInit) (by decide +kernel)) (fun _ _ _ _ _ => (tup_at (K := K) rfl rfl (pgs_cons (pg_name (i := 2) scBi.nd rfl (Or.inl rfl)) (pgs_cons (pg_name (i := 3) scBi.nd rfl (Or.inl rfl)) pgs_nil)))) (fun _ _ _ _ _ => pts_nil) (fun _ _ _ _ _ => (pe_ix (ixT_at (K := K) rfl) (pv 3) pe_int (fun _ _ => rfl))) (fun _ _ _ _ _ => (pv 2))) rfl)
      (pss_cons (ps_fld (pv 0) (pe_callTy call_tuple_of (by rfl) N.tuple (by decide +kernel) (pa_cons (pe_callB (Ka.cr_sortG hr.units) (by rfl) N.sorted (by decide +kernel) (pa_cons (pe_lc2 (own := [("course", 3), ("number", 4)]) (vs1 := [4]) (g := gName 3) (g1 := gName 4) (tt := tYes) (tt1 := tYes) rfl scBi.nd (pi_tup (pv 1)) (blkOk_by (own := [("course", 3), ("number", 4)]) (N := nBi) (sc := defScope sBkInit) (by decide +kernel)) (by decide) (fun _ _ _ _ _ => (pg_name (i := 3) scBi.nd rfl (Or.inl rfl))) (fun _ _ _ _ _ => pts_nil) (fun _ _ _ _ _ => (pi_range1 (by rfl) N.range (pa_cons (pe_ix (ixT_at (K := K) rfl) (pv 3) pe_int (fun _ _ => rfl)) pa_nil))) (fun _ _ _ _ _ => (pg_name (i := 4) scBi.nd rfl (Or.inl rfl))) (fun _ _ _ _ _ => pts_nil) (fun _ _ _ _ _ => (pe_tup (pa_cons (pe_ix (ixT_at (K := K) rfl) (pv 3) pe_int (fun _ _ => rfl)) (pa_cons (pv 4) pa_nil))))) pa_nil)) pa_nil)) rfl)
      (pss_cons (ps_fld (pv 0) (Ka.pe_dc2 (own := [("course", 3), ("number", 4)]) (vs1 := [4]) (g := gName 3) (g1 := gName 4) (tt := tYes) (tt1 := tYes) (Ka.storeT (hu_of hr)) rfl scBi.nd (pi_tup (pv 1)) (blkOk_by (own := [("course", 3), ("number", 4)]) (N := nBi) (sc := defScope sBkInit) (by decide +kernel)) (by decide) (fun _ _ _ _ _ => (pg_name (i := 3) scBi.nd rfl (Or.inl rfl))) (fun _ _ _ _ _ => pts_nil) (fun _ _ _ _ _ => (piT_at (K := K) rfl (pe_ix (ixT_at (K := K) rfl) (pv 3) pe_int (fun _ _ => rfl)))) (fun _ _ _ _ _ => (pg_name (i := 4) scBi.nd rfl (Or.inl rfl))) (fun _ _ _ _ _ => pts_nil) (fun _ _ _ _ _ => (pe_tup (pa_cons (pe_ix (ixT_at (K := K) rfl) (pv 3) pe_int (fun _ _ => rfl)) (pa_cons (pv 4) pa_nil)))) (fun _ _ _ _ _ => pe_bl)) rfl)
      (pss_one (ps_fld (pv 0) (pe_call G_leaving_of (hr.mono (by decide)) (by rfl) C_leaving_of.g C_leaving_of.kp C_leaving_of.b .nil pass0 (pa_cons (pv 1) pa_nil)) rfl)))))))), ?_⟩
    refine ⟨.ref a, rfl, .ref a, .ty "tuple", .type "tuple", .type "tuple", true, rfl, .ty "tuple", tyT hC.1, kit_ty (by decide +kernel), true, rfl, iteF ?_⟩
    refine ⟨_, rfl, a, cs, rfl, hC, ok, fun H1 s1 => ?_⟩
    refine ⟨_, rfl, a, cs, rfl, hC.mono s1, ok, fun H2 s2 => ?_⟩
    have hp2 := s2 _ _ (s1 _ _ hp)
    have k2 : But p H H2 := But.of (s1.trans s2)
    have hC2 := (hC.mono s1).mono s2
    refine ⟨_, rfl, _, rfl, p, C, dx, [], rfl, hp2, B.cl, B.nC, (by show 0 < 1000; decide), ?_⟩
    have F1 : FsOk (putF "courses" (.ref a) []) a 1 := ⟨by rw [lookup_putF, if_pos rfl], fun k hk => by rw [lookup_putF, if_neg (fun e => absurd (e ▸ hk) (by decide +kernel))]; rfl, Nat.le_trans putF_len (Nat.le_refl _)⟩
    have hp3 : upd H2 p (.ins C dx (putF "courses" (.ref a) [])) p = some (.ins C dx (putF "courses" (.ref a) [])) := upd_same
    have k3 : But p H (upd H2 p (.ins C dx (putF "courses" (.ref a) []))) := k2.trans But.upd
    generalize upd H2 p (.ins C dx (putF "courses" (.ref a) [])) = G1 at hp3 k3
    generalize putF "courses" (.ref a) [] = fs1 at F1 hp3
    have hC3 := hC.but k3 hp
    -- _places
    refine ⟨_, rfl, a, _, rfl, hC3.1, fun D nD => ?_⟩
    refine dcK_it (walk_enumT (K := K) (a := a) (xs := cs.map fun c => V.ref c.a)) (fun i G => Same G1 G ∧ G D = some (.dK (plTo cs i))) ⟨same_new nD, upd_same⟩ (fun _ _ _ h => Same.sqT h.1 hC3.1) (fun i x G G' hi h y => ?_) (fun G h => ?_)
    · obtain ⟨T, z, v, rfl, nT, rfl, hz, hv⟩ := y
      obtain ⟨sG, eG⟩ := h
      cases hz
      obtain ⟨c, hc, rfl⟩ := get_map hv
      have n8 := ok.n8
      have hi8 := lt_of_get hc
      have sT := same_new (o := .tup [V.int (i : Nat), V.ref c.a]) nT
      have hT : upd G T (.tup [V.int (i : Nat), V.ref c.a]) T = some (.tup [V.int (i : Nat), V.ref c.a]) := upd_same
      have mc := (hC3.2 c (List.mem_of_getElem? hc)).mono (sG.trans sT)
      refine ⟨T, _, rfl, sqT_new hT, rfl, _, _, rfl, _, _, rfl, rfl, rfl, ?_⟩
      refine ⟨_, rfl, c.a, _, _, .str c.nm, rfl, rfl, mc.t, rfl, _, rfl, _, Sum.inr c.nm, rfl, sT _ _ eG, by rw [plTo_len]; exact small (by omega), fun b o e => ?_, ?_⟩
      · rw [upd_ne (ne_of_none e nD)]
        exact sT _ _ (sG _ _ e)
      · rw [upd_same, putK_new, plTo_succ hc]
        rw [plTo_keys i (by omega)]
        intro z
        obtain ⟨y, hy, e⟩ := List.mem_map.mp z
        rw [Sum.inr.inj e] at hy
        have nd := ok.nd
        rw [← List.take_append_drop i cs, List.map_append, drop_of_get hc, List.map_cons, List.nodup_append] at nd
        exact nd.2.2 _ hy _ List.mem_cons_self rfl
    obtain ⟨sG, eP⟩ := h
    rw [List.length_map] at eP
    have nDp : D ≠ p := fun z => by rw [z, hp3] at nD; cases nD
    have hp4 := sG _ _ hp3
    have k4 := k3.trans (But.of sG)
    have F2 : FsOk (putF "_places" (.ref D) fs1) a 2 := F1.put (by decide +kernel) (by decide +kernel)
    have L2p : (putF "_places" (.ref D) fs1).lookup ("_places" : Str) = some (.ref D) := by rw [lookup_putF, if_pos rfl]
    have eP : upd G p (.ins C dx (putF "_places" (.ref D) fs1)) D = some (.dK (plTo cs cs.length)) := by rw [upd_ne nDp]; exact eP
    refine ⟨_, rfl, p, C, dx, fs1, rfl, hp4, B.cl, B.nP, (by have := F1.l; omega), ?_⟩
    have hp5 : upd G p (.ins C dx (putF "_places" (.ref D) fs1)) p = some (.ins C dx (putF "_places" (.ref D) fs1)) := upd_same
    have k5 : But p H (upd G p (.ins C dx (putF "_places" (.ref D) fs1))) := k4.trans But.upd
    generalize upd G p (.ins C dx (putF "_places" (.ref D) fs1)) = G2 at hp5 k5 eP
    generalize putF "_places" (.ref D) fs1 = fs2 at F2 hp5 L2p
    have hC5 := hC.but k5 hp
    clear hp4 k4 sG nD hp3 k3 F1 hC3
    -- _stages
    refine ⟨_, rfl, a, rfl, ⟨_, hC5.1⟩, fun L nL => ?_⟩
    refine lcout_it (walk_tup (K := K) (a := a) (xs := cs.map fun c => V.ref c.a)) (fun i G => Same G2 G ∧ ∃ S : List SP, G L = some (.lst (spV S)) ∧ (∀ t ∈ S, G t.1 = some (.tup [V.str t.2.1, V.int (t.2.2 : Nat)])) ∧ S.length ≤ nStages (cs.take i) ∧ S.map (·.2) = stagesOf (cs.take i)) ⟨same_new nL, [], upd_same, (fun t ht => nomatch ht), Nat.zero_le _, rfl⟩ (fun _ _ _ h => Same.sqT h.1 hC5.1) (fun i x G G' hi h y => ?_) (fun G h => ?_)
    · obtain ⟨rfl, hx⟩ := y
      obtain ⟨c, hc, rfl⟩ := get_map hx
      obtain ⟨sG, S, eG, tS, lS, oS⟩ := h
      have mc := List.mem_of_getElem? hc
      have okc := ok.ok c mc
      have n1 := okc.n1
      have h2 := nStages_le cs (i + 1)
      have h3 := nStages_snoc hc
      have st60 := ok.st
      refine ⟨rfl, _, rfl, c.a, _, _, .int (c.n : Nat), rfl, rfl, ((hC5.2 c mc).mono sG).t, rfl, _, rfl, by omega, by omega, ?_⟩
      refine lcin_it (walk_r0 (n := c.n)) (fun j G3 => Same G2 G3 ∧ ∃ S : List SP, G3 L = some (.lst (spV S)) ∧ (∀ t ∈ S, G3 t.1 = some (.tup [V.str t.2.1, V.int (t.2.2 : Nat)])) ∧ S.length ≤ nStages (cs.take i) + j ∧ S.map (·.2) = stagesOf (cs.take i) ++ (List.range j).map fun k => (c.nm, k)) ⟨sG, S, eG, tS, lS, by rw [oS]; simp⟩ (fun _ _ _ _ => True.intro) (fun j x G3 G4 hj h2 y => ?_) (fun G3 h2 => ?_)
      · obtain ⟨rfl, rfl⟩ := y
        obtain ⟨s3, S, e3, tS, lS, oS⟩ := h2
        refine ⟨rfl, _, rfl, c.a, _, _, .str c.nm, rfl, rfl, ((hC5.2 c mc).mono s3).t, rfl, _, rfl, smallE (by show 2 ≤ 1000000; decide), fun b nb => ?_⟩
        have sb := same_new (o := .tup [V.str c.nm, V.int (j : Nat)]) nb
        have eb : upd G4 b (.tup [V.str c.nm, V.int (j : Nat)]) b = some (.tup [V.str c.nm, V.int (j : Nat)]) := upd_same
        have lb : b ≠ L := fun z => by rw [z, e3] at nb; cases nb
        refine ⟨_, sb _ _ e3, ?_, fun b2 o e => ?_, S ++ [(b, c.nm, j)], ?_, fun t ht => ?_, ?_, by rw [List.map_append, oS, List.range_succ, List.map_append, List.append_assoc]; rfl⟩
        · unfold spV
          rw [List.length_map]
          exact small (by omega)
        · rw [upd_ne (ne_of_none e nL)]
          exact sb _ _ (s3 _ _ e)
        · rw [upd_same]
          unfold spV
          rw [List.map_append]
          rfl
        · rcases List.mem_append.mp ht with z | z
          · rw [upd_ne (fun w => by have := tS t z; rw [w, e3] at this; cases this)]
            exact sb _ _ (tS t z)
          · rw [List.mem_singleton.mp z, upd_ne lb]
            exact eb
        · rw [List.length_append, List.length_singleton]
          omega
      · obtain ⟨s3, S, e3, tS, lS, oS⟩ := h2
        exact ⟨s3, S, e3, tS, by rw [h3]; exact lS, by rw [oS, stagesOf_snoc hc]⟩
    obtain ⟨sG, S, eG, tS, lS, oS⟩ := h
    rw [List.length_map, List.take_of_length_le (Nat.le_refl _)] at oS
    have hz0 : Ka.hzV (S.map spZ) = spV S := by
      unfold Ka.hzV spV
      rw [List.map_map]
      rfl
    refine ⟨L, S.map spZ, rfl, by rw [hz0]; exact sqL_new eG, fun z hz => ?_, fun z hz y hy => ?_, fun z hz => ?_, fun z hz => ?_, fun q1 nq1 => ?_⟩
    · obtain ⟨t, ht, rfl⟩ := List.mem_map.mp hz
      exact .tup (sqT_new (tS t ht)) (.cons (.str _) (.cons (.int _) .nil))
    · obtain ⟨t, ht, rfl⟩ := List.mem_map.mp hz
      obtain ⟨u, hu, rfl⟩ := List.mem_map.mp hy
      simp [spZ, PySem.W.alike, PySem.W.alikeAll]
    · obtain ⟨t, ht, rfl⟩ := List.mem_map.mp hz
      exact ⟨_, _, rfl⟩
    · obtain ⟨t, ht, rfl⟩ := List.mem_map.mp hz
      simp [spZ, PyData.depth, PyData.depthAll]
    have hS2 : Ka.hzV ((S.map spZ).mergeSort Ka.hzLe) = spV (S.mergeSort fun x y => stLe x.2 y.2) := by
      rw [← PySem.W.sort_maps (r := fun x y : SP => stLe x.2 y.2) (s := Ka.hzLe) spZ (l := S) (fun x _ y _ => rfl)]
      unfold Ka.hzV spV
      rw [List.map_map]
      rfl
    have oS2 : (S.mergeSort fun x y => stLe x.2 y.2).map (·.2) = (stagesOf cs).mergeSort stLe := by
      rw [← oS]
      exact PySem.W.sort_maps (fun x : SP => x.2) (fun x _ y _ => rfl)
    have tS2 : ∀ t ∈ S.mergeSort (fun x y => stLe x.2 y.2), G t.1 = some (.tup [V.str t.2.1, V.int (t.2.2 : Nat)]) := fun t ht => tS t (List.mem_mergeSort.mp ht)
    rw [hS2]
    generalize S.mergeSort (fun x y => stLe x.2 y.2) = S2 at oS2 tS2
    have sq := same_new (o := .lst (spV S2)) nq1
    have eq1 : upd G q1 (.lst (spV S2)) q1 = some (.lst (spV S2)) := upd_same
    have tS2 := fun t ht => sq _ _ (tS2 t ht)
    have sG := sG.trans sq
    generalize upd G q1 (.lst (spV S2)) = G3 at sG eq1 tS2
    refine ⟨q1, _, rfl, .inl ⟨sqL_new eq1, fun l nl => ?_⟩⟩
    have sl := same_new (o := .tup (spV S2)) nl
    have sG := sG.trans sl
    have tS2 := fun t ht => sl _ _ (tS2 t ht)
    have eS : upd G3 l (.tup (spV S2)) l = some (.tup (spV S2)) := upd_same
    generalize upd G3 l (.tup (spV S2)) = G4 at sG tS2 eS
    have eP := sG _ _ eP
    have hp6 := sG _ _ hp5
    have k6 := k5.trans (But.of sG)
    have F3 : FsOk (putF "_stages" (.ref l) fs2) a 3 := F2.put (by decide +kernel) (by decide +kernel)
    have L3p : (putF "_stages" (.ref l) fs2).lookup ("_places" : Str) = some (.ref D) := by rw [lookup_putF, if_neg (by decide +kernel)]; exact L2p
    have L3s : (putF "_stages" (.ref l) fs2).lookup ("_stages" : Str) = some (.ref l) := by rw [lookup_putF, if_pos rfl]
    have nP : ∀ {c : Addr} {o : HO}, G4 c = some o → (∀ fs, o ≠ .ins C dx fs) → c ≠ p := fun e h2 z => by
      rw [z, hp6] at e
      exact h2 _ (Option.some.inj e).symm
    have eP : upd G4 p (.ins C dx (putF "_stages" (.ref l) fs2)) D = some (.dK (plTo cs cs.length)) := by rw [upd_ne nDp]; exact eP
    have eS : upd G4 p (.ins C dx (putF "_stages" (.ref l) fs2)) l = some (.tup (spV S2)) := by rw [upd_ne (nP eS fun _ e => by cases e)]; exact eS
    have tS2 : ∀ t ∈ S2, upd G4 p (.ins C dx (putF "_stages" (.ref l) fs2)) t.1 = some (.tup [V.str t.2.1, V.int (t.2.2 : Nat)]) := fun t ht => by rw [upd_ne (nP (tS2 t ht) fun _ e => by cases e)]; exact tS2 t ht
    refine ⟨_, rfl, p, C, dx, fs2, rfl, hp6, B.cl, B.nS, (by have := F2.l; omega), ?_⟩
    have hp7 : upd G4 p (.ins C dx (putF "_stages" (.ref l) fs2)) p = some (.ins C dx (putF "_stages" (.ref l) fs2)) := upd_same
    have k7 : But p H (upd G4 p (.ins C dx (putF "_stages" (.ref l) fs2))) := k6.trans But.upd
    generalize upd G4 p (.ins C dx (putF "_stages" (.ref l) fs2)) = G5 at hp7 k7 eP eS tS2
    generalize putF "_stages" (.ref l) fs2 = fs3 at F3 hp7 L3p L3s
    have hC7 := hC.but k7 hp
    clear nP hp6 k6 sG sq eq1 eG tS hp5 k5 F2 hC5 sl
    -- _ends
    refine ⟨_, rfl, a, rfl, ⟨_, hC7.1⟩, fun D2 nD2 => ?_⟩
    refine out_it (walk_tup (K := K) (a := a) (xs := cs.map fun c => V.ref c.a)) (fun i G => Same G5 G ∧ G D2 = some (.dT (edKV (edKeys (cs.take i)))) ∧ (edKeys (cs.take i)).length ≤ 10000 * i) ⟨same_new nD2, upd_same, Nat.zero_le _⟩ (fun _ _ _ h => Same.sqT h.1 hC7.1) (fun i x G G' hi h y => ?_) (fun G h => ?_)
    · obtain ⟨rfl, hx⟩ := y
      obtain ⟨c, hc, rfl⟩ := get_map hx
      obtain ⟨sG, eG, lG⟩ := h
      have mc := List.mem_of_getElem? hc
      have okc := ok.ok c mc
      have n8 := ok.n8
      have ez := okc.ez
      have hi8 := lt_of_get hc
      have mcG := (hC7.2 c mc).mono sG
      refine ⟨rfl, _, rfl, c.a, _, _, .ref c.ea, rfl, rfl, mcG.t, rfl, c.ea, rfl, ⟨_, mcG.e⟩, ?_⟩
      refine in_it (walk_tup (K := K) (a := c.ea) (xs := natV c.es)) (fun j G6 => Same G5 G6 ∧ G6 D2 = some (.dT (edKV (edKeys (cs.take i) ++ (c.es.take j).map (skey c))))) ⟨sG, by rw [List.take_zero, List.map_nil, List.append_nil]; exact eG⟩ (fun _ _ _ h => Same.sqT h.1 (hC7.2 c mc).e) (fun j x G6 G7 hj h2 y => ?_) (fun G6 h2 => ?_)
      · obtain ⟨rfl, hx⟩ := y
        rw [natV_len] at hj
        obtain ⟨e, he, rfl⟩ := get_map (f := fun (i : Nat) => V.int (i : Int)) hx
        obtain ⟨s6, e6⟩ := h2
        refine ⟨rfl, _, rfl, c.a, _, _, .str c.nm, rfl, rfl, ((hC7.2 c mc).mono s6).t, rfl, _, rfl, smallE (by show 2 ≤ 1000000; decide), fun b nb => ?_⟩
        have sb := same_new (o := .tup [V.str c.nm, V.int (e : Int)]) nb
        have eb : upd G7 b (.tup [V.str c.nm, V.int (e : Int)]) b = some (.tup ((skey c e).map kV)) := upd_same
        refine ⟨_, skey c e, b, rfl, eb, sb _ _ e6, ?_, fun b2 o e => ?_, ?_⟩
        · rw [edKV_len, List.length_append, List.length_map, List.length_take]
          exact small (by omega)
        · rw [upd_ne (ne_of_none e nD2)]
          exact sb _ _ (s6 _ _ e)
        · rw [upd_same, putK_new]
          · rw [take_of_get he, List.map_append, ← List.append_assoc]
            unfold edKV
            rw [List.map_append (l₂ := [e].map (skey c))]
            rfl
          · rw [edKV_keys]
            exact edKey_new ok.nd hc okc.asc he
      · obtain ⟨s6, e6⟩ := h2
        rw [natV_len, List.take_of_length_le (Nat.le_refl _)] at e6
        refine ⟨s6, by rw [edKeys_snoc hc]; exact e6, ?_⟩
        rw [edKeys_snoc hc, List.length_append, List.length_map]
        omega
    obtain ⟨sG, eE, _⟩ := h
    rw [List.length_map, List.take_of_length_le (Nat.le_refl _)] at eE
    have eP := sG _ _ eP
    have eS := sG _ _ eS
    have tS2 := fun t ht => sG _ _ (tS2 t ht)
    have hp8 := sG _ _ hp7
    have k8 := k7.trans (But.of sG)
    have F4 : FsOk (putF "_ends" (.ref D2) fs3) a 4 := F3.put (by decide +kernel) (by decide +kernel)
    have L4p : (putF "_ends" (.ref D2) fs3).lookup ("_places" : Str) = some (.ref D) := by rw [lookup_putF, if_neg (by decide +kernel)]; exact L3p
    have L4s : (putF "_ends" (.ref D2) fs3).lookup ("_stages" : Str) = some (.ref l) := by rw [lookup_putF, if_neg (by decide +kernel)]; exact L3s
    have L4e : (putF "_ends" (.ref D2) fs3).lookup ("_ends" : Str) = some (.ref D2) := by rw [lookup_putF, if_pos rfl]
    have nP : ∀ {c : Addr} {o : HO}, G c = some o → (∀ fs, o ≠ .ins C dx fs) → c ≠ p := fun e h2 z => by
      rw [z, hp8] at e
      exact h2 _ (Option.some.inj e).symm
    have eP : upd G p (.ins C dx (putF "_ends" (.ref D2) fs3)) D = some (.dK (plTo cs cs.length)) := by rw [upd_ne nDp]; exact eP
    have eS : upd G p (.ins C dx (putF "_ends" (.ref D2) fs3)) l = some (.tup (spV S2)) := by rw [upd_ne (nP eS fun _ e => by cases e)]; exact eS
    have tS2 : ∀ t ∈ S2, upd G p (.ins C dx (putF "_ends" (.ref D2) fs3)) t.1 = some (.tup [V.str t.2.1, V.int (t.2.2 : Nat)]) := fun t ht => by rw [upd_ne (nP (tS2 t ht) fun _ e => by cases e)]; exact tS2 t ht
    have eE : upd G p (.ins C dx (putF "_ends" (.ref D2) fs3)) D2 = some (.dT (edKV (edKeys cs))) := by rw [upd_ne (nP eE fun _ e => by cases e)]; exact eE
    refine ⟨_, rfl, p, C, dx, fs3, rfl, hp8, B.cl, B.nE, (by have := F3.l; omega), ?_⟩
    have hp9 : upd G p (.ins C dx (putF "_ends" (.ref D2) fs3)) p = some (.ins C dx (putF "_ends" (.ref D2) fs3)) := upd_same
    have k9 : But p H (upd G p (.ins C dx (putF "_ends" (.ref D2) fs3))) := k8.trans But.upd
    generalize upd G p (.ins C dx (putF "_ends" (.ref D2) fs3)) = G8 at hp9 k9 eP eS tS2 eE
    generalize putF "_ends" (.ref D2) fs3 = fs4 at F4 hp9 L4p L4s L4e
    have hC9 := hC.but k9 hp
    -- _leaving
    refine ⟨_, rfl, a, cs, rfl, hC9, ok, fun G9 l2 s9 nl2 lv => ?_⟩
    have F5 : FsOk (putF "_leaving" (.ref l2) fs4) a 5 := F4.put (by decide +kernel) (by decide +kernel)
    have hpA := s9 _ _ hp9
    refine ⟨_, rfl, p, C, dx, fs4, rfl, hpA, B.cl, B.nL, (by have := F4.l; omega), ?_⟩
    have k10 : But p H (upd G9 p (.ins C dx (putF "_leaving" (.ref l2) fs4))) := (k9.trans (But.of s9)).trans But.upd
    have nP : ∀ {c : Addr} {o : HO}, G9 c = some o → (∀ fs, o ≠ .ins C dx fs) → upd G9 p (.ins C dx (putF "_leaving" (.ref l2) fs4)) c = some o := fun {c o} e h2 => by
      rw [upd_ne]
      · exact e
      · intro z
        rw [z, hpA] at e
        exact h2 _ (Option.some.inj e).symm
    refine q _ k10 ⟨dx, _, D, l, D2, l2, S2, upd_same, ⟨F5.c, by rw [lookup_putF, if_neg (by decide +kernel)]; exact L4p, by rw [lookup_putF, if_neg (by decide +kernel)]; exact L4s, by rw [lookup_putF, if_neg (by decide +kernel)]; exact L4e, by rw [lookup_putF, if_pos rfl], F5.d⟩, hC.but k10 hp, ok, nP (s9 _ _ eP) (fun _ e => by cases e), nP (s9 _ _ eS) (fun _ e => by cases e), fun t ht => nP (s9 _ _ (tS2 t ht)) (fun _ e => by cases e), oS2, nP (s9 _ _ eE) (fun _ e => by cases e), ?_⟩
    obtain ⟨M, m1, m2, m3, m4⟩ := lv
    exact ⟨M, nP m1 (fun _ e => by cases e), m2, fun t ht => nP (m3 t ht) (fun _ e => by cases e), m4⟩
/-- the deeds of a book -/
def spBkDeeds (K : PySem.W.Frag) (C : Addr) : Sp := fun vs H Q _ => ∃ (p a : Addr) (cs : List CA), vs = [.ref p] ∧ BookAt K C H p a cs ∧ ∀ H' q ds, Same H H' → H q = none → H' q = some (.tup (ds.map V.str)) → ds.Perm (uniq (dns cs)) → sortedS ds = true → Q (.ref q) H'
abbrev nBd : List Str := ["self"]
theorem scBd : FnScope nBd ["self"] (defScope sBkDeeds) := ⟨rfl, rfl, rfl, by decide +kernel, rfl, by decide +kernel, by decide +kernel⟩
theorem ok_bkdeeds {f C fI : Addr} {fd fdI : FuncData} (F : Fun K "deeds" "Book.deeds" sBkDeeds f fd) (N : Nones mg) (B : BkC K mg C) (G_deeds_in : FnOk P w K mg base CX0 1 fI fdI ["courses"] (spDeedsIn K)) (C_deeds_in : CallC K mg "deeds_in" ["courses"] fI fdI) : FnOk P w K mg base CX0 2 f fd ["self"] (spBkDeeds K C) := by
  refine F.ok scBd (fun vs H Q E h => ?_) (fun cdv A outer s H vs Q E hr h => ?_)
  · obtain ⟨p, a, cs, rfl, _⟩ := h
    rfl
  · obtain ⟨p, a, cs, rfl, ⟨dx, fs, _, _, _, _, _, hp, ⟨hc, _, _, _, _, _⟩, hC, ok, _⟩, q⟩ := h
    refine ⟨_, pss_one (ps_ret (pe_callTy call_tuple_of (by rfl) N.tuple (by decide +kernel) (pa_cons (pe_callB (call_sortedD rfl) (by rfl) N.sorted (by decide +kernel) (pa_cons (pe_call G_deeds_in (hr.mono (by decide)) (by rfl) C_deeds_in.g C_deeds_in.kp C_deeds_in.b .nil pass0 (pa_cons (pe_fld (pv 0) rfl) pa_nil)) pa_nil)) pa_nil))), ?_⟩
    refine ⟨_, rfl, p, C, dx, fs, .ref a, rfl, hp, B.cl, B.nC, hc, a, cs, rfl, hC, ok.dz, fun H1 D s1 nD eD => ?_⟩
    refine ⟨D, _, uniq (dns cs), rfl, .inl eD, deedKV_keys _, by have := ok.d12; omega, fun ys l hperm hs nl => ?_⟩
    have s2 := same_new (o := .lst (ys.map V.str)) nl
    refine ⟨l, _, rfl, .inl ⟨sqL_new upd_same, fun t nt => ?_⟩⟩
    exact q _ t ys ((s1.trans s2).trans (same_new nt)) ((s1.trans s2).free nt) upd_same hperm hs
end
end Kb
namespace Kb
open PySem PySem.Spec PyProof.Rows L2
/-! ### a book's own: ends, steps, steps_from, is_end, stages, main -/
abbrev Stg := Str × Nat
def stK (x : Stg) : List L2.Key := [.inr x.1, .inl (x.2 : Int)]
def stV (x : Stg) : List V := [.str x.1, .int (x.2 : Int)]
theorem stKV (x : Stg) : (stK x).map kV = stV x := rfl
theorem stK_inj {x y : Stg} (h : stK x = stK y) : x = y := by
  unfold stK at h
  injection h with h1 h
  injection h with h2 h
  have h1 := Sum.inr.inj h1
  have h2 := Sum.inl.inj h2
  have h2 : (x.2 : Int) = (y.2 : Int) := h2
  exact Prod.ext h1 (by omega)
theorem valV_has {κ : Type} [DecidableEq κ] : ∀ (kvs : List (κ × V)) (k : κ), (valV kvs k).isSome = decide (k ∈ kvs.map (·.1))
  | [], _ => rfl
  | p :: r, k => by
    by_cases h : p.1 = k
    · rw [valV_pos h]
      simp [h]
    · rw [valV_neg h, valV_has r k]
      have : (k ∈ (p :: r).map (·.1)) ↔ k ∈ r.map (·.1) := by
        rw [List.map_cons, List.mem_cons]
        exact ⟨fun z => z.elim (fun e => absurd e.symm h) id, .inr⟩
      exact decide_eq_decide.mpr this.symm
theorem same_course {cs : List CA} (nd : (cs.map (·.nm)).Nodup) {c c' : CA} (h : c ∈ cs) (h' : c' ∈ cs) (e : c.nm = c'.nm) : c = c' := inj_of_nd nd h h' e
theorem edKeys_mem {cs : List CA} (nd : (cs.map (·.nm)).Nodup) {c : CA} (h : c ∈ cs) (k : Nat) : skey c k ∈ edKeys cs ↔ k ∈ c.es := by
  unfold edKeys
  rw [List.mem_flatMap]
  constructor
  · rintro ⟨c', h', hk⟩
    obtain ⟨e, he, e2⟩ := List.mem_map.mp hk
    obtain ⟨n1, n2⟩ := skey_inj e2
    have := same_course nd h' h n1
    subst this
    rw [← n2]
    exact he
  · exact fun hk => ⟨c, h, List.mem_map.mpr ⟨k, hk, rfl⟩⟩
theorem pl_at {cs : List CA} (nd : (cs.map (·.nm)).Nodup) {i : Nat} {c : CA} (h : cs[i]? = some c) : valV (plTo cs cs.length) (Sum.inr c.nm : L2.Key) = some (.int (i : Int)) := by
  refine valV_mem ?_ ?_
  · rw [plTo_keys _ (Nat.le_refl _), List.take_length]
    unfold List.Nodup at nd ⊢
    rw [List.pairwise_map]
    exact nd.imp fun ne e => ne (Sum.inr.inj e)
  · unfold plTo
    exact List.mem_map.mpr ⟨i, List.mem_range.mpr (lt_of_get h), by rw [h]; rfl⟩
section
variable {P : Program} {w : World} {K : PySem.W.Frag} {mg : Str → Option Value} {base : Heap}
def spBkSteps (K : PySem.W.Frag) (C : Addr) : Sp := fun vs H Q _ => ∃ (p a : Addr) (cs : List CA) (c : CA), vs = [.ref p, .str c.nm] ∧ BookAt K C H p a cs ∧ c ∈ cs ∧ Q (.ref c.sa) H
abbrev nBs : List Str := ["self", "course"]
theorem scBs : FnScope nBs ["self", "course"] (defScope sBkSteps) := ⟨rfl, rfl, rfl, by decide +kernel, rfl, by decide +kernel, by decide +kernel⟩
theorem ok_bksteps {f C : Addr} {fd : FuncData} (F : Fun K "steps" "Book.steps" sBkSteps f fd) (B : BkC K mg C) : FnOk P w K mg base CX0 1 f fd ["self", "course"] (spBkSteps K C) := by
  refine F.ok scBs (fun vs H Q E h => ?_) (fun cdv A outer s H vs Q E hr h => ?_)
  · obtain ⟨p, a, cs, c, rfl, _⟩ := h
    rfl
  · obtain ⟨p, a, cs, c, rfl, ⟨dx, fs, P1, S1, E1, L1, S, hp, L, hC, ok, eP, _⟩, mc, q⟩ := h
    refine ⟨_, pss_one (ps_ret (pe_ix ix_tup (pe_ix ix_tup (pe_fld (pv 0) rfl) (pe_dget (hu_of hr) (pe_fld (pv 0) rfl) (pv 1) (fun _ _ => rfl)) (fun _ _ => rfl)) pe_int (fun _ _ => rfl))), ?_⟩
    obtain ⟨i, hi⟩ := List.getElem?_of_mem mc
    have g1 : DGet H P1 (.str c.nm) (some (.int (i : Int))) := by
      have := DGet.k (k := Sum.inr c.nm) eP
      rw [pl_at ok.nd hi] at this
      exact this
    have hic : (cs.map fun c => V.ref c.a)[i]? = some (.ref c.a) := by rw [List.getElem?_map, hi]; rfl
    exact ⟨_, rfl, p, C, dx, fs, .ref a, rfl, hp, B.cl, B.nC, L.c, _, rfl, p, C, dx, fs, .ref P1, rfl, hp, B.cl, B.nP, L.p, _, rfl, P1, .int (i : Int), rfl, g1, a, _, _, .ref c.a, rfl, rfl, hC.1, atI_nat hic, c.a, _, _, .ref c.sa, rfl, rfl, (hC.2 c mc).t, rfl, q⟩
def spBkEnds (K : PySem.W.Frag) (C : Addr) : Sp := fun vs H Q _ => ∃ (p a : Addr) (cs : List CA) (c : CA), vs = [.ref p, .str c.nm] ∧ BookAt K C H p a cs ∧ c ∈ cs ∧ Q (.ref c.ea) H
abbrev nBe : List Str := ["self", "course"]
def spBkFrom (K : PySem.W.Frag) (C : Addr) : Sp := fun vs H Q _ => ∃ (p a b : Addr) (cs : List CA) (c : CA) (k : Nat), vs = [.ref p, .ref b] ∧ BookAt K C H p a cs ∧ c ∈ cs ∧ k < c.n ∧ H b = some (.tup (stV (c.nm, k))) ∧ ∀ q, H q = some (.tup (natV (offs c k))) → Q (.ref q) H
abbrev nBf : List Str := ["self", "stage"]
def spBkIsEnd (K : PySem.W.Frag) (C : Addr) : Sp := fun vs H Q _ => ∃ (p a b : Addr) (cs : List CA) (c : CA) (k : Nat), vs = [.ref p, .ref b] ∧ BookAt K C H p a cs ∧ c ∈ cs ∧ H b = some (.tup (stV (c.nm, k))) ∧ Q (.bl (decide (k ∈ c.es))) H
abbrev nBx2 : List Str := ["self", "stage"]
theorem scBx2 : FnScope nBx2 ["self", "stage"] (defScope sBkIsEnd) := ⟨rfl, rfl, rfl, by decide +kernel, rfl, by decide +kernel, by decide +kernel⟩
theorem ok_bkisend {f C : Addr} {fd : FuncData} (F : Fun K "is_end" "Book.is_end" sBkIsEnd f fd) (B : BkC K mg C) : FnOk P w K mg base CX0 1 f fd ["self", "stage"] (spBkIsEnd K C) := by
  refine F.ok scBx2 (fun vs H Q E h => ?_) (fun cdv A outer s H vs Q E hr h => ?_)
  · obtain ⟨p, a, b, cs, c, k, rfl, _⟩ := h
    rfl
  · obtain ⟨p, a, b, cs, c, k, rfl, ⟨dx, fs, P1, S1, E1, L1, S, hp, L, hC, ok, _, _, _, _, eE, _⟩, mc, hb, q⟩ := h
    refine ⟨_, pss_one (ps_ret (pe_cmp (pc_din (hu_of hr) (pv 1) (pe_fld (pv 0) rfl)) rfl)), ?_⟩
    refine ⟨_, rfl, _, rfl, p, C, dx, fs, .ref E1, rfl, hp, B.cl, B.nE, L.e, E1, _, rfl, DGet.t eE (k := stK (c.nm, k)) hb, ?_⟩
    have : (valV (edKV (edKeys cs)) (stK (c.nm, k))).isSome = decide (k ∈ c.es) := by
      rw [valV_has, edKV_keys]
      exact decide_eq_decide.mpr (edKeys_mem ok.nd mc k)
    rw [this]
    exact q
end
end Kb
namespace Kb
open PySem PySem.Spec PyProof.Rows L2
/-! ### parts_of, steps_out, all_in, plain, joined_row -/
def partsS (nm : Str) (s : Stp) : List Stg := if s.call = true then [(s.nm, 0), (nm, s.o)] else [(nm, s.o)]
/-- stages where they stand -/
def PtsAt (H : Hp) (q : Addr) (xs : List Stg) : Prop := ∃ L : List (Addr × Stg), H q = some (.tup (L.map fun t => V.ref t.1)) ∧ L.map (·.2) = xs ∧ ∀ t ∈ L, H t.1 = some (.tup (stV t.2))
theorem PtsAt.mono {H H' : Hp} {q : Addr} {xs : List Stg} (s : Same H H') (h : PtsAt H q xs) : PtsAt H' q xs := by
  obtain ⟨L, h1, h2, h3⟩ := h
  exact ⟨L, s _ _ h1, h2, fun t ht => s _ _ (h3 t ht)⟩
theorem kind_do (c : Bool) : decide (V.str (kindS c) = V.str (Str.ofString "do")) = !c := by
  cases c <;> decide +kernel
section
variable {P : Program} {w : World} {K : PySem.W.Frag} {mg : Str → Option Value} {base : Heap}
def spPartsOf : Sp := fun vs H Q _ => ∃ (b : Addr) (nm : Str) (s : Stp), vs = [.str nm, .ref b] ∧ H b = some (.tup (stpV s)) ∧ ∀ H' q, Same H H' → H q = none → PtsAt H' q (partsS nm s) → Q (.ref q) H'
abbrev nPf : List Str := ["course", "step", "_", "kind", "name", "onto"]
theorem scPf : FnScope nPf ["course", "step"] (defScope sPartsOf) := ⟨rfl, rfl, rfl, by decide +kernel, rfl, by decide +kernel, by decide +kernel⟩
theorem ok_partsof {f : Addr} {fd : FuncData} (F : Fun K "parts_of" "parts_of" sPartsOf f fd) : FnOk P w K mg base CX0 1 f fd ["course", "step"] spPartsOf := by
  refine F.ok scPf (fun vs H Q E h => ?_) (fun cdv A outer s H vs Q E hr h => ?_)
  · obtain ⟨b, nm, s, rfl, _⟩ := h
    rfl
  · obtain ⟨b, nm, s, rfl, hb, q⟩ := h
    refine ⟨_, pss_cons (ps_asg (pv 1) (pg_tup rfl (pgs_cons (pg_name (i := 2) scPf.nd rfl (Or.inl rfl)) (pgs_cons (pg_name (i := 3) scPf.nd rfl (Or.inl rfl)) (pgs_cons (pg_name (i := 4) scPf.nd rfl (Or.inl rfl)) (pgs_cons (pg_name (i := 5) scPf.nd rfl (Or.inl rfl)) pgs_nil))))))
      (pss_cons (ps_if (pt_cmpR op_eq (pv 3) pe_str (nomark _)) (pss_one (ps_ret (pe_tup (pa_cons (pe_tup (pa_cons (pv 0) (pa_cons (pv 5) pa_nil))) pa_nil)))) pss_nil)
      (pss_one (ps_ret (pe_tup (pa_cons (pe_tup (pa_cons (pv 4) (pa_cons pe_int pa_nil))) (pa_cons (pe_tup (pa_cons (pv 0) (pa_cons (pv 5) pa_nil))) pa_nil)))))), ?_⟩
    refine ⟨_, rfl, b, _, rfl, sqT_new hb, rfl, _, _, rfl, _, _, rfl, _, _, rfl, _, _, rfl, rfl, ?_⟩
    refine ⟨_, rfl, rfl, _, rfl, ?_⟩
    rw [kind_do]
    cases hc : s.call with
    | false =>
      refine iteYes rfl ?_
      refine ⟨.str nm, rfl, .int (s.o : Int), rfl, smallE (by show 2 ≤ 1000000; decide), fun e1 n1 => ⟨smallE (by show 1 ≤ 1000000; decide), fun e2 n2 => ?_⟩⟩
      have s1 := same_new (o := .tup [V.str nm, V.int (s.o : Int)]) n1
      have s2 := same_new (o := .tup [V.ref e1]) n2
      refine q _ e2 (s1.trans s2) (s1.free n2) ⟨[(e1, nm, s.o)], upd_same, by rw [partsS, hc]; rfl, fun t ht => ?_⟩
      rw [List.mem_singleton.mp ht]
      exact s2 _ _ upd_same
    | true =>
      refine iteNo rfl ?_
      refine ⟨.str s.nm, rfl, smallE (by show 2 ≤ 1000000; decide), fun e1 n1 => ⟨.str nm, rfl, .int (s.o : Int), rfl, smallE (by show 2 ≤ 1000000; decide), fun e2 n2 => ⟨smallE (by show 2 ≤ 1000000; decide), fun e3 n3 => ?_⟩⟩⟩
      have s1 := same_new (o := .tup [V.str s.nm, V.int 0]) n1
      have s2 := same_new (o := .tup [V.str nm, V.int (s.o : Int)]) n2
      have s3 := same_new (o := .tup [V.ref e1, V.ref e2]) n3
      refine q _ e3 ((s1.trans s2).trans s3) ((s1.trans s2).free n3) ⟨[(e1, s.nm, 0), (e2, nm, s.o)], upd_same, by rw [partsS, hc]; rfl, fun t ht => ?_⟩
      rcases List.mem_cons.mp ht with e | ht
      · rw [e]
        exact s3 _ _ (s2 _ _ upd_same)
      · rw [List.mem_singleton.mp ht]
        exact s3 _ _ upd_same
/-- the steps that leave a stage, each with its parts -/
abbrev SO := Addr × Nat × Addr
def OutAt (H : Hp) (l : Addr) (c : CA) (k : Nat) : Prop := ∃ L : List SO, H l = some (.lst (L.map fun t => V.ref t.1)) ∧ L.map (·.2.1) = offs c k ∧ ∀ t ∈ L, H t.1 = some (.tup [.int (t.2.1 : Int), .ref t.2.2]) ∧ ∀ s, c.ss[t.2.1]? = some s → PtsAt H t.2.2 (partsS c.nm s.2)
theorem OutAt.mono {H H' : Hp} {l : Addr} {c : CA} {k : Nat} (s : Same H H') (h : OutAt H l c k) : OutAt H' l c k := by
  obtain ⟨L, h1, h2, h3⟩ := h
  exact ⟨L, s _ _ h1, h2, fun t ht => ⟨s _ _ (h3 t ht).1, fun x hx => ((h3 t ht).2 x hx).mono s⟩⟩
theorem offs_lt {c : CA} {k i : Nat} (h : i ∈ offs c k) : ∃ s, c.ss[i]? = some s ∧ s.2.n = k := by
  have h := (List.mem_filter.mp h).2
  have h := of_decide_eq_true h
  cases e : c.ss[i]? with
  | none =>
    rw [e] at h
    cases h
  | some s =>
    rw [e] at h
    exact ⟨s, rfl, Option.some.inj h⟩
theorem offs_len (c : CA) (k : Nat) : (offs c k).length ≤ c.ss.length := by
  have := List.length_filter_le (fun i => decide ((c.ss[i]?).map (·.2.n) = some k)) (List.range c.ss.length)
  rwa [List.length_range] at this
def spAllIn (K : PySem.W.Frag) : Sp := fun vs H Q _ => ∃ (q d : Addr) (xs : List Stg) (kvs : List (List L2.Key × V)), vs = [.ref q, .ref d] ∧ PtsAt H q xs ∧ xs.length ≤ 100000 ∧ Rd H d (.dT kvs) ∧ ∀ H', Same H H' → Q (.bl (xs.all fun x => (valV kvs (stK x)).isSome)) H'
abbrev nAi : List Str := ["parts", "table", "part"]
theorem scAi : FnScope nAi ["parts", "table"] (defScope sAllIn) := ⟨rfl, rfl, rfl, by decide +kernel, rfl, by decide +kernel, by decide +kernel⟩
theorem ok_allin {f : Addr} {fd : FuncData} (F : Fun K "all_in" "all_in" sAllIn f fd) (N : Nones mg) : FnOk P w K mg base CX0 1 f fd ["parts", "table"] (spAllIn K) := by
  refine F.ok scAi (fun vs H Q E h => ?_) (fun cdv A outer s H vs Q E hr h => ?_)
  · obtain ⟨q, d, xs, kvs, rfl, _⟩ := h
    rfl
  · obtain ⟨q, d, xs, kvs, rfl, ⟨L, h1, rfl, h3⟩, hl, hd, fin⟩ := h
    rw [List.length_map] at hl
    refine ⟨_, pss_one (ps_ret (pe_callB (cr_all rfl) (by rfl) N.all (by decide +kernel) (pa_cons (pe_lc (own := [("part", 2)]) (g := gName 2) (tt := tYes) rfl scAi.nd (pi_tup (pv 0)) (blkOk_by (own := [("part", 2)]) (N := nAi) (sc := defScope sAllIn) (by decide +kernel)) (fun _ _ _ _ _ => (pg_name (i := 2) scAi.nd rfl (Or.inl rfl))) (fun _ _ _ _ _ => pts_nil) (fun _ _ _ _ _ => (pe_cmp (pc_din (hu_of hr) (pv 2) (pv 1)) rfl))) pa_nil))), ?_⟩
    refine ⟨_, rfl, q, rfl, ⟨_, sqT_new h1⟩, fun D nD => ?_⟩
    refine lc_pure (walk_tup (K := K) (a := q) (xs := L.map fun t => V.ref t.1)) ((L.map fun t => (valV kvs (stK t.2)).isSome).map V.bl) (by rw [List.length_map, List.length_map, List.length_map]) nD (fun _ s => sqT_new (s _ _ h1)) (fun i x H0 H' hi h0 y => ?_) (fun H' s' e => ?_)
    · obtain ⟨rfl, hy⟩ := y
      obtain ⟨t, ht, rfl⟩ := get_map hy
      have g : DGet H' d (.ref t.1) (valV kvs (stK t.2)) := .inr ⟨kvs, stK t.2, t.1, (by rcases hd with hd | ⟨o, hd⟩; exact .inl (h0.1 _ _ hd); exact .inr ⟨o, h0.1 _ _ hd⟩), rfl, h0.1 _ _ (h3 t (List.mem_of_getElem? ht)), rfl⟩
      refine ⟨rfl, _, rfl, _, rfl, d, _, rfl, g, ?_⟩
      refine h0.put nD (fun _ _ e => e) ?_ (by rw [List.length_map, List.length_map]; omega)
      rw [List.getElem?_map, List.getElem?_map, ht]
      rfl
    · refine ⟨D, _, rfl, sqL_new e, ?_⟩
      have : (L.map fun t => (valV kvs (stK t.2)).isSome).all id = (L.map (·.2)).all fun x => (valV kvs (stK x)).isSome := by
        rw [List.all_map, List.all_map]
        rfl
      rw [this]
      exact fin H' s'
end
end Kb
namespace Kb
open PySem PySem.Spec PyProof.Rows L2
/-! ### a book's stages and names -/
/-- the stages in their order -/
def stagesS (cs : List CA) : List Stg := (stagesOf cs).mergeSort stLe
theorem mem_stagesS {cs : List CA} {x : Stg} : x ∈ stagesS cs ↔ ∃ c ∈ cs, x.1 = c.nm ∧ x.2 < c.n := by
  unfold stagesS
  rw [(List.mergeSort_perm _ _).mem_iff]
  unfold stagesOf
  rw [List.mem_flatMap]
  constructor
  · rintro ⟨c, h, h2⟩
    obtain ⟨k, hk, rfl⟩ := List.mem_map.mp h2
    exact ⟨c, h, rfl, List.mem_range.mp hk⟩
  · rintro ⟨c, h, e, hk⟩
    exact ⟨c, h, List.mem_map.mpr ⟨x.2, List.mem_range.mpr hk, by rw [← e]⟩⟩
theorem stagesOf_keys (cs : List CA) : (stagesOf cs).map stK = keysOf cs := by
  unfold stagesOf keysOf
  rw [List.map_flatMap]
  congr 1
  funext c
  unfold keysC
  rw [List.map_map]
  rfl
theorem stagesOf_len (cs : List CA) : (stagesOf cs).length = nStages cs := by
  rw [← keysOf_len, ← stagesOf_keys, List.length_map]
theorem stagesS_len (cs : List CA) : (stagesS cs).length = nStages cs := by
  unfold stagesS
  rw [(List.mergeSort_perm _ _).length_eq, stagesOf_len]
theorem stagesS_nd {cs : List CA} (nd : (cs.map (·.nm)).Nodup) : (stagesS cs).Nodup := by
  unfold stagesS
  refine (List.mergeSort_perm _ _).nodup_iff.mpr ?_
  have h := keys_nd nd cs.length (Nat.le_refl _)
  rw [List.take_length, ← stagesOf_keys] at h
  unfold List.Nodup at *
  rw [List.pairwise_map] at h
  exact h.imp fun ne e => ne (by rw [e])
theorem stK_nd {l : List Stg} (h : l.Nodup) : (l.map stK).Nodup := by
  unfold List.Nodup at *
  rw [List.pairwise_map]
  exact h.imp fun ne e => ne (stK_inj e)
/-- the parts of a step are stages -/
theorem parts_stage {cs : List CA} (ok : CsOk cs) {c : CA} (hc : c ∈ cs) {p : Addr × Stp} (hp : p ∈ c.ss) {x : Stg} (h : x ∈ partsS c.nm p.2) : x ∈ stagesS cs := by
  have own : (c.nm, p.2.o) ∈ stagesS cs := mem_stagesS.mpr ⟨c, hc, rfl, ((ok.ok c hc).sl p hp).2.1⟩
  unfold partsS at h
  split at h
  · rename_i e
    rcases List.mem_cons.mp h with z | z
    · have : p.2.nm ∈ calls c.ss := List.mem_map.mpr ⟨p, List.mem_filter.mpr ⟨hp, e⟩, rfl⟩
      obtain ⟨c', h1, h2⟩ := List.mem_map.mp (ok.cl c hc _ this)
      rw [z]
      exact mem_stagesS.mpr ⟨c', h1, h2.symm, (ok.ok c' h1).n0⟩
    · rw [List.mem_singleton.mp z]
      exact own
  · rw [List.mem_singleton.mp h]
    exact own
section
variable {P : Program} {w : World} {K : PySem.W.Frag} {mg : Str → Option Value} {base : Heap}
/-- the stages of a book where they stand -/
def spBkStages (K : PySem.W.Frag) (C : Addr) : Sp := fun vs H Q _ => ∃ (p a : Addr) (cs : List CA), vs = [.ref p] ∧ BookAt K C H p a cs ∧ ∀ q, PtsAt H q (stagesS cs) → Q (.ref q) H
abbrev nBt : List Str := ["self"]
theorem scBt : FnScope nBt ["self"] (defScope sBkStages) := ⟨rfl, rfl, rfl, by decide +kernel, rfl, by decide +kernel, by decide +kernel⟩
theorem ok_bkstages {f C : Addr} {fd : FuncData} (F : Fun K "stages" "Book.stages" sBkStages f fd) (B : BkC K mg C) : FnOk P w K mg base CX0 1 f fd ["self"] (spBkStages K C) := by
  refine F.ok scBt (fun vs H Q E h => ?_) (fun cdv A outer s H vs Q E hr h => ?_)
  · obtain ⟨p, a, cs, rfl, _⟩ := h
    rfl
  · obtain ⟨p, a, cs, rfl, ⟨dx, fs, P1, S1, E1, L1, S, hp, L, hC, ok, eP, eS, hS, oS, _⟩, q⟩ := h
    refine ⟨_, pss_one (ps_ret (pe_fld (pv 0) rfl)), ?_⟩
    exact ⟨_, rfl, p, C, dx, fs, .ref S1, rfl, hp, B.cl, B.nS, L.s, q S1 ⟨S, eS, oS, fun t ht => hS t ht⟩⟩
def spBkNames (K : PySem.W.Frag) (C : Addr) : Sp := fun vs H Q _ => ∃ (p a : Addr) (cs : List CA), vs = [.ref p] ∧ BookAt K C H p a cs ∧ ∀ H' q, Same H H' → H q = none → H' q = some (.tup (cs.map fun c => V.str c.nm)) → Q (.ref q) H'
abbrev nBn : List Str := ["self", "course"]
theorem scBn : FnScope nBn ["self"] (defScope sBkNames) := ⟨rfl, rfl, rfl, by decide +kernel, rfl, by decide +kernel, by decide +kernel⟩
theorem ok_bknames {f C : Addr} {fd : FuncData} (F : Fun K "names" "Book.names" sBkNames f fd) (N : Nones mg) (B : BkC K mg C) : FnOk P w K mg base CX0 1 f fd ["self"] (spBkNames K C) := by
  refine F.ok scBn (fun vs H Q E h => ?_) (fun cdv A outer s H vs Q E hr h => ?_)
  · obtain ⟨p, a, cs, rfl, _⟩ := h
    rfl
  · obtain ⟨p, a, cs, rfl, ⟨dx, fs, P1, S1, E1, L1, S, hp, L, hC, ok, _⟩, q⟩ := h
    refine ⟨_, pss_one (ps_ret (pe_callTy call_tuple_of (by rfl) N.tuple (by decide +kernel) (pa_cons (pe_lc (own := [("course", 1)]) (g := gName 1) (tt := tYes) rfl scBn.nd (pi_tup (pe_fld (pv 0) rfl)) (blkOk_by (own := [("course", 1)]) (N := nBn) (sc := defScope sBkNames) (by decide +kernel)) (fun _ _ _ _ _ => (pg_name (i := 1) scBn.nd rfl (Or.inl rfl))) (fun _ _ _ _ _ => pts_nil) (fun _ _ _ _ _ => (pe_ix (ixT_at (K := K) rfl) (pv 1) pe_int (fun _ _ => rfl)))) pa_nil))), ?_⟩
    refine ⟨_, rfl, p, C, dx, fs, .ref a, rfl, hp, B.cl, B.nC, L.c, a, rfl, ⟨_, hC.1⟩, fun D nD => ?_⟩
    refine lc_pure (walk_tup (K := K) (a := a) (xs := cs.map fun c => V.ref c.a)) (cs.map fun c => V.str c.nm) (by rw [List.length_map, List.length_map]) nD (fun _ s => Same.sqT s hC.1) (fun i x H0 H' hi h0 y => ?_) (fun H' s' e => ?_)
    · obtain ⟨rfl, hy⟩ := y
      obtain ⟨c, hc, rfl⟩ := get_map hy
      have n8 := ok.n8
      have hCc := (hC.2 c (List.mem_of_getElem? hc)).mono h0.1
      refine ⟨rfl, _, rfl, c.a, _, _, .str c.nm, rfl, rfl, hCc.t, rfl, ?_⟩
      refine h0.put nD (fun _ _ e => e) ?_ (by rw [List.length_map]; omega)
      rw [List.getElem?_map, hc]
      rfl
    · refine ⟨D, _, rfl, .inl ⟨sqL_new e, fun l nl => ?_⟩⟩
      exact q _ l (s'.trans (same_new nl)) (s'.free nl) upd_same
end
end Kb
namespace Kb
open PySem PySem.Spec PyProof.Rows L2
/-! ### texts and places, as a table -/
abbrev SA := Str × Addr
def saKV (T : List SA) : List (L2.Key × V) := T.map fun t => (Sum.inr t.1, V.ref t.2)
theorem saKV_keys (T : List SA) : (saKV T).map (·.1) = (T.map (·.1)).map Sum.inr := by
  unfold saKV
  rw [List.map_map, List.map_map]
  rfl
theorem nd_map {α β : Type} {f : α → β} (inj : ∀ a b, f a = f b → a = b) {l : List α} (h : l.Nodup) : (l.map f).Nodup := by
  unfold List.Nodup at h ⊢
  rw [List.pairwise_map]
  exact h.imp fun ne e => ne (inj _ _ e)
theorem saKV_len (T : List SA) : (saKV T).length = T.length := List.length_map _
theorem sa_get {T : List SA} (nd : (T.map (·.1)).Nodup) {t : SA} (h : t ∈ T) : valV (saKV T) (Sum.inr t.1 : L2.Key) = some (.ref t.2) := valV_mem (by
  rw [saKV_keys]
  exact nd_map (fun a b e => Sum.inr.inj e) nd) (List.mem_map.mpr ⟨t, h, rfl⟩)
end Kb
namespace Kb
open PySem PySem.Spec PyProof.Rows L2
/-! ### plain, joined_row -/
def PlnAt (H : Hp) (q : Addr) (ds : List Str) : Prop := ∃ L : List SA, H q = some (.dK (saKV L)) ∧ L.map (·.1) = ds ∧ ∀ t ∈ L, H t.2 = some (.tup [V.str t.1])
theorem PlnAt.mono {H H' : Hp} {q : Addr} {ds : List Str} (s : Same H H') (h : PlnAt H q ds) : PlnAt H' q ds := by
  obtain ⟨L, h1, h2, h3⟩ := h
  exact ⟨L, s _ _ h1, h2, fun t ht => s _ _ (h3 t ht)⟩
/-- rows by their stages -/
abbrev RA := Stg × Addr × List Str
def rowKV (R : List RA) : List (List L2.Key × V) := R.map fun t => (stK t.1, V.ref t.2.1)
structure RowsAt (K : PySem.W.Frag) (H : Hp) (d : Addr) (R : List RA) : Prop where
  d : Rd H d (.dT (rowKV R))
  r : ∀ t ∈ R, SqT K H t.2.1 (t.2.2.map V.str)
theorem RowsAt.mono {K : PySem.W.Frag} {H H' : Hp} {d : Addr} {R : List RA} (s : Same H H') (h : RowsAt K H d R) : RowsAt K H' d R := ⟨Rd.mono h.d s, fun t ht => Same.sqT s (h.r t ht)⟩
def rowA : List RA → Stg → Option (Addr × List Str)
  | [], _ => none
  | t :: R, x => if t.1 = x then some t.2 else rowA R x
theorem valV_rows : ∀ (R : List RA) (x : Stg), valV (rowKV R) (stK x) = (rowA R x).map fun y => V.ref y.1
  | [], _ => rfl
  | t :: R, x => by
    show valV ((stK t.1, V.ref t.2.1) :: rowKV R) (stK x) = _
    unfold rowA
    by_cases h : t.1 = x
    · rw [if_pos h, valV_pos (by rw [h])]
      rfl
    · rw [if_neg h, valV_neg (fun z => h (stK_inj z)), valV_rows R x]
theorem rowA_mem : ∀ {R : List RA} {x : Stg} {y : Addr × List Str}, rowA R x = some y → (x, y) ∈ R
  | t :: R, x, y, h => by
    unfold rowA at h
    by_cases e : t.1 = x
    · rw [if_pos e] at h
      cases h
      rw [← e]
      exact List.mem_cons_self
    · rw [if_neg e] at h
      exact List.mem_cons_of_mem _ (rowA_mem h)
/-- the rows of stages, one behind another -/
def catL (R : List RA) : List Str → List Stg → Option (List Str)
  | acc, [] => some acc
  | acc, x :: xs => match rowA R x with
    | some y => catL R (acc ++ y.2) xs
    | none => none
theorem catL_has (R : List RA) : ∀ (xs : List Stg) (acc : List Str), (catL R acc xs).isSome = xs.all fun x => (rowA R x).isSome
  | [], _ => rfl
  | x :: xs, acc => by
    unfold catL
    rw [List.all_cons]
    cases h : rowA R x with
    | none => rfl
    | some y => exact catL_has R xs _
def initR (s : Stp) : List Str := if s.call = true then [] else [s.nm]
def joinR (R : List RA) (nm : Str) (s : Stp) : Option (List Str) := catL R (initR s) (partsS nm s)
theorem partsS_len (nm : Str) (s : Stp) : (partsS nm s).length ≤ 2 := by
  unfold partsS
  split <;> simp
section
variable {P : Program} {w : World} {K : PySem.W.Frag} {mg : Str → Option Value} {base : Heap}
def spPln (K : PySem.W.Frag) (C : Addr) : Sp := fun vs H Q _ => ∃ (p a : Addr) (cs : List CA), vs = [.ref p] ∧ BookAt K C H p a cs ∧ ∀ H' q ds, Same H H' → H q = none → ds.Perm (uniq (dns cs)) → sortedS ds = true → PlnAt H' q ds → Q (.ref q) H'
abbrev nPn : List Str := ["book", "deed"]
theorem scPn : FnScope nPn ["book"] (defScope sPlain) := ⟨rfl, rfl, rfl, by decide +kernel, rfl, by decide +kernel, by decide +kernel⟩
theorem ok_pln {f C fD : Addr} {fd fdD : FuncData} (F : Fun K "plain" "plain" sPlain f fd) (B : BkC K mg C) (GM_deeds : FnOk P w K mg base CX0 2 fD fdD ["self"] (spBkDeeds K C)) (bM_deeds : Binds K fdD ["self"] []) (m_deeds : Meth K C "deeds" fD) : FnOk P w K mg base CX0 3 f fd ["book"] (spPln K C) := by
  refine F.ok scPn (fun vs H Q E h => ?_) (fun cdv A outer s H vs Q E hr h => ?_)
  · obtain ⟨p, a, cs, rfl, _⟩ := h
    rfl
  · obtain ⟨p, a, cs, rfl, hB, q⟩ := h
    refine ⟨_, pss_one (ps_ret (pe_dc (own := [("deed", 1)]) (g := gName 1) (tt := tYes) rfl scPn.nd (pi_tup (pe_meth0 (pv 0) B.cl m_deeds GM_deeds (hr.mono (by decide)) bM_deeds .nil pass0)) (blkOk_by (own := [("deed", 1)]) (N := nPn) (sc := defScope sPlain) (by decide +kernel)) (fun _ _ _ _ _ => (pg_name (i := 1) scPn.nd rfl (Or.inl rfl))) (fun _ _ _ _ _ => pts_nil) (fun _ _ _ _ _ => (pv 1)) (fun _ _ _ _ _ => (pe_tup (pa_cons (pv 1) pa_nil))))), ?_⟩
    obtain ⟨dx, fs, P1, S1, E1, L1, S, hp, L, hC, ok, _⟩ := id hB
    refine ⟨_, rfl, p, dx, fs, rfl, hp, L.no _ (by decide +kernel), p, a, cs, rfl, hB, fun H1 q1 ds s1 n1 e1 hperm hso => ?_⟩
    have d12 := ok.d12
    have dl : ds.length ≤ 12 := by rw [hperm.length_eq]; exact d12
    have dn : ds.Nodup := hperm.nodup_iff.mpr (uniq_nd _)
    refine ⟨q1, rfl, ⟨_, sqT_new e1⟩, fun D nD => ?_⟩
    refine dcK_it (walk_tup (K := K) (a := q1) (xs := ds.map V.str)) (fun i G => ∃ L : List SA, Same H1 G ∧ G D = some (.dK (saKV L)) ∧ L.map (·.1) = ds.take i ∧ ∀ t ∈ L, G t.2 = some (.tup [V.str t.1])) ⟨[], same_new nD, upd_same, rfl, fun t ht => nomatch ht⟩ (fun _ _ _ h => sqT_new (h.choose_spec.1 _ _ e1)) (fun i x G G' hi h y => ?_) (fun G h => ?_)
    · obtain ⟨rfl, hy⟩ := y
      obtain ⟨d, hd, rfl⟩ := get_map hy
      obtain ⟨L, sG, eG, kL, tL⟩ := h
      have lL : L.length ≤ 12 := by
        have := congrArg List.length kL
        rw [List.length_map, List.length_take] at this
        omega
      refine ⟨rfl, .str d, rfl, .str d, rfl, smallE (by show 1 ≤ 1000000; decide), fun b nb => ?_⟩
      have sb := same_new (o := .tup [V.str d]) nb
      have eb : upd G' b (.tup [V.str d]) b = some (.tup [V.str d]) := upd_same
      have eD := sb _ _ eG
      generalize upd G' b (.tup [V.str d]) = Z at sb eb eD
      have nDt : ∀ {c : Addr} {xs : List V}, Z c = some (.tup xs) → c ≠ D := fun e w => by
        rw [w, eD] at e
        cases e
      refine ⟨saKV L, Sum.inr d, rfl, eD, by rw [saKV_len]; exact small (by omega), L ++ [(d, b)], fun c o e => ?_, ?_, ?_, fun t ht => ?_⟩
      · rw [upd_ne (ne_of_none e nD)]
        exact sb _ _ (sG _ _ e)
      · rw [upd_same, putK_new]
        · unfold saKV
          rw [List.map_append]
          rfl
        · rw [saKV_keys, kL]
          intro z
          obtain ⟨y, hy, e⟩ := List.mem_map.mp z
          rw [Sum.inr.inj e] at hy
          rw [← List.take_append_drop i ds, drop_of_get hd, List.nodup_append] at dn
          exact dn.2.2 _ hy _ List.mem_cons_self rfl
      · rw [List.map_append, kL, take_of_get hd]
        rfl
      · rcases List.mem_append.mp ht with z | z
        · have a1 := sb _ _ (tL t z)
          rw [upd_ne (nDt a1)]
          exact a1
        · rw [List.mem_singleton.mp z, upd_ne (nDt eb)]
          exact eb
    · obtain ⟨L, sG, eG, kL, tL⟩ := h
      rw [List.length_map, List.take_of_length_le (Nat.le_refl _)] at kL
      exact q G D ds (s1.trans sG) (s1.free nD) hperm hso ⟨L, eG, kL, tL⟩
theorem catA_any {H : Hp} {a b : Addr} {xs ys : List V} {Q : VK} (hA : SqT K H a xs) (hB : SqT K H b ys) (hz : xs.length + ys.length ≤ 1000000) (q : ∀ H' c, Same H H' → SqT K H' c (xs ++ ys) → Q (.ref c) H') : rCatA K (.ref a) (.ref b) H Q := by
  refine ⟨a, b, xs, ys, rfl, rfl, hA, hB, smallE hz, fun e => ?_, fun _ e => ?_, fun _ _ p np => ?_⟩
  · subst e
    exact q H b (fun _ _ h => h) hB
  · subst e
    refine q H a (fun _ _ h => h) ?_
    rw [List.append_nil]
    exact hA
  · exact q _ p (same_new np) (sqT_new upd_same)
end
end Kb
/-! {k: v for target in iter if ..} whose keys are tuples, with tests; and y = {..} on one line. -/
namespace Ka
open PySem PySem.Spec PyProof.Rows L2
section
variable {X : Cx}
/-- with tests -/
def tDcTt (wi : TI) (g : TG) (tt : TT) (tk tv : TE) (vs : List Nat) : TE := fun σ H Q => wi σ H fun J H1 => ∀ D, H1 D = none → ∃ W : Nat → Nat → Hp → Prop, (∃ m, W 0 m (upd H1 D (.dT []))) ∧ ∀ i m H, W i m H →
  (J.stop i H ∧ Q (.ref D) H) ∨ (J.go i H ∧ ∃ Nx : Hp → Prop, (∀ H', Nx H' → ∃ m', m' < m ∧ W (i + 1) m' H') ∧ ∀ x H', J.yld i H x H' → g x (wipe σ vs) H' fun σ2 H2 => wipe σ2 vs = wipe σ vs ∧ tt σ2 H2 fun b H3 =>
    if b = true then tk σ2 H3 fun y H4 => tv σ2 H4 fun z H5 => ∃ kvs k b, y = .ref b ∧ H5 b = some (.tup (k.map kV)) ∧ H5 D = some (.dT kvs) ∧ kvs.length < sizeLine ∧ Nx (upd H5 D (.dT (putK kvs k z))) else Nx H3)
/-- one turn of the block, from the item drawn on -/
theorem dctt_turn {Z : Cx} {kx vx tg : Expr} {ifs : List Expr} {g : TG} {tt : TT} {tk tv : TE} {D : Addr} {τ : L2.St} {vs : List Nat} {H : Hp} {s : Shared} {x : V} {u : Value} {Nx : Hp → Prop} {R : Shared → Prop} {pins : List (Addr × Obj)} {E' : Value → Shared → Prop} (hE : Z.xe = fun _ _ => False) (hu : Z.A.units + 1 < cLine)
    (pg : PG Z tg g) (pts : PTs Z ifs tt) (pk : PE Z kx tk) (pe : PE Z vx tv) (I : Inv Z pins τ H s) (rx : RelV x u)
    (h : g x τ H fun σ2 H2 => wipe σ2 vs = τ ∧ tt σ2 H2 fun bb H3 => if bb = true then tk σ2 H3 fun y H4 => tv σ2 H4 fun z H5 => ∃ kvs k b, y = .ref b ∧ H5 b = some (.tup (k.map kV)) ∧ H5 D = some (.dT kvs) ∧ kvs.length < sizeLine ∧ Nx (upd H5 D (.dT (putK kvs k z))) else Nx H3)
    (fin : ∀ σ2 H' s', wipe σ2 vs = τ → Inv Z pins σ2 H' s' → Nx H' → R s') :
    wpAny (model Z.prog Z.w) Z.A (assign tg Z.env u) (fun _ s₂ => wpAny (model Z.prog Z.w) Z.A (forIn ifs true fun c r => if r = true then do let ok ← isTrue c Z.env (eval c Z.env); pure (ForInStep.yield ok) else pure (ForInStep.yield r)) (fun ok s₃ =>
      if ok = true then wpAny (model Z.prog Z.w) Z.A (eval kx Z.env) (fun kv s₄ => wpAny (model Z.prog Z.w) Z.A (eval vx Z.env) (fun vv s₅ => wpAny (model Z.prog Z.w) Z.A (dictSet D kv vv) (fun _ s₆ => R s₆) E' s₅) E' s₄) E' s₃ else R s₃) E' s₂) E' s := by
  have a1 := pg.run pins s τ H x u _ I rx h
  rw [hE] at a1
  refine thnF a1 fun _ s8 ⟨σ8, H8, I8, hw, q8⟩ => ?_
  have a0 := pts.run pins s8 σ8 H8 _ I8 q8
  rw [hE] at a0
  refine thnF a0 fun bb s9 ⟨H9, I9, q9⟩ => ?_
  cases bb with
  | false =>
    rw [if_neg Bool.false_ne_true] at q9 ⊢
    exact fin σ8 _ s9 hw I9 q9
  | true =>
  rw [if_pos rfl] at q9 ⊢
  have a2 := pk.run pins s9 σ8 H9 _ I9 q9
  rw [hE] at a2
  refine thnF a2 fun kv s10 ⟨y, H10, I10, r10, q10⟩ => ?_
  have a3 := pe.run pins s10 σ8 H10 _ I10 q10
  rw [hE] at a3
  refine thnF a3 fun vv s11 ⟨z, H11, I11, r11, kvs, k, b, ey, hb, hD, hz, nx⟩ => ?_
  subst ey
  exact dT_set hu I11 hD hz hb r10 r11 fun s12 I12 => fin σ8 _ s12 hw I12 nx

theorem dcT_core {pins : List (Addr × Obj)} {s : Shared} {σ : L2.St} {H : Hp} {Q : VK} {kx vx tg iter : Expr} {ifs : List Expr} {scope : Scope} {own : List (Str × Nat)} {pos pos' : Pos} {wi : TI} {g : TG} {tt : TT} {tk tv : TE} {used : Option (Value → Sem Unit)} {Qf : Value → Shared → Prop} (hc : X.calm = true) (hu : X.A.units + 1 < cLine) (hN : X.N.Nodup) (I : Inv X pins σ H s) (hi : PI X tg iter wi) (ok : BlkOk X.N X.env.scope scope own)
    (hg : ∀ (s : Shared) (H : Hp) (C : Addr) (cl : List (Str × Addr)) (fp : List Addr), PG (X.blk s H scope (compEnvC scope cl C X.env) fp) tg g)
    (ht : ∀ (s : Shared) (H : Hp) (C : Addr) (cl : List (Str × Addr)) (fp : List Addr), PTs (X.blk s H scope (compEnvC scope cl C X.env) fp) ifs tt)
    (hk : ∀ (s : Shared) (H : Hp) (C : Addr) (cl : List (Str × Addr)) (fp : List Addr), PE (X.blk s H scope (compEnvC scope cl C X.env) fp) kx tk)
    (hv : ∀ (s : Shared) (H : Hp) (C : Addr) (cl : List (Str × Addr)) (fp : List Addr), PE (X.blk s H scope (compEnvC scope cl C X.env) fp) vx tv) (hs : ∀ x, foldedSetIterable iter X.env x = pure x)
    (h : tDcTt wi g tt tk tv (own.map (·.2)) σ H Q)
    (fin : ∀ D C s' m H', Inv X pins σ H' s' → Q (.ref D) H' → s'.heap.Ns C m → FpOk X pins H' C → compPost (model X.prog X.w) X.A X.xe used Qf (.ref D) C (.ok .next) s') :
    wpAny (model X.prog X.w) X.A (comprehension (.DictComp kx vx [⟨tg, iter, ifs, 0⟩] scope pos) scope X.env pos' newDict false (eval iter X.env) used) Qf X.xe s := by
  have free : ∀ y ∈ scope.names, y.2 = .free → ∃ c, X.env.cells.lookup y.1 = some c := fun y hy e => (ok.free y hy e).elim (fun k => I.ok.has _ (.inl k)) (fun k => I.ok.has _ (.inr k))
  refine wpAny_comprehension_free (use := used) rfl hs (closure_ok free) ok.kind (fun y hy e => by rw [ok.uniq y hy, e]) (thn (hi.run pins s σ H _ I h) fun _ s1 hx => thn hx fun _ s2 ⟨it, fp, tn, J, H2, e, I2, T, st2, f2, q⟩ => ?_)
  subst e
  refine wpAny_newObj_type (newEnv_comp ?_)
  generalize hD : s2.heap.objs.size = D
  have nD : H2 D = none := I2.hok.fresh (Nat.le_of_eq hD)
  obtain ⟨W, ⟨m0, w0⟩, turn⟩ := q D nD
  generalize hs3 : ({ s2 with heap := s2.heap.push { cls := .type "dict", data := .dict #[] } } : Shared) = s3
  have h3 : s3.heap = s2.heap.push { cls := .type "dict", data := .dict #[] } := by rw [← hs3]
  have I3 : Inv X pins σ (upd H2 D (.dT [])) s3 := by
    subst hs3 hD
    exact I2.laid (t' := s2.toks) (fun b o z => Heap.get?_push_of_some _ z) (Nat.le_refl _) (dt_empty s2.heap I2.big)
  have f3 : ∀ b ∈ fp, FpOk X pins (upd H2 D (.dT [])) b ∧ b < s3.heap.objs.size := fun b hb => by
    obtain ⟨o, e, _⟩ := T.obj _ _ st2 b hb
    have lt : b < s2.heap.objs.size := Heap.lt_size e
    refine ⟨⟨?_, (f2 b hb).2⟩, by rw [h3, Heap.size_push]; exact Nat.lt_succ_of_lt lt⟩
    rw [upd_ne (by rw [← hD]; exact Nat.ne_of_lt lt)]
    exact (f2 b hb).1
  have I4 := block_start I3 ok hN f3
  have pg := hg s3 (upd H2 D (.dT [])) s3.heap.objs.size (cellsFrom (s3.heap.objs.size + 1) scope.names (cloFrom X.env.cells scope.names [])) fp
  have pts := ht s3 (upd H2 D (.dT [])) s3.heap.objs.size (cellsFrom (s3.heap.objs.size + 1) scope.names (cloFrom X.env.cells scope.names [])) fp
  have pk := hk s3 (upd H2 D (.dT [])) s3.heap.objs.size (cellsFrom (s3.heap.objs.size + 1) scope.names (cloFrom X.env.cells scope.names [])) fp
  have pv := hv s3 (upd H2 D (.dT [])) s3.heap.objs.size (cellsFrom (s3.heap.objs.size + 1) scope.names (cloFrom X.env.cells scope.names [])) fp
  show codeAny _ _ (.compStart (.DictComp kx vx [⟨tg, iter, ifs, 0⟩] scope pos) 0 (.ref it) (.ref D) (compEnvC scope (cellsFrom (s3.heap.objs.size + 1) scope.names (cloFrom X.env.cells scope.names [])) s3.heap.objs.size X.env)) (compPost (model X.prog X.w) X.A X.xe used Qf (.ref D) s3.heap.objs.size) { s3 with heap := pushCells (s3.heap.push { cls := .type "dict", data := .dict #[] }) scope.names }
  generalize hce : compEnvC scope (cellsFrom (s3.heap.objs.size + 1) scope.names (cloFrom X.env.cells scope.names [])) s3.heap.objs.size X.env = ce at I4 pg pts pk pv ⊢
  have cL : ce.locals = s3.heap.objs.size := by subst hce; rfl
  generalize hH3 : upd H2 D (.dT []) = H3 at I3 I4 pg pts pk pv w0 f3
  generalize hs4 : ({ s3 with heap := pushCells (s3.heap.push { cls := .type "dict", data := .dict #[] }) scope.names } : Shared) = s4 at I4 ⊢
  have st4 : tn 0 s4.heap := T.keep _ _ _ st2 fun b _ o z => by
    rw [← hs4]
    exact pushCells_keeps _ _ _ _ (Heap.get?_push_of_some _ (by rw [h3]; exact Heap.get?_push_of_some _ z))
  have blk : ∀ {σ' : L2.St} {H' : Hp} {s' : Shared}, Inv (X.blk s3 H3 scope ce fp) [] σ' H' s' → (∀ b ∈ fp, H' b = none) → ∀ b ∈ fp, FpOk (X.blk s3 H3 scope ce fp) [] H' b := fun J' hn b hb =>
    ⟨hn b hb, (J'.ok.exf b hb).1, J'.ok.exfs b hb, .inl hb, fun x c z => (J'.ok.exf b hb).2 x c z, fun p hp => absurd (show p ∈ ([] : List (Addr × Obj)) ++ [] from hp) (by simp)⟩
  have loop : codeAny (model X.prog X.w) X.A (.compLoop (.DictComp kx vx [⟨tg, iter, ifs, 0⟩] scope pos) 0 (.ref it) (.ref D) ce) (compPost (model X.prog X.w) X.A X.xe used Qf (.ref D) s3.heap.objs.size) s4 := by
    refine compLoop_anyD (BetweenT (X.blk s3 H3 scope ce fp) fp tn (wipe σ (own.map (·.2))) W) ?_ m0 ⟨0, H3, I4, st4, fun b hb => (f3 b hb).1.1, w0⟩
    rintro n s5 ⟨i, H5, I5, st5, n5, w5⟩
    rcases turn i n H5 w5 with ⟨stop, qq⟩ | ⟨go, Nx, hNx, step⟩
    · refine thnF (T.done (X.blk s3 H3 scope ce fp) rfl rfl rfl hc i [] s5 _ H5 (fun _ _ => False) I5 (blk I5 n5) st5 stop) fun r s6 ⟨hr, I6⟩ => ?_
      subst hr
      have I7 : Inv X pins σ H5 s6 := I3.call' (ch := fp) I6.os I6.base I6.hok I6.bare fun b hb => ⟨(f3 b hb).1.2.2.2.1, (f3 b hb).1.2.1, (f3 b hb).1.2.2.2.2.1, (f3 b hb).1.2.2.2.2.2⟩
      have nC : H5 s3.heap.objs.size = none := by
        have z : H5 ce.locals = none := I6.free
        rwa [cL] at z
      obtain ⟨m, hn, _⟩ := I6.loc
      have hn : s6.heap.Ns ce.locals m := hn
      rw [cL] at hn
      exact fin D s3.heap.objs.size s6 m H5 I7 qq hn (I3.fpOk (Nat.le_refl _) nC)
    · refine thnF (T.item (X.blk s3 H3 scope ce fp) rfl rfl rfl hc i [] s5 _ H5 (fun _ _ => False) I5 (blk I5 n5) st5 go) fun r s6 ⟨u, hr, h6⟩ => ?_
      subst hr
      refine thnF h6 fun _ s7 ⟨x, H7, I7, r7, y7, st7, n7⟩ => ?_
      have I7' := I7.pinned (blk I7 n7) (T.obj _ _ st7)
      have main := dctt_turn (s := s7) (Z := X.blk s3 H3 scope ce fp) (vs := own.map (·.2)) (D := D) (Nx := Nx) (E' := notedBy (model X.prog X.w) X.A ce fun e s' => compPost (model X.prog X.w) X.A X.xe used Qf (.ref D) s3.heap.objs.size (.error e) s') (R := fun s' => ∃ m, m < n ∧ BetweenT (X.blk s3 H3 scope ce fp) fp tn (wipe σ (own.map (·.2))) W m s') rfl hu pg pts pk pv I7' r7 (step x H7 y7) fun σ8 H' s' hw I' nx => by
        obtain ⟨m', hm, w'⟩ := hNx H' nx
        have keep : ∀ b ∈ fp, ∀ o, s7.heap.get? b = some o → s'.heap.get? b = some o ∧ H' b = none := fun b hb o z =>
          let y := I'.pin (b, o) (List.mem_append_right _ (List.mem_append_right _ (mem_pinsAt hb z)))
          ⟨y.1, y.2.1⟩
        refine ⟨m', hm, i + 1, H', (I'.unpinned (pins := [])).weak (by rw [← hw, wipe_length]) (fun j v z => ?_), T.keep _ _ _ st7 fun b hb o z => (keep b hb o z).1, fun b hb => ?_, w'⟩
        · rw [← hw] at z
          exact (wipe_some z).1
        · obtain ⟨o, z, _⟩ := T.obj _ _ st7 b hb
          exact (keep b hb o z).2
      exact main
  exact codeAny_compStart_dict loop (T.self X.A 0 _ _ _ st4 loop)
/-- as a value -/
theorem pe_dcTt {kx vx tg iter : Expr} {ifs : List Expr} {scope : Scope} {own : List (Str × Nat)} {pos : Pos} {wi : TI} {g : TG} {tt : TT} {tk tv : TE} (hc : X.calm = true) (hu : X.A.units + 1 < cLine) (hN : X.N.Nodup) (hi : PI X tg iter wi) (ok : BlkOk X.N X.env.scope scope own)
    (hg : ∀ (s : Shared) (H : Hp) (C : Addr) (cl : List (Str × Addr)) (fp : List Addr), PG (X.blk s H scope (compEnvC scope cl C X.env) fp) tg g)
    (ht : ∀ (s : Shared) (H : Hp) (C : Addr) (cl : List (Str × Addr)) (fp : List Addr), PTs (X.blk s H scope (compEnvC scope cl C X.env) fp) ifs tt)
    (hk : ∀ (s : Shared) (H : Hp) (C : Addr) (cl : List (Str × Addr)) (fp : List Addr), PE (X.blk s H scope (compEnvC scope cl C X.env) fp) kx tk)
    (hv : ∀ (s : Shared) (H : Hp) (C : Addr) (cl : List (Str × Addr)) (fp : List Addr), PE (X.blk s H scope (compEnvC scope cl C X.env) fp) vx tv) (hs : ∀ x, foldedSetIterable iter X.env x = pure x := by intro _; rfl) :
    PE X (.DictComp kx vx [⟨tg, iter, ifs, 0⟩] scope pos) (tDcTt wi g tt tk tv (own.map (·.2))) := by
  refine ⟨fun pins s σ H Q I h => ?_⟩
  rw [arm_eval_DictComp]
  refine dcT_core hc hu hN I hi ok hg ht hk hv hs h fun D C s' m H' J q hn f => ?_
  obtain ⟨f0, f1, f2, f4, f5, f6⟩ := f
  exact ⟨m, hn, fun h'' sb => ⟨.ref D, H', J.turned (t' := s'.toks) (fun b o hb z => (sb.2 b hb).trans z) f0 f1 f4 f5 f6, rfl, q⟩⟩
theorem ps_setDcT {i : Nat} {y : Str} {py : Pos} {kx vx tg iter : Expr} {ifs : List Expr} {scope : Scope} {own : List (Str × Nat)} {pos spos : Pos} {wi : TI} {g : TG} {tt : TT} {tk tv : TE} (hc : X.calm = true) (hu : X.A.units + 1 < cLine) (hN : X.N.Nodup) (hy : X.N[i]? = some y) (hyl : X.env.scope.names.lookup y = some .local)
    (hsw : swapsWith (.DictComp kx vx [⟨tg, iter, ifs, 0⟩] scope pos) (some (.Name y py)) spos.line X.env = pure true) (hi : PI X tg iter wi) (ok : BlkOk X.N X.env.scope scope own)
    (hg : ∀ (s : Shared) (H : Hp) (C : Addr) (cl : List (Str × Addr)) (fp : List Addr), PG (X.blk s H scope (compEnvC scope cl C X.env) fp) tg g) (ht : ∀ (s : Shared) (H : Hp) (C : Addr) (cl : List (Str × Addr)) (fp : List Addr), PTs (X.blk s H scope (compEnvC scope cl C X.env) fp) ifs tt)
    (hk : ∀ (s : Shared) (H : Hp) (C : Addr) (cl : List (Str × Addr)) (fp : List Addr), PE (X.blk s H scope (compEnvC scope cl C X.env) fp) kx tk)
    (he : ∀ (s : Shared) (H : Hp) (C : Addr) (cl : List (Str × Addr)) (fp : List Addr), PE (X.blk s H scope (compEnvC scope cl C X.env) fp) vx tv) (hs : ∀ x, foldedSetIterable iter X.env x = pure x := by intro _; rfl) :
    PS X (.Assign [.Name y py] (.DictComp kx vx [⟨tg, iter, ifs, 0⟩] scope pos) spos) (tAsg (tDcTt wi g tt tk tv (own.map (·.2))) (gName i)) := by
  refine ⟨fun pins s σ H D I h => ?_⟩
  rw [exec_Assign_Name_used _ _ _ _ hsw]
  refine wpAny_bind (wpAny_standAt (wpAny_bind ?_))
  show wpAny _ X.A (do let _ ← comprehension (.DictComp kx vx [⟨tg, iter, ifs, 0⟩] scope pos) scope X.env (firstIterPos [⟨tg, iter, ifs, 0⟩] pos) newDict false (eval iter X.env) (some (assign (.Name y py) X.env))) _ _ s
  have h : tDcTt wi g tt tk tv (own.map (·.2)) σ H (fun x H1 => gName i x σ H1 D.nx) := h
  refine wpAny_bind (thn (dcT_core (Qf := fun _ s' => SP X pins D .next s') hc hu hN I hi ok hg ht hk he hs h fun L C s' m H' I' q hn f => ?_) fun _ s' hq => wpAny_pure (wpAny_pure hq))
  show wpAny _ _ (assign (.Name y py) X.env (.ref L)) _ _ _
  refine wpAny_assign_Name (store_ok2 (v := V.ref L) I' hN hy (.inl hyl) rfl (fun s2 I2 ⟨a, sb, ha⟩ => ?_) (.inr hyl))
  obtain ⟨f0, f1, f2, f3, f4, f5⟩ := f
  have haC : C ≠ a := by
    rcases ha with z | z
    · rw [z]; exact f1
    · exact fun e => f4 y a z e.symm
  refine ⟨m, hn.sameBut sb haC, fun h3 sb3 => ?_⟩
  exact ⟨_, H', I2.turned (t' := s2.toks) (fun b o hb e => (sb3.2 b hb).trans e) f0 f1 f3 f4 f5, q⟩
/-- walks, with tests -/
theorem dcTt_it {J : It} {n : Nat} {G : Hp → Prop} {Y : Nat → Hp → V → Hp → Prop} (w : Walk J n G Y) {g : TG} {tt : TT} {tk tv : TE} {vs : List Nat} {σ : L2.St} {H1 : Hp} {D : Addr} {Qd : Hp → Prop} (Pv : Nat → Hp → Prop) (h0 : Pv 0 (upd H1 D (.dT []))) (hG : ∀ i H, i ≤ n → Pv i H → G H)
    (hs : ∀ i x H H', i < n → Pv i H → Y i H x H' → g x (wipe σ vs) H' fun σ2 H2 => wipe σ2 vs = wipe σ vs ∧ tt σ2 H2 fun b H3 => if b = true then tk σ2 H3 fun y H4 => tv σ2 H4 fun z H5 => ∃ kvs k b, y = .ref b ∧ H5 b = some (.tup (k.map kV)) ∧ H5 D = some (.dT kvs) ∧ kvs.length < sizeLine ∧ Pv (i + 1) (upd H5 D (.dT (putK kvs k z))) else Pv (i + 1) H3)
    (hd : ∀ H, Pv n H → Qd H) : ∃ W : Nat → Nat → Hp → Prop, (∃ m, W 0 m (upd H1 D (.dT []))) ∧ ∀ i m H, W i m H →
      (J.stop i H ∧ Qd H) ∨ (J.go i H ∧ ∃ Nx : Hp → Prop, (∀ H', Nx H' → ∃ m', m' < m ∧ W (i + 1) m' H') ∧ ∀ x H', J.yld i H x H' → g x (wipe σ vs) H' fun σ2 H2 => wipe σ2 vs = wipe σ vs ∧ tt σ2 H2 fun b H3 =>
        if b = true then tk σ2 H3 fun y H4 => tv σ2 H4 fun z H5 => ∃ kvs k b, y = .ref b ∧ H5 b = some (.tup (k.map kV)) ∧ H5 D = some (.dT kvs) ∧ kvs.length < sizeLine ∧ Nx (upd H5 D (.dT (putK kvs k z))) else Nx H3) := by
  refine ⟨fun i m H => m = n - i ∧ i ≤ n ∧ Pv i H, ⟨n, rfl, Nat.zero_le _, h0⟩, fun i m H ⟨em, hi, p⟩ => ?_⟩
  by_cases hlt : i < n
  · refine .inr ⟨w.goes i H hlt (hG i H hi p), Pv (i + 1), fun H' p' => ⟨n - (i + 1), by omega, rfl, hlt, p'⟩, fun x H' y => ?_⟩
    exact hs i x H H' hlt p (w.yields i H x H' hlt (hG i H hi p) y)
  · obtain rfl : i = n := by omega
    exact .inl ⟨w.stops H (hG i H hi p), hd H p⟩
end
end Ka
/-! {k: v}, k a tuple of numbers and texts: one entry. -/
namespace Ka
open PySem PySem.Spec PyProof.Rows L2
/-- a display of one entry whose key is a tuple -/
def tDisp1T (tk tv : TE) : TE := fun σ H Q => ∀ p, H p = none → tk σ (upd H p (.dT [])) fun y H1 => tv σ H1 fun z H2 => ∃ (b : Addr) (k : List L2.Key), y = .ref b ∧ H2 b = some (.tup (k.map kV)) ∧ H2 p = some (.dT []) ∧ Q (.ref p) (upd H2 p (.dT [(k, z)]))
theorem pe_disp1T {X : Cx} {kx vx : Expr} {pos : Pos} {tk tv : TE} (hu : X.A.units + 1 < cLine) (hk : PE X kx tk) (hv : PE X vx tv) : PE X (.Dict [some kx] [vx] pos) (tDisp1T tk tv) := by
  refine ⟨fun pins s σ H Q I q => ?_⟩
  have hn := I.hok.fresh (Nat.le_refl s.heap.objs.size)
  have I1 := I.laid (a := s.heap.objs.size) (o := .dT []) (h' := s.heap.push { cls := .type "dict", data := .dict #[] }) (t' := s.toks) (fun _ _ q => Heap.get?_push_of_some _ q) (Nat.le_refl _) (dt_empty s.heap I.big)
  refine wpAny_Dict_any rfl rfl (fun z => by cases z) (show 1 ≤ 15 by decide) ?_
  refine pairTrees_cons_walk (thn (hk.run pins _ σ _ _ I1 (q _ hn)) fun u s1 ⟨y, H1, I1', ry, q1⟩ => thn (hv.run pins s1 σ H1 _ I1' q1) fun w2 s2 ⟨z, H2, I2, rz, b, k, ey, eb, ep, q2⟩ => pairTrees_nil_walk ?_)
  subst ey
  have e0 : ∀ (d : Addr) (vs : List (Value × Value)), storeAll d vs = forIn vs PUnit.unit fun (x : Value × Value) (_ : PUnit) => (do dictSet d x.1 x.2; pure (ForInStep.yield PUnit.unit) : Sem (ForInStep PUnit)) := fun _ _ => rfl
  rw [e0, List.forIn_cons]
  refine wpAny_bind (wpAny_bind (dT_set hu I2 ep (by rw [List.length_nil, sizeLine_eq]; decide) eb (show RelV (.ref b) u from ry) rz fun s' I' => wpAny_pure ?_))
  exact wpAny_pure ⟨.ref _, _, I', rfl, q2⟩
end Ka
/-! y = {k: v for ..} on one line. -/
namespace Ka
open PySem PySem.Spec PyProof.Rows L2
theorem sw_dc {kx vx : Expr} {gs : List Comprehension} {scope : Scope} {pos py : Pos} {y : Str} {l : Nat} {env : Env} (hk : env.scope.kind = .function) (hy : env.scope.names.lookup y = some .local) (hl : (py.line == pos.line) = true)
    (ha : (scope.names.any fun (n, k) => n == y && (k == .local || k == .cell)) = false) : swapsWith (.DictComp kx vx gs scope pos) (some (.Name y py)) l env = pure true := by
  have ky : env.kindOf y = some .local := hy
  have hb : env.blockKind = .function := by unfold Env.blockKind; rw [hk]; rfl
  unfold swapsWith
  simp only [hb, ky, ha, Expr.pos, hl]
  rfl
theorem ps_setDc {X : Cx} {i : Nat} {y : Str} {py : Pos} {kx vx tg iter : Expr} {ifs : List Expr} {scope : Scope} {own : List (Str × Nat)} {pos spos : Pos} {wi : TI} {g : TG} {tt : TT} {tk tv : TE} (hc : X.calm = true) (hN : X.N.Nodup) (hy : X.N[i]? = some y) (hyl : X.env.scope.names.lookup y = some .local)
    (hsw : swapsWith (.DictComp kx vx [⟨tg, iter, ifs, 0⟩] scope pos) (some (.Name y py)) spos.line X.env = pure true) (hi : PI X tg iter wi) (ok : BlkOk X.N X.env.scope scope own)
    (hg : ∀ (s : Shared) (H : Hp) (C : Addr) (cl : List (Str × Addr)) (fp : List Addr), PG (X.blk s H scope (compEnvC scope cl C X.env) fp) tg g) (ht : ∀ (s : Shared) (H : Hp) (C : Addr) (cl : List (Str × Addr)) (fp : List Addr), PTs (X.blk s H scope (compEnvC scope cl C X.env) fp) ifs tt)
    (hk : ∀ (s : Shared) (H : Hp) (C : Addr) (cl : List (Str × Addr)) (fp : List Addr), PE (X.blk s H scope (compEnvC scope cl C X.env) fp) kx tk)
    (he : ∀ (s : Shared) (H : Hp) (C : Addr) (cl : List (Str × Addr)) (fp : List Addr), PE (X.blk s H scope (compEnvC scope cl C X.env) fp) vx tv) (hs : ∀ x, foldedSetIterable iter X.env x = pure x := by intro _; rfl) :
    PS X (.Assign [.Name y py] (.DictComp kx vx [⟨tg, iter, ifs, 0⟩] scope pos) spos) (tAsg (tDc wi g tt tk tv (own.map (·.2))) (gName i)) := by
  refine ⟨fun pins s σ H D I h => ?_⟩
  rw [exec_Assign_Name_used _ _ _ _ hsw]
  refine wpAny_bind (wpAny_standAt (wpAny_bind ?_))
  show wpAny _ X.A (do let _ ← comprehension (.DictComp kx vx [⟨tg, iter, ifs, 0⟩] scope pos) scope X.env (firstIterPos [⟨tg, iter, ifs, 0⟩] pos) newDict false (eval iter X.env) (some (assign (.Name y py) X.env))) _ _ s
  have h : tDc wi g tt tk tv (own.map (·.2)) σ H (fun x H1 => gName i x σ H1 D.nx) := h
  refine wpAny_bind (thn (dc_core (Qf := fun _ s' => SP X pins D .next s') hc hN I hi ok hg ht hk he hs h fun L C s' m H' I' q hn f => ?_) fun _ s' hq => wpAny_pure (wpAny_pure hq))
  show wpAny _ _ (assign (.Name y py) X.env (.ref L)) _ _ _
  refine wpAny_assign_Name (store_ok2 (v := V.ref L) I' hN hy (.inl hyl) rfl (fun s2 I2 ⟨a, sb, ha⟩ => ?_) (.inr hyl))
  obtain ⟨f0, f1, f2, f3, f4, f5⟩ := f
  have haC : C ≠ a := by
    rcases ha with z | z
    · rw [z]; exact f1
    · exact fun e => f4 y a z e.symm
  refine ⟨m, hn.sameBut sb haC, fun h3 sb3 => ?_⟩
  exact ⟨_, H', I2.turned (t' := s2.toks) (fun b o hb e => (sb3.2 b hb).trans e) f0 f1 f3 f4 f5, q⟩
end Ka
namespace Kb
open PySem PySem.Spec PyProof.Rows L2
/-! ### steps_into: the lines that a stage is a part of -/
/-- an entry where it stands -/
structure EN where
  e : Addr
  u : Addr
  nm : Str
  s : Stp
  sa : Addr
  pa : Addr
def EnAt (H : Hp) (x : EN) : Prop := H x.e = some (.tup [.ref x.u, .ref x.sa, .ref x.pa]) ∧ H x.u = some (.tup (stV (x.nm, x.s.n))) ∧ H x.sa = some (.tup (stpV x.s)) ∧ PtsAt H x.pa (partsS x.nm x.s)
theorem EnAt.keep {H H' : Hp} {x : EN} (k : ∀ c xs, H c = some (.tup xs) → H' c = some (.tup xs)) (h : EnAt H x) : EnAt H' x := by
  obtain ⟨h1, h2, h3, L, h4, h5, h6⟩ := h
  exact ⟨k _ _ h1, k _ _ h2, k _ _ h3, L, k _ _ h4, h5, fun t ht => k _ _ (h6 t ht)⟩
theorem EnAt.mono {H H' : Hp} {x : EN} (s : Same H H') (h : EnAt H x) : EnAt H' x := h.keep fun _ _ e => s _ _ e
/-- tuples stay -/
def TS (H H' : Hp) : Prop := ∀ c xs, H c = some (.tup xs) → H' c = some (.tup xs)
theorem TS.refl {H : Hp} : TS H H := fun _ _ e => e
theorem TS.of {H H' : Hp} (s : Same H H') : TS H H' := fun _ _ e => s _ _ e
theorem TS.trans {H H' H'' : Hp} (a : TS H H') (b : TS H' H'') : TS H H'' := fun c xs e => b _ _ (a _ _ e)
abbrev ME := Stg × Addr × List EN
def trM (M : List ME) : List TR := M.map fun t => (stK t.1, t.2.1, t.2.2.map fun x => V.ref x.e)
def pushM (M : List ME) (k : Stg) (x : EN) : List ME := M.map fun t => if t.1 = k then (t.1, t.2.1, t.2.2 ++ [x]) else t
theorem trM_keys (M : List ME) : (trM M).map (·.1) = (M.map (·.1)).map stK := by
  unfold trM
  rw [List.map_map, List.map_map]
  rfl
theorem trM_push (M : List ME) (k : Stg) (x : EN) : trM (pushM M k x) = pushT (trM M) (stK k) (.ref x.e) := by
  unfold trM pushM pushT
  rw [List.map_map, List.map_map]
  refine List.map_congr_left fun t _ => ?_
  show _ = if stK t.1 = stK k then _ else _
  by_cases e : t.1 = k
  · rw [if_pos (by rw [e])]
    simp only [Function.comp_apply, if_pos e, List.map_append]
    rfl
  · rw [if_neg (fun z => e (stK_inj z))]
    simp only [Function.comp_apply, if_neg e]
theorem pushM_keys (M : List ME) (k : Stg) (x : EN) : (pushM M k x).map (·.1) = M.map (·.1) := by
  unfold pushM
  rw [List.map_map]
  refine List.map_congr_left fun t _ => ?_
  show (if t.1 = k then (t.1, t.2.1, t.2.2 ++ [x]) else t).1 = t.1
  split <;> rfl
/-- a line: the course's name and the step -/
abbrev LN := Str × Stp
def linesC (c : CA) : List LN := c.ss.map fun p => (c.nm, p.2)
def linesS (cs : List CA) : List LN := cs.flatMap linesC
theorem mem_linesS {cs : List CA} {l : LN} : l ∈ linesS cs ↔ ∃ c ∈ cs, ∃ p ∈ c.ss, l = (c.nm, p.2) := by
  unfold linesS linesC
  rw [List.mem_flatMap]
  exact ⟨fun ⟨c, h, h2⟩ => let ⟨p, hp, e⟩ := List.mem_map.mp h2; ⟨c, h, p, hp, e.symm⟩, fun ⟨c, h, p, hp, e⟩ => ⟨c, h, List.mem_map.mpr ⟨p, hp, e.symm⟩⟩⟩
/-- what the lists hold: only lines that have the stage as a part, and all that are done -/
structure Held (cs : List CA) (G : Hp) (done : LN → Stg → Prop) (M : List ME) : Prop where
  sound : ∀ t ∈ M, ∀ x ∈ t.2.2, EnAt G x ∧ (x.nm, x.s) ∈ linesS cs ∧ t.1 ∈ partsS x.nm x.s
  full : ∀ t ∈ M, ∀ l : LN, done l t.1 → ∃ x ∈ t.2.2, (x.nm, x.s) = l
theorem Held.keep {cs : List CA} {G G' : Hp} {done : LN → Stg → Prop} {M : List ME} (k : ∀ c xs, G c = some (.tup xs) → G' c = some (.tup xs)) (h : Held cs G done M) : Held cs G' done M :=
  ⟨fun t ht x hx => ⟨(h.sound t ht x hx).1.keep k, (h.sound t ht x hx).2⟩, h.full⟩
theorem Held.less {cs : List CA} {G : Hp} {done done' : LN → Stg → Prop} {M : List ME} (k : ∀ l, ∀ t ∈ M, done' l t.1 → done l t.1) (h : Held cs G done M) : Held cs G done' M :=
  ⟨h.sound, fun t ht l d => h.full t ht l (k l t ht d)⟩
theorem Held.push {cs : List CA} {G : Hp} {done done' : LN → Stg → Prop} {M : List ME} {k : Stg} {x : EN} (h : Held cs G done M) (hx : EnAt G x) (hl : (x.nm, x.s) ∈ linesS cs) (hk : k ∈ partsS x.nm x.s) (hd : ∀ l, ∀ t ∈ M, done' l t.1 → done l t.1 ∨ (t.1 = k ∧ l = (x.nm, x.s))) : Held cs G done' (pushM M k x) := by
  refine ⟨fun t ht y hy => ?_, fun t ht l d => ?_⟩
  · obtain ⟨t0, ht0, rfl⟩ := List.mem_map.mp ht
    by_cases e : t0.1 = k
    · rw [if_pos e] at hy ⊢
      rcases List.mem_append.mp hy with z | z
      · exact h.sound t0 ht0 y z
      · rw [List.mem_singleton.mp z]
        exact ⟨hx, hl, by show t0.1 ∈ _; rw [e]; exact hk⟩
    · rw [if_neg e] at hy ⊢
      exact h.sound t0 ht0 y hy
  · obtain ⟨t0, ht0, rfl⟩ := List.mem_map.mp ht
    by_cases e : t0.1 = k
    · rw [if_pos e] at d ⊢
      rcases hd l t0 ht0 d with z | z
      · obtain ⟨y, hy, e2⟩ := h.full t0 ht0 l z
        exact ⟨y, List.mem_append_left _ hy, e2⟩
      · exact ⟨x, List.mem_append_right _ List.mem_cons_self, z.2.symm⟩
    · rw [if_neg e] at d ⊢
      rcases hd l t0 ht0 d with z | z
      · exact h.full t0 ht0 l z
      · exact absurd z.1 e
/-- the table of a book's lines, by stages -/
def IntoAt (H : Hp) (q : Addr) (cs : List CA) : Prop := ∃ M : List ME, H q = some (.dT (kvT (trM M))) ∧ M.map (·.1) = stagesS cs ∧ (∀ t ∈ M, H t.2.1 = some (.lst (t.2.2.map fun x => V.ref x.e)) ∧ t.2.2.length ≤ 16000) ∧ Held cs H (fun l st => l ∈ linesS cs ∧ st ∈ partsS l.1 l.2) M
theorem IntoAt.mono {H H' : Hp} {q : Addr} {cs : List CA} (s : Same H H') (h : IntoAt H q cs) : IntoAt H' q cs := by
  obtain ⟨M, h1, h2, h3, h4⟩ := h
  exact ⟨M, s _ _ h1, h2, fun t ht => ⟨s _ _ (h3 t ht).1, (h3 t ht).2⟩, h4.keep fun _ _ e => s _ _ e⟩
/-- which lines are in, when i courses, of the next j steps, of the next m parts are done -/
def doneTo (cs : List CA) (i : Nat) (j m : Nat) (l : LN) (st : Stg) : Prop :=
  (l ∈ linesS (cs.take i) ∧ st ∈ partsS l.1 l.2) ∨ ∃ c, cs[i]? = some c ∧ ((∃ j' p, j' < j ∧ c.ss[j']? = some p ∧ l = (c.nm, p.2) ∧ st ∈ partsS l.1 l.2) ∨ ∃ p, c.ss[j]? = some p ∧ l = (c.nm, p.2) ∧ st ∈ (partsS l.1 l.2).take m)
theorem doneTo_part {cs : List CA} {i j m : Nat} {c : CA} {p : Addr × Stp} {k : Stg} (hc : cs[i]? = some c) (hp : c.ss[j]? = some p) (hk : (partsS c.nm p.2)[m]? = some k) (l : LN) (st : Stg) (h : doneTo cs i j (m + 1) l st) : doneTo cs i j m l st ∨ (st = k ∧ l = (c.nm, p.2)) := by
  rcases h with h | ⟨c', hc', h | ⟨p', hp', e, h⟩⟩
  · exact .inl (.inl h)
  · exact .inl (.inr ⟨c', hc', .inl h⟩)
  · rw [hc] at hc'
    cases hc'
    rw [hp] at hp'
    cases hp'
    have e1 : partsS l.1 l.2 = partsS c.nm p.2 := by rw [e]
    rw [e1, take_of_get hk] at h
    rcases List.mem_append.mp h with z | z
    · exact .inl (.inr ⟨c, hc, .inr ⟨p, hp, e, by rw [e1]; exact z⟩⟩)
    · exact .inr ⟨List.mem_singleton.mp z, e⟩
theorem doneTo_step {cs : List CA} {i j m : Nat} {c : CA} {p : Addr × Stp} (hc : cs[i]? = some c) (hp : c.ss[j]? = some p) (hm : m = (partsS c.nm p.2).length) (l : LN) (st : Stg) (h : doneTo cs i (j + 1) 0 l st) : doneTo cs i j m l st := by
  rcases h with h | ⟨c', hc', ⟨j', p', hj, hp', e, h⟩ | ⟨p', hp', e, h⟩⟩
  · exact .inl h
  · rw [hc] at hc'
    cases hc'
    by_cases w : j' < j
    · exact .inr ⟨c, hc, .inl ⟨j', p', w, hp', e, h⟩⟩
    · obtain rfl : j' = j := by omega
      rw [hp] at hp'
      cases hp'
      refine .inr ⟨c, hc, .inr ⟨p, hp, e, ?_⟩⟩
      have e1 : partsS l.1 l.2 = partsS c.nm p.2 := by rw [e]
      rw [e1, hm, List.take_length]
      rw [e1] at h
      exact h
  · rw [List.take_zero] at h
    exact nomatch h
theorem doneTo_course {cs : List CA} {i : Nat} {c : CA} (hc : cs[i]? = some c) (l : LN) (st : Stg) (h : doneTo cs (i + 1) 0 0 l st) : doneTo cs i c.ss.length 0 l st := by
  rcases h with ⟨h, h2⟩ | ⟨c', hc', ⟨j', p', hj, hp', e, h⟩ | ⟨p', hp', e, h⟩⟩
  · rw [take_of_get hc] at h
    unfold linesS at h
    rw [List.flatMap_append] at h
    rcases List.mem_append.mp h with z | z
    · exact .inl ⟨z, h2⟩
    · have z : l ∈ linesC c := by simpa using z
      obtain ⟨p, hp, e⟩ := List.mem_map.mp z
      obtain ⟨j, hj⟩ := List.getElem?_of_mem hp
      exact .inr ⟨c, hc, .inl ⟨j, p, lt_of_get hj, hj, e.symm, h2⟩⟩
  · exact absurd hj (Nat.not_lt_zero _)
  · rw [List.take_zero] at h
    exact nomatch h
theorem doneTo_all {cs : List CA} (l : LN) (st : Stg) (h : l ∈ linesS cs ∧ st ∈ partsS l.1 l.2) : doneTo cs cs.length 0 0 l st := .inl (by rw [List.take_length]; exact h)
section
variable {P : Program} {w : World} {K : PySem.W.Frag} {mg : Str → Option Value} {base : Heap}
def spInto (K : PySem.W.Frag) (C : Addr) : Sp := fun vs H Q _ => ∃ (p a : Addr) (cs : List CA), vs = [.ref p] ∧ BookAt K C H p a cs ∧ ∀ H' q, Same H H' → H q = none → IntoAt H' q cs → Q (.ref q) H'
abbrev nSi : List Str := ["book", "found", "course", "step", "parts", "part", "stage"]
theorem scSi : FnScope nSi ["book"] (defScope sStepsInto) := ⟨rfl, rfl, rfl, by decide +kernel, rfl, by decide +kernel, by decide +kernel⟩
theorem ok_into {f C fT fN fS fP : Addr} {fd fdT fdN fdS fdP : FuncData} (F : Fun K "steps_into" "steps_into" sStepsInto f fd) (B : BkC K mg C) (GM_stages : FnOk P w K mg base CX0 1 fT fdT ["self"] (spBkStages K C)) (bM_stages : Binds K fdT ["self"] []) (m_stages : Meth K C "stages" fT) (GM_names : FnOk P w K mg base CX0 1 fN fdN ["self"] (spBkNames K C)) (bM_names : Binds K fdN ["self"] []) (m_names : Meth K C "names" fN)
    (GM_steps : FnOk P w K mg base CX0 1 fS fdS ["self", "course"] (spBkSteps K C)) (bM_steps : Binds K fdS ["self", "course"] []) (m_steps : Meth K C "steps" fS) (G_parts_of : FnOk P w K mg base CX0 1 fP fdP ["course", "step"] spPartsOf) (C_parts_of : CallC K mg "parts_of" ["course", "step"] fP fdP) : FnOk P w K mg base CX0 2 f fd ["book"] (spInto K C) := by
  refine F.ok scSi (fun vs H Q E h => ?_) (fun cdv A outer s H vs Q E hr h => ?_)
  · obtain ⟨p, a, cs, rfl, _⟩ := h
    rfl
  · obtain ⟨p, a, cs, rfl, hB, q⟩ := h
    refine ⟨_, pss_cons (Ka.ps_setDcT (i := 1) (own := [("stage", 6)]) (g := gName 6) (tt := tYes) rfl (hu_of hr) scSi.nd rfl rfl (Ka.sw_dc rfl rfl rfl rfl) (pi_tup (pe_meth0 (pv 0) B.cl m_stages GM_stages (hr.mono (by decide)) bM_stages .nil pass0)) (blkOk_by (own := [("stage", 6)]) (N := nSi) (sc := defScope sStepsInto) (by decide +kernel)) (fun _ _ _ _ _ => (pg_name (i := 6) scSi.nd rfl (Or.inl rfl))) (fun _ _ _ _ _ => pts_nil) (fun _ _ _ _ _ => (pv 6)) (fun _ _ _ _ _ => (pe_lst pa_nil)))
      (pss_cons (ps_for PassesOwn.never rfl (pi_tup (pe_meth0 (pv 0) B.cl m_names GM_names (hr.mono (by decide)) bM_names .nil pass0)) (pg_name (i := 2) scSi.nd rfl (Or.inl rfl))
        (pss_one (ps_for PassesOwn.never rfl (pi_tup (pe_meth (pv 0) B.cl m_steps GM_steps (hr.mono (by decide)) bM_steps .nil pass0 (pa_cons (pv 2) pa_nil))) (pg_name (i := 3) scSi.nd rfl (Or.inl rfl))
          (pss_cons (ps_set (i := 4) scSi.nd rfl (Or.inl rfl) (pe_call G_parts_of (hr.mono (by decide)) (by rfl) C_parts_of.g C_parts_of.kp C_parts_of.b .nil pass0 (pa_cons (pv 2) (pa_cons (pv 3) pa_nil))))
          (pss_one (ps_for PassesOwn.never rfl (pi_tup (pv 4)) (pg_name (i := 5) scSi.nd rfl (Or.inl rfl))
            (pss_one (ps_expr (pe_bm PySem.F.plainAttrs_list PySem.F.slot_list_append PySem.F.type_list_append mt_append (pe_dget (hu_of hr) (pv 1) (pv 5) (fun _ _ => rfl)) (pa_cons (pe_tup (pa_cons (pe_tup (pa_cons (pv 2) (pa_cons (pe_ix ix_tup (pv 3) pe_int (fun _ _ => rfl)) pa_nil))) (pa_cons (pv 3) (pa_cons (pv 4) pa_nil)))) pa_nil))))))))))
      (pss_one (ps_ret (pv 1)))), ?_⟩
    obtain ⟨dx, fs, P1, S1, E1, L1, S, hp, L, hC, ok, _⟩ := id hB
    have st60 := ok.st
    have n8 := ok.n8
    have sN := stagesS_nd ok.nd
    have sL := stagesS_len cs
    refine ⟨_, rfl, p, dx, fs, rfl, hp, L.no _ (by decide +kernel), p, a, cs, rfl, hB, fun q1 hq1 => ?_⟩
    obtain ⟨SL, e1, e2, e3⟩ := hq1
    have lSL : SL.length ≤ 60 := by
      have := congrArg List.length e2
      rw [List.length_map] at this
      omega
    refine ⟨q1, rfl, ⟨_, sqT_new e1⟩, fun D nD => ?_⟩
    refine Ka.dcTt_it (walk_tup (K := K) (a := q1) (xs := SL.map fun t => V.ref t.1)) (fun i G => ∃ M : List ME, Same H G ∧ G D = some (.dT (kvT (trM M))) ∧ M.map (·.1) = (stagesS cs).take i ∧ LsAt H G D 0 (trM M) ∧ ∀ t ∈ M, t.2.2 = []) ⟨[], same_new nD, upd_same, rfl, ⟨(fun t ht => nomatch ht), List.nodup_nil⟩, fun t ht => nomatch ht⟩ (fun _ _ _ h => sqT_new (h.choose_spec.1 _ _ e1)) (fun i x G G' hi h y => ?_) (fun G h => ?_)
    · obtain ⟨rfl, hx⟩ := y
      obtain ⟨t0, ht0, rfl⟩ := get_map hx
      obtain ⟨M, sG, eG, kM, lM, z0⟩ := h
      refine ⟨rfl, _, rfl, smallE (by show 0 ≤ 1000000; decide), fun l nl => ?_⟩
      have hst : (stagesS cs)[i]? = some t0.2 := by rw [← e2, List.getElem?_map, ht0]; rfl
      have sl := same_new (o := .lst []) nl
      have el : upd G' l (.lst []) l = some (.lst []) := upd_same
      have nT : ∀ t ∈ trM M, t.2.1 ≠ l := fun t ht => ne_of_none (lM.st t ht).1 nl
      have lM := lM.mono fun t _ o e => sl _ _ e
      have lD : l ≠ D := fun z => by
        rw [z, eG] at nl
        cases nl
      have nlH := sG.free nl
      have eG := sl _ _ eG
      have sG := sG.trans sl
      generalize upd G' l (.lst []) = G5 at sl el lM eG sG
      have len : (kvT (trM M)).length ≤ 60 := by
        have h1 : (kvT (trM M)).length = (M.map (·.1)).length := by unfold kvT trM; rw [List.length_map, List.length_map, List.length_map]
        rw [h1, kM, List.length_take]
        omega
      refine ⟨kvT (trM M), stK t0.2, t0.1, rfl, sG _ _ (e3 t0 (List.mem_of_getElem? ht0)), eG, small (by omega), M ++ [(t0.2, l, [])], fun b o e => ?_, ?_, ?_, ?_, fun t ht => ?_⟩
      · rw [upd_ne (ne_of_none e nD)]
        exact sG _ _ e
      · rw [upd_same, putK_new]
        · unfold kvT trM
          rw [List.map_append, List.map_append]
          rfl
        · rw [kvT_keys, trM_keys, kM]
          intro z
          obtain ⟨y, hy, e⟩ := List.mem_map.mp z
          have := stK_inj e
          subst this
          have nd2 := sN
          rw [← List.take_append_drop i (stagesS cs), drop_of_get hst, List.nodup_append] at nd2
          exact nd2.2.2 _ hy _ List.mem_cons_self rfl
      · rw [List.map_append, kM, take_of_get hst]
        rfl
      · have e5 : trM (M ++ [(t0.2, l, [])]) = trM M ++ [(stK t0.2, l, [])] := by unfold trM; rw [List.map_append]; rfl
        rw [e5]
        refine (lM.snoc el nlH lD nT).mono fun t ht o e => ?_
        rw [upd_ne]
        · exact e
        · rcases List.mem_append.mp ht with z | z
          · exact (lM.st t z).2.2.1
          · rw [List.mem_singleton.mp z]
            exact lD
      · rcases List.mem_append.mp ht with z | z
        · exact z0 t z
        · rw [List.mem_singleton.mp z]
    · obtain ⟨M, sG, eG, kM, lM, z0⟩ := h
      have lS2 : SL.length = (stagesS cs).length := by rw [← e2, List.length_map]
      rw [List.length_map, lS2, List.take_length] at kM
      refine ⟨_, rfl, p, dx, fs, rfl, sG _ _ hp, L.no _ (by decide +kernel), p, a, cs, rfl, hB.mono sG, fun H2 qn s2 nqn eqn => ?_⟩
      have sG2 := sG.trans s2
      have lM := lM.mono fun t _ o e => s2 _ _ e
      have eG := s2 _ _ eG
      refine ⟨qn, rfl, ⟨_, sqT_new eqn⟩, ?_⟩
      have kndM : ∀ {M : List ME}, M.map (·.1) = stagesS cs → ((trM M).map (·.1)).Nodup := fun {M} e => by
        rw [trM_keys, e]
        exact stK_nd sN
      refine for_it (walk_tup (K := K) (a := qn) (xs := cs.map fun c => V.str c.nm)) (fun i σ Z => ∃ (x2 x3 x4 x5 x6 : Option V) (M : List ME), σ = [some (.ref p), some (.ref D), x2, x3, x4, x5, x6] ∧ Same H Z ∧ TS H2 Z ∧ Z D = some (.dT (kvT (trM M))) ∧ M.map (·.1) = stagesS cs ∧ LsAt H Z D (2000 * i) (trM M) ∧ Held cs Z (doneTo cs i 0 0) M) ⟨none, none, none, none, none, M, rfl, sG2, TS.refl, eG, kM, lM, ⟨fun t ht x hx => (by rw [z0 t ht] at hx; exact nomatch hx), fun t ht l d => ?_⟩⟩ (fun i σ Z _ h => ?_) (fun i x σ Z Z' hi h y => ?_) (fun σ Z h => ?_)
      · rcases d with ⟨d, _⟩ | ⟨c, _, ⟨j', _, hj, _⟩ | ⟨_, _, _, d⟩⟩
        · unfold linesS at d
          rw [List.take_zero] at d
          exact nomatch d
        · exact absurd hj (Nat.not_lt_zero _)
        · rw [List.take_zero] at d
          exact nomatch d
      · obtain ⟨_, _, _, _, _, _, _, _, tZ, _⟩ := h
        exact sqT_new (tZ _ _ eqn)
      · obtain ⟨rfl, hx⟩ := y
        obtain ⟨c, hc, rfl⟩ := get_map hx
        obtain ⟨x2, x3, x4, x5, x6, M, rfl, sZ, t2Z, eZ, kM, lM, hM⟩ := h
        have mc := List.mem_of_getElem? hc
        have okc := ok.ok c mc
        have osz := okc.sz
        have hi8 := lt_of_get hc
        have sHZ := sZ
        have mcZ := (hC.2 c mc).mono sHZ
        refine ⟨_, rfl, p, dx, fs, rfl, sHZ _ _ hp, L.no _ (by decide +kernel), _, rfl, p, a, cs, c, rfl, hB.mono sHZ, mc, ?_⟩
        refine ⟨c.sa, rfl, ⟨_, mcZ.s⟩, ?_⟩
        refine for_it (walk_tup (K := K) (a := c.sa) (xs := c.ss.map fun p => V.ref p.1)) (fun j σ Y => ∃ (x3 x4 x5 x6 : Option V) (M : List ME), σ = [some (.ref p), some (.ref D), some (.str c.nm), x3, x4, x5, x6] ∧ Same H Y ∧ TS H2 Y ∧ Y D = some (.dT (kvT (trM M))) ∧ M.map (·.1) = stagesS cs ∧ LsAt H Y D (2000 * i + 2 * j) (trM M) ∧ Held cs Y (doneTo cs i j 0) M) ⟨x3, x4, x5, x6, M, rfl, sZ, t2Z, eZ, kM, lM, hM⟩ (fun j σ Y _ h => ?_) (fun j x σ Y Y' hj h y => ?_) (fun σ Y h => ?_)
        · obtain ⟨_, _, _, _, _, _, sY, _⟩ := h
          exact Same.sqT sY (hC.2 c mc).s
        · obtain ⟨rfl, hx⟩ := y
          obtain ⟨sp, hsp, rfl⟩ := get_map hx
          obtain ⟨x3, x4, x5, x6, M, rfl, sY, t2Y, eY, kM, lM, hM⟩ := h
          have msp := List.mem_of_getElem? hsp
          have sHY := sY
          have mcY := (hC.2 c mc).mono sHY
          have hjl := lt_of_get hsp
          refine ⟨_, rfl, _, rfl, sp.1, c.nm, sp.2, rfl, mcY.p sp msp, fun Y1 qp s1 nqp hpp => ?_⟩
          obtain ⟨PL, p1, p2, p3⟩ := id hpp
          have lPL : PL.length ≤ 2 := by
            have := congrArg List.length p2
            rw [List.length_map] at this
            have := partsS_len c.nm sp.2
            omega
          have eY := s1 _ _ eY
          have lM := lM.mono fun t _ o e => s1 _ _ e
          have hM := hM.keep fun _ _ e => s1 _ _ e
          have sY := sY.trans s1
          have t2Y := t2Y.trans (TS.of s1)
          refine ⟨_, rfl, qp, rfl, ⟨_, sqT_new p1⟩, ?_⟩
          refine for_it (walk_tup (K := K) (a := qp) (xs := PL.map fun t => V.ref t.1)) (fun m σ X => ∃ (x5 x6 : Option V) (M : List ME), σ = [some (.ref p), some (.ref D), some (.str c.nm), some (.ref sp.1), some (.ref qp), x5, x6] ∧ Same H X ∧ TS H2 X ∧ TS Y1 X ∧ X D = some (.dT (kvT (trM M))) ∧ M.map (·.1) = stagesS cs ∧ LsAt H X D (2000 * i + 2 * j + m) (trM M) ∧ Held cs X (doneTo cs i j m) M) ⟨x5, x6, M, rfl, sY, t2Y, TS.refl, eY, kM, lM, hM⟩ (fun m σ X _ h => ?_) (fun m x σ X X' hm h y => ?_) (fun σ X h => ?_)
          · obtain ⟨_, _, _, _, _, _, tX, _⟩ := h
            exact sqT_new (tX _ _ p1)
          · obtain ⟨rfl, hx⟩ := y
            obtain ⟨pt, hpt, rfl⟩ := get_map hx
            obtain ⟨x5, x6, M, rfl, sX, t2X, tX, eX, kM, lM, hM⟩ := h
            have mpt := List.mem_of_getElem? hpt
            have hml := lt_of_get hpt
            have hk : (partsS c.nm sp.2)[m]? = some pt.2 := by rw [← p2, List.getElem?_map, hpt]; rfl
            have mst : pt.2 ∈ stagesS cs := parts_stage ok mc msp (List.mem_of_getElem? hk)
            rw [← kM] at mst
            obtain ⟨t, ht, et⟩ := List.mem_map.mp mst
            have kn := kndM kM
            have htr : (stK t.1, t.2.1, t.2.2.map fun x => V.ref x.e) ∈ trM M := List.mem_map.mpr ⟨t, ht, rfl⟩
            have hv : valV (kvT (trM M)) (stK pt.2) = some (.ref t.2.1) := valV_mem (by rw [kvT_keys]; exact kn) (List.mem_map.mpr ⟨_, htr, by rw [et]⟩)
            obtain ⟨a1, a2, a3, a4⟩ := lM.st _ htr
            have eS := tX _ _ (s1 _ _ (mcY.p sp msp))
            have ePt : X' pt.1 = some (.tup ((stK pt.2).map kV)) := tX _ _ (p3 pt mpt)
            refine ⟨_, rfl, _, rfl, D, .ref t.2.1, rfl, (hv ▸ DGet.t eX ePt), .inl ⟨rfl, _, sqL_new a1⟩, _, rfl, _, rfl, sp.1, _, _, .int (sp.2.n : Nat), rfl, rfl, sqT_new eS, rfl, smallE (by show 2 ≤ 1000000; decide), fun u nu => ⟨_, rfl, _, rfl, smallE (by show 3 ≤ 1000000; decide), fun e ne => ?_⟩⟩
            have su := same_new (o := .tup [V.str c.nm, V.int (sp.2.n : Nat)]) nu
            have eu : upd X' u (.tup [V.str c.nm, V.int (sp.2.n : Nat)]) u = some (.tup (stV (c.nm, sp.2.n))) := upd_same
            have lM := lM.mono fun t _ o e => su _ _ e
            have a1 := su _ _ a1
            have eX := su _ _ eX
            have hM := hM.keep fun _ _ e => su _ _ e
            have tX := tX.trans (TS.of su)
            have t2X := t2X.trans (TS.of su)
            have eS := su _ _ eS
            have sX := sX.trans su
            generalize upd X' u (.tup [V.str c.nm, V.int (sp.2.n : Nat)]) = X1 at su eu lM a1 eX hM tX t2X sX ne eS
            have se := same_new (o := .tup [V.ref u, V.ref sp.1, V.ref qp]) ne
            have ee : upd X1 e (.tup [V.ref u, V.ref sp.1, V.ref qp]) e = some (.tup [V.ref u, V.ref sp.1, V.ref qp]) := upd_same
            have lM := lM.mono fun t _ o e => se _ _ e
            have a1 := se _ _ a1
            have eX := se _ _ eX
            have hM := hM.keep fun _ _ e => se _ _ e
            have tX := tX.trans (TS.of se)
            have t2X := t2X.trans (TS.of se)
            have eS := se _ _ eS
            have eu := se _ _ eu
            have sX := sX.trans se
            generalize upd X1 e (.tup [V.ref u, V.ref sp.1, V.ref qp]) = X2 at se ee lM a1 eX hM tX t2X sX eS eu
            refine ⟨t.2.1, _, _, rfl, rfl, a1, by rw [List.length_map]; exact small (by rw [List.length_map] at a4; omega), ?_⟩
            have tK : ∀ {c : Addr} {xs : List V}, X2 c = some (.tup xs) → upd X2 t.2.1 (.lst ((t.2.2.map fun x => V.ref x.e) ++ [.ref e])) c = some (.tup xs) := fun {c xs} z => by
              rw [upd_ne]
              · exact z
              · intro w
                rw [w, a1] at z
                cases z
            have hx : EnAt X2 ⟨e, u, c.nm, sp.2, sp.1, qp⟩ := ⟨ee, eu, eS, PL, tX _ _ p1, p2, fun t ht => tX _ _ (p3 t ht)⟩
            refine ⟨some (.ref pt.1), x6, pushM M pt.2 ⟨e, u, c.nm, sp.2, sp.1, qp⟩, rfl, fun b o z => ?_, (fun c xs z => tK (t2X c xs z)), (fun c xs z => tK (tX c xs z)), ?_, by rw [pushM_keys]; exact kM, ?_, ?_⟩
            · rw [upd_ne (ne_of_none z a2)]
              exact sX _ _ z
            · rw [upd_ne a3.symm, trM_push, pushT_kv]
              exact eX
            · rw [trM_push, ← et]
              exact lM.push kn htr
            · exact (hM.push hx (mem_linesS.mpr ⟨c, mc, sp, msp, rfl⟩) (List.mem_of_getElem? hk) fun l t _ d => doneTo_part hc hsp hk l t.1 d).keep fun c xs z => tK z
          · obtain ⟨x5, x6, M, rfl, sX, t2X, tX, eX, kM, lM, hM⟩ := h
            rw [List.length_map] at lM hM
            exact ⟨_, _, _, _, M, rfl, sX, t2X, eX, kM, lM.le (by omega), hM.less fun l t _ d => doneTo_step hc hsp (by rw [← p2, List.length_map]) l t.1 d⟩
        · obtain ⟨x3, x4, x5, x6, M, rfl, sY, t2Y, eY, kM, lM, hM⟩ := h
          rw [List.length_map] at lM hM
          exact ⟨_, _, _, _, _, M, rfl, sY, t2Y, eY, kM, lM.le (by omega), hM.less fun l t _ d => doneTo_course hc l t.1 d⟩
      · obtain ⟨x2, x3, x4, x5, x6, M, rfl, sZ, t2Z, eZ, kM, lM, hM⟩ := h
        rw [List.length_map] at lM hM
        refine ⟨_, rfl, q Z D sZ nD ⟨M, eZ, kM, fun t ht => ?_, hM.less fun l t _ d => doneTo_all l t.1 d⟩⟩
        have htr : (stK t.1, t.2.1, t.2.2.map fun x => V.ref x.e) ∈ trM M := List.mem_map.mpr ⟨t, ht, rfl⟩
        obtain ⟨a1, a2, a3, a4⟩ := lM.st _ htr
        rw [List.length_map] at a4
        exact ⟨a1, by omega⟩
end
end Kb
/-! Least costs found by a heap (own text). -/
namespace Kz
variable {α : Type} [DecidableEq α]
abbrev Cost := Nat × Nat
def cle (a b : Cost) : Prop := a.1 < b.1 ∨ (a.1 = b.1 ∧ a.2 ≤ b.2)
theorem cle_refl (a : Cost) : cle a a := .inr ⟨rfl, Nat.le_refl _⟩
theorem cle_trans {a b c : Cost} (h1 : cle a b) (h2 : cle b c) : cle a c := by
  unfold cle at *
  omega
theorem cle_total (a b : Cost) : cle a b ∨ cle b a := by
  unfold cle
  omega
theorem cle_anti {a b : Cost} (h1 : cle a b) (h2 : cle b a) : a = b := by
  unfold cle at *
  exact Prod.ext (by omega) (by omega)
theorem cle_pw {a b : Cost} (h1 : a.1 ≤ b.1) (h2 : a.2 ≤ b.2) : cle a b := by
  unfold cle
  omega
theorem cle_fst {a b : Cost} (h : cle a b) : a.1 ≤ b.1 := by
  unfold cle at h
  omega
def cadd (a b : Cost) : Cost := (a.1 + b.1, a.2 + b.2)
/-- a line: who uses it, what it needs, what it takes besides -/
structure Ln (α : Type) where
  user : α
  parts : List α
  base : Cost
def keys (dn : List (α × Cost)) : List α := dn.map (·.1)
theorem keys_app (dn r : List (α × Cost)) : keys (dn ++ r) = keys dn ++ keys r := List.map_append
theorem mem_keys {dn : List (α × Cost)} {x : α × Cost} (h : x ∈ dn) : x.1 ∈ keys dn := List.mem_map.mpr ⟨x, h, rfl⟩
def vf : List (α × Cost) → α → Cost
  | [], _ => (0, 0)
  | p :: r, a => if p.1 = a then p.2 else vf r a
theorem vf_app : ∀ {dn : List (α × Cost)} (r : List (α × Cost)) {a : α}, a ∈ keys dn → vf (dn ++ r) a = vf dn a
  | [], _, _, h => nomatch h
  | p :: dn, r, a, h => by
    show (if p.1 = a then p.2 else vf (dn ++ r) a) = if p.1 = a then p.2 else vf dn a
    by_cases e : p.1 = a
    · rw [if_pos e, if_pos e]
    · rw [if_neg e, if_neg e]
      refine vf_app r ?_
      rcases List.mem_cons.mp (show a ∈ p.1 :: keys dn from h) with z | z
      · exact absurd z.symm e
      · exact z
theorem vf_new : ∀ {dn : List (α × Cost)} {a : α} {c : Cost}, a ∉ keys dn → vf (dn ++ [(a, c)]) a = c
  | [], a, c, _ => by
    show (if a = a then c else _) = c
    rw [if_pos rfl]
  | p :: dn, a, c, h => by
    have h : a ∉ p.1 :: keys dn := h
    rw [List.mem_cons, not_or] at h
    show (if p.1 = a then p.2 else vf (dn ++ [(a, c)]) a) = c
    rw [if_neg (fun z => h.1 z.symm)]
    exact vf_new h.2
theorem vf_mem : ∀ {dn : List (α × Cost)} {a : α} {c : Cost}, (keys dn).Nodup → (a, c) ∈ dn → vf dn a = c
  | [], _, _, _, h => nomatch h
  | p :: dn, a, c, nd, h => by
    have nd : (p.1 :: keys dn).Nodup := nd
    rw [List.nodup_cons] at nd
    show (if p.1 = a then p.2 else vf dn a) = c
    rcases List.mem_cons.mp h with e | e
    · rw [← e, if_pos rfl]
    · have : ¬ p.1 = a := fun z => nd.1 (by rw [z]; exact mem_keys e)
      rw [if_neg this]
      exact vf_mem nd.2 e
theorem mem_vf : ∀ {dn : List (α × Cost)} {a : α}, a ∈ keys dn → (a, vf dn a) ∈ dn
  | [], _, h => nomatch h
  | p :: dn, a, h => by
    by_cases e : p.1 = a
    · have : vf (p :: dn) a = p.2 := if_pos e
      rw [this, ← e]
      exact List.mem_cons_self
    · have h : a ∈ p.1 :: keys dn := h
      have : vf (p :: dn) a = vf dn a := if_neg e
      rw [this]
      rcases List.mem_cons.mp h with z | z
      · exact absurd z.symm e
      · exact List.mem_cons_of_mem _ (mem_vf z)
/-- what a line takes -/
def lcF (f : α → Cost) (ps : List α) (b : Cost) : Cost := ps.foldl (fun acc p => cadd acc (f p)) b
def lc (dn : List (α × Cost)) (ln : Ln α) : Cost := lcF (vf dn) ln.parts ln.base
theorem lcF_congr {f g : α → Cost} : ∀ {ps : List α} (b : Cost), (∀ p ∈ ps, f p = g p) → lcF f ps b = lcF g ps b
  | [], _, _ => rfl
  | p :: ps, b, h => by
    show lcF f ps (cadd b (f p)) = lcF g ps (cadd b (g p))
    rw [h p List.mem_cons_self]
    exact lcF_congr _ fun q hq => h q (List.mem_cons_of_mem _ hq)
theorem lcF_ge (f : α → Cost) : ∀ (ps : List α) (b : Cost), b.1 ≤ (lcF f ps b).1 ∧ b.2 ≤ (lcF f ps b).2
  | [], b => ⟨Nat.le_refl _, Nat.le_refl _⟩
  | p :: ps, b => by
    have := lcF_ge f ps (cadd b (f p))
    have h1 : (cadd b (f p)).1 = b.1 + (f p).1 := rfl
    have h2 : (cadd b (f p)).2 = b.2 + (f p).2 := rfl
    have e : lcF f (p :: ps) b = lcF f ps (cadd b (f p)) := rfl
    rw [e]
    omega
theorem lcF_ge_part (f : α → Cost) : ∀ {ps : List α} (b : Cost) {p : α}, p ∈ ps → (f p).1 ≤ (lcF f ps b).1 ∧ (f p).2 ≤ (lcF f ps b).2
  | [], _, _, h => nomatch h
  | q :: ps, b, p, h => by
    have e : lcF f (q :: ps) b = lcF f ps (cadd b (f q)) := rfl
    rw [e]
    rcases List.mem_cons.mp h with z | z
    · have := lcF_ge f ps (cadd b (f q))
      have h1 : (cadd b (f q)).1 = b.1 + (f q).1 := rfl
      have h2 : (cadd b (f q)).2 = b.2 + (f q).2 := rfl
      rw [z]
      omega
    · exact lcF_ge_part f _ z
theorem lc_app {dn : List (α × Cost)} (r : List (α × Cost)) {ln : Ln α} (h : ∀ p ∈ ln.parts, p ∈ keys dn) : lc (dn ++ r) ln = lc dn ln := lcF_congr _ fun p hp => vf_app r (h p hp)
theorem lc_ge {dn : List (α × Cost)} {ln : Ln α} {p : α} (h : p ∈ ln.parts) : cle (vf dn p) (lc dn ln) := cle_pw (lcF_ge_part _ _ h).1 (lcF_ge_part _ _ h).2
/-- why a stage has its cost -/
def Just (E : List α) (LN : List (Ln α)) (e0 : Cost) (dn : List (α × Cost)) (a : α) (c : Cost) : Prop := (a ∈ E ∧ c = e0) ∨ ∃ ln ∈ LN, ln.user = a ∧ (∀ p ∈ ln.parts, p ∈ keys dn) ∧ c = lc dn ln
theorem Just.app {E : List α} {LN : List (Ln α)} {e0 : Cost} {dn : List (α × Cost)} (r : List (α × Cost)) {a : α} {c : Cost} (h : Just E LN e0 dn a c) : Just E LN e0 (dn ++ r) a c := by
  rcases h with h | ⟨ln, h1, h2, h3, h4⟩
  · exact .inl h
  · refine .inr ⟨ln, h1, h2, fun p hp => ?_, by rw [h4, lc_app r h3]⟩
    rw [keys_app]
    exact List.mem_append_left _ (h3 p hp)
structure Inv (E : List α) (LN : List (Ln α)) (e0 : Cost) (dn qs : List (α × Cost)) (pend : List (Ln α)) : Prop where
  nd : (keys dn).Nodup
  just : ∀ (i : Nat) (a : α) (c : Cost), dn[i]? = some (a, c) → Just E LN e0 (dn.take i) a c
  qjust : ∀ x ∈ qs, Just E LN e0 dn x.1 x.2
  ends : ∀ a ∈ E, a ∉ keys dn → (a, e0) ∈ qs
  endsle : ∀ a ∈ E, a ∈ keys dn → cle (vf dn a) e0
  lines : ∀ ln ∈ LN, (∀ p ∈ ln.parts, p ∈ keys dn) → ln.user ∉ keys dn → (ln.user, lc dn ln) ∈ qs ∨ ln ∈ pend
  linesle : ∀ ln ∈ LN, (∀ p ∈ ln.parts, p ∈ keys dn) → ln.user ∈ keys dn → cle (vf dn ln.user) (lc dn ln)
  mono : ∀ x ∈ dn, ∀ y ∈ qs, cle x.2 y.2
/-- all that the search gives -/
structure Settled (E : List α) (LN : List (Ln α)) (e0 : Cost) (dn : List (α × Cost)) : Prop where
  nd : (keys dn).Nodup
  just : ∀ (i : Nat) (a : α) (c : Cost), dn[i]? = some (a, c) → Just E LN e0 (dn.take i) a c
  ends : ∀ a ∈ E, a ∈ keys dn ∧ cle (vf dn a) e0
  lines : ∀ ln ∈ LN, (∀ p ∈ ln.parts, p ∈ keys dn) → ln.user ∈ keys dn ∧ cle (vf dn ln.user) (lc dn ln)
theorem inv_start {E : List α} {LN : List (Ln α)} {e0 : Cost} {qs : List (α × Cost)} (hne : ∀ ln ∈ LN, ln.parts ≠ []) (h1 : ∀ a ∈ E, (a, e0) ∈ qs) (h2 : ∀ x ∈ qs, x.1 ∈ E ∧ x.2 = e0) : Inv E LN e0 [] qs [] where
  nd := List.nodup_nil
  just := fun i a c h => by simp at h
  qjust := fun x hx => .inl (h2 x hx)
  ends := fun a ha _ => h1 a ha
  endsle := fun a _ h => nomatch h
  lines := fun ln hl hp _ => by
    cases e : ln.parts with
    | nil => exact absurd e (hne ln hl)
    | cons p r => exact nomatch hp p (by rw [e]; exact List.mem_cons_self)
  linesle := fun ln _ _ h => nomatch h
  mono := fun x h => nomatch h
theorem inv_skip {E : List α} {LN : List (Ln α)} {e0 : Cost} {dn qs qs' : List (α × Cost)} {a : α} {c : Cost} (I : Inv E LN e0 dn qs []) (p : qs.Perm ((a, c) :: qs')) (h : a ∈ keys dn) : Inv E LN e0 dn qs' [] where
  nd := I.nd
  just := I.just
  qjust := fun x hx => I.qjust x (p.mem_iff.mpr (List.mem_cons_of_mem _ hx))
  ends := fun b hb nb => (List.mem_cons.mp (p.mem_iff.mp (I.ends b hb nb))).elim (fun e => absurd (by rw [show b = a from congrArg Prod.fst e]; exact h) nb) id
  endsle := I.endsle
  lines := fun ln hl hp hu => (I.lines ln hl hp hu).elim (fun z => .inl ((List.mem_cons.mp (p.mem_iff.mp z)).elim (fun e => absurd (by rw [show ln.user = a from congrArg Prod.fst e]; exact h) hu) id)) (fun z => nomatch z)
  linesle := I.linesle
  mono := fun x hx y hy => I.mono x hx y (p.mem_iff.mpr (List.mem_cons_of_mem _ hy))
theorem inv_take {E : List α} {LN : List (Ln α)} {e0 : Cost} {dn qs qs' : List (α × Cost)} {a : α} {c : Cost} {pend : List (Ln α)} (I : Inv E LN e0 dn qs []) (p : qs.Perm ((a, c) :: qs')) (h : a ∉ keys dn) (least : ∀ y ∈ qs', cle c y.2) (hp : ∀ ln ∈ LN, a ∈ ln.parts → ln ∈ pend) : Inv E LN e0 (dn ++ [(a, c)]) qs' pend := by
  have mq : (a, c) ∈ qs := p.mem_iff.mpr List.mem_cons_self
  have sub : ∀ {y}, y ∈ qs' → y ∈ qs := fun hy => p.mem_iff.mpr (List.mem_cons_of_mem _ hy)
  have low : ∀ y ∈ qs, cle c y.2 := fun y hy => (List.mem_cons.mp (p.mem_iff.mp hy)).elim (fun e => by rw [e]; exact cle_refl _) (least y)
  have hk : ∀ b, b ∈ keys (dn ++ [(a, c)]) ↔ b ∈ keys dn ∨ b = a := fun b => by
    rw [keys_app, List.mem_append]
    show _ ∨ b ∈ [a] ↔ _
    rw [List.mem_singleton]
  have old : ∀ {ps : List α}, (∀ q ∈ ps, q ∈ keys (dn ++ [(a, c)])) → a ∉ ps → ∀ q ∈ ps, q ∈ keys dn := fun h1 h2 q hq => ((hk q).mp (h1 q hq)).elim id fun e => absurd (by rw [← e]; exact hq) h2
  have top : ∀ b, b ∈ keys (dn ++ [(a, c)]) → cle (vf (dn ++ [(a, c)]) b) c := fun b hb => by
    rcases (hk b).mp hb with z | z
    · rw [vf_app _ z]
      exact I.mono _ (mem_vf z) _ mq
    · rw [z, vf_new h]
      exact cle_refl _
  refine ⟨?_, fun i b d hd => ?_, fun x hx => (I.qjust x (sub hx)).app _, fun b hb nb => ?_, fun b hb kb => ?_, fun ln hl hps hu => ?_, fun ln hl hps hu => ?_, fun x hx y hy => ?_⟩
  · rw [keys_app, List.nodup_append]
    refine ⟨I.nd, by simp [keys], fun x hx y hy e => ?_⟩
    have hy : y ∈ [a] := hy
    rw [List.mem_singleton] at hy
    exact h (by rw [← hy, ← e]; exact hx)
  · by_cases hi : i < dn.length
    · rw [List.getElem?_append_left hi] at hd
      rw [List.take_append_of_le_length (Nat.le_of_lt hi)]
      exact I.just i b d hd
    · rw [List.getElem?_append_right (Nat.le_of_not_lt hi)] at hd
      have hi2 : i - dn.length = 0 := by
        have := (List.getElem?_eq_some_iff.mp hd).1
        rw [List.length_singleton] at this
        omega
      rw [hi2] at hd
      cases hd
      have : i = dn.length := by omega
      rw [this, List.take_append_of_le_length (Nat.le_refl _), List.take_length]
      exact I.qjust _ mq
  · have nb' : b ∉ keys dn ∧ b ≠ a := ⟨fun z => nb ((hk b).mpr (.inl z)), fun z => nb ((hk b).mpr (.inr z))⟩
    exact (List.mem_cons.mp (p.mem_iff.mp (I.ends b hb nb'.1))).elim (fun e => absurd (congrArg Prod.fst e) nb'.2) id
  · rcases (hk b).mp kb with z | z
    · rw [vf_app _ z]
      exact I.endsle b hb z
    · rw [z, vf_new h]
      exact low _ (I.ends a (z ▸ hb) h)
  · by_cases ha : a ∈ ln.parts
    · exact .inr (hp ln hl ha)
    · have o := old hps ha
      have nu : ln.user ∉ keys dn ∧ ln.user ≠ a := ⟨fun z => hu ((hk _).mpr (.inl z)), fun z => hu ((hk _).mpr (.inr z))⟩
      rw [lc_app _ o]
      rcases I.lines ln hl o nu.1 with z | z
      · exact .inl ((List.mem_cons.mp (p.mem_iff.mp z)).elim (fun e => absurd (congrArg Prod.fst e) nu.2) id)
      · exact nomatch z
  · by_cases ha : a ∈ ln.parts
    · refine cle_trans (top _ hu) ?_
      have := lc_ge (dn := dn ++ [(a, c)]) ha
      rwa [vf_new h] at this
    · have o := old hps ha
      rw [lc_app _ o]
      rcases (hk _).mp hu with z | z
      · rw [vf_app _ z]
        exact I.linesle ln hl o z
      · rw [z, vf_new h]
        have := I.lines ln hl o (by rw [z]; exact h)
        rcases this with w | w
        · exact low _ w
        · exact nomatch w
  · rcases List.mem_append.mp hx with z | z
    · exact I.mono x z y (sub hy)
    · rw [List.mem_singleton.mp z]
      exact least y hy
theorem inv_drop {E : List α} {LN : List (Ln α)} {e0 : Cost} {dn qs : List (α × Cost)} {ln : Ln α} {pend : List (Ln α)} (I : Inv E LN e0 dn qs (ln :: pend)) (h : ln.user ∈ keys dn ∨ ¬ ∀ p ∈ ln.parts, p ∈ keys dn) : Inv E LN e0 dn qs pend where
  nd := I.nd
  just := I.just
  qjust := I.qjust
  ends := I.ends
  endsle := I.endsle
  lines := fun l hl hp hu => (I.lines l hl hp hu).elim .inl fun z => (List.mem_cons.mp z).elim (fun e => by
    subst e
    exact h.elim (fun z => absurd z hu) (fun z => absurd hp z)) .inr
  linesle := I.linesle
  mono := I.mono
theorem inv_push {E : List α} {LN : List (Ln α)} {e0 : Cost} {dn qs qs' : List (α × Cost)} {ln : Ln α} {pend : List (Ln α)} {a : α} (I : Inv E LN e0 dn qs (ln :: pend)) (hl : ln ∈ LN) (hp : ∀ p ∈ ln.parts, p ∈ keys dn) (ha : a ∈ ln.parts) (top : ∀ x ∈ dn, cle x.2 (vf dn a)) (p : qs'.Perm (qs ++ [(ln.user, lc dn ln)])) : Inv E LN e0 dn qs' pend where
  nd := I.nd
  just := I.just
  qjust := fun x hx => (List.mem_append.mp (p.mem_iff.mp hx)).elim (I.qjust x) fun z => by
    rw [List.mem_singleton.mp z]
    exact .inr ⟨ln, hl, rfl, hp, rfl⟩
  ends := fun b hb nb => p.mem_iff.mpr (List.mem_append_left _ (I.ends b hb nb))
  endsle := I.endsle
  lines := fun l hl2 hp2 hu => (I.lines l hl2 hp2 hu).elim (fun z => .inl (p.mem_iff.mpr (List.mem_append_left _ z))) fun z => (List.mem_cons.mp z).elim (fun e => .inl (p.mem_iff.mpr (List.mem_append_right _ (by rw [e]; exact List.mem_cons_self)))) .inr
  linesle := I.linesle
  mono := fun x hx y hy => (List.mem_append.mp (p.mem_iff.mp hy)).elim (I.mono x hx y) fun z => by
    rw [List.mem_singleton.mp z]
    exact cle_trans (top x hx) (lc_ge ha)
theorem inv_done {E : List α} {LN : List (Ln α)} {e0 : Cost} {dn : List (α × Cost)} (I : Inv E LN e0 dn [] []) : Settled E LN e0 dn where
  nd := I.nd
  just := I.just
  ends := fun a ha => by
    by_cases h : a ∈ keys dn
    · exact ⟨h, I.endsle a ha h⟩
    · exact nomatch I.ends a ha h
  lines := fun ln hl hp => by
    by_cases h : ln.user ∈ keys dn
    · exact ⟨h, I.linesle ln hl hp h⟩
    · exact (I.lines ln hl hp h).elim (fun z => nomatch z) (fun z => nomatch z)
end Kz
namespace Kb
open PySem PySem.Spec PyProof.Rows L2
/-! ### costs where they stand; with_parts -/
abbrev Cost := Kz.Cost
def coV (c : Cost) : List V := [.int (c.1 : Int), .int (c.2 : Int)]
def KTup (K : PySem.W.Frag) (a : Addr) (xs : List V) : Prop := ∃ (o : Obj) (its : Array Value) (n : Nat), K.lookup a = some o ∧ o.cls = .type "tuple" ∧ o.data = .seq its n ∧ its.size ≤ sizeLine ∧ Vals xs its.toList
def CoAt (K : PySem.W.Frag) (H : Hp) (a : Addr) (c : Cost) : Prop := H a = some (.tup (coV c)) ∨ KTup K a (coV c)
theorem CoAt.sq {K : PySem.W.Frag} {H : Hp} {a : Addr} {c : Cost} (h : CoAt K H a c) : SqT K H a (coV c) := h.elim sqT_new .inr
theorem CoAt.ts {K : PySem.W.Frag} {H H' : Hp} {a : Addr} {c : Cost} (s : TS H H') (h : CoAt K H a c) : CoAt K H' a c := h.elim (fun e => .inl (s _ _ e)) .inr
theorem CoAt.mono {K : PySem.W.Frag} {H H' : Hp} {a : Addr} {c : Cost} (s : Same H H') (h : CoAt K H a c) : CoAt K H' a c := h.ts (TS.of s)
section
variable {P : Program} {w : World} {K : PySem.W.Frag} {mg : Str → Option Value} {base : Heap}
def spWithP (K : PySem.W.Frag) : Sp := fun vs H Q _ => ∃ (b q d : Addr) (c0 : Cost) (xs : List Stg) (kvs : List (List L2.Key × V)) (f : Stg → Cost), vs = [.ref b, .ref q, .ref d] ∧ CoAt K H b c0 ∧ PtsAt H q xs ∧ Rd H d (.dT kvs) ∧ (∀ x ∈ xs, ∃ a, valV kvs (stK x) = some (.ref a) ∧ CoAt K H a (f x)) ∧ ∀ H' r, Same H H' → H r = none → H' r = some (.tup (coV (Kz.lcF f xs c0))) → Q (.ref r) H'
abbrev nWp : List Str := ["base", "parts", "costs", "first", "second", "part"]
theorem scWp : FnScope nWp ["base", "parts", "costs"] (defScope sWithParts) := ⟨rfl, rfl, rfl, by decide +kernel, rfl, by decide +kernel, by decide +kernel⟩
theorem lcF_take {f : Stg → Cost} {xs : List Stg} {i : Nat} {x : Stg} (h : xs[i]? = some x) (b : Cost) : Kz.lcF f (xs.take (i + 1)) b = Kz.cadd (Kz.lcF f (xs.take i) b) (f x) := by
  unfold Kz.lcF
  rw [take_of_get h, List.foldl_append]
  rfl
theorem ok_withp {f : Addr} {fd : FuncData} (F : Fun K "with_parts" "with_parts" sWithParts f fd) : FnOk P w K mg base CX0 1 f fd ["base", "parts", "costs"] (spWithP K) := by
  refine F.ok scWp (fun vs H Q E h => ?_) (fun cdv A outer s H vs Q E hr h => ?_)
  · obtain ⟨b, q, d, c0, xs, kvs, f, rfl, _⟩ := h
    rfl
  · obtain ⟨b, q, d, c0, xs, kvs, cf, rfl, hb, ⟨L, h1, rfl, h3⟩, hd, hv, fin⟩ := h
    refine ⟨_, pss_cons (ps_asg (pv 0) (pg_tup rfl (pgs_cons (pg_name (i := 3) scWp.nd rfl (Or.inl rfl)) (pgs_cons (pg_name (i := 4) scWp.nd rfl (Or.inl rfl)) pgs_nil))))
      (pss_cons (ps_for PassesOwn.never rfl (pi_tup (pv 1)) (pg_name (i := 5) scWp.nd rfl (Or.inl rfl))
        (pss_cons (ps_aug (i := 3) scWp.nd rfl (Or.inl rfl) (pe_ix ix_tup (pe_dget (hu_of hr) (pv 2) (pv 5) (fun _ _ => rfl)) pe_int (fun _ _ => rfl)) ip_add)
        (pss_one (ps_aug (i := 4) scWp.nd rfl (Or.inl rfl) (pe_ix ix_tup (pe_dget (hu_of hr) (pv 2) (pv 5) (fun _ _ => rfl)) pe_int (fun _ _ => rfl)) ip_add))))
      (pss_one (ps_ret (pe_tup (pa_cons (pv 3) (pa_cons (pv 4) pa_nil)))))), ?_⟩
    refine ⟨_, rfl, b, _, rfl, hb.sq, rfl, _, _, rfl, _, _, rfl, rfl, ?_⟩
    refine ⟨_, rfl, q, rfl, ⟨_, sqT_new h1⟩, ?_⟩
    refine for_it (walk_tup (K := K) (a := q) (xs := L.map fun t => V.ref t.1)) (fun i σ Z => Z = H ∧ ∃ x5 : Option V, σ = [some (.ref b), some (.ref q), some (.ref d), some (.int ((Kz.lcF cf ((L.map (·.2)).take i) c0).1 : Int)), some (.int ((Kz.lcF cf ((L.map (·.2)).take i) c0).2 : Int)), x5]) ⟨rfl, none, rfl⟩ (fun i σ Z _ h => ?_) (fun i x σ Z Z' hi h y => ?_) (fun σ Z h => ?_)
    · rw [h.1]
      exact sqT_new h1
    · obtain ⟨rfl, hy⟩ := y
      obtain ⟨t, ht, rfl⟩ := get_map hy
      obtain ⟨rfl, x5, rfl⟩ := h
      have mt := List.mem_of_getElem? ht
      have hx : (L.map (·.2))[i]? = some t.2 := by rw [List.getElem?_map, ht]; rfl
      obtain ⟨a, ha, ca⟩ := hv t.2 (List.mem_of_getElem? hx)
      have g : DGet Z' d (.ref t.1) (some (.ref a)) := .inr ⟨kvs, stK t.2, t.1, hd, rfl, h3 t mt, ha.symm⟩
      refine ⟨_, rfl, _, rfl, _, rfl, d, .ref a, rfl, g, a, _, _, .int ((cf t.2).1 : Int), rfl, rfl, ca.sq, rfl, _, _, rfl, rfl, ?_⟩
      refine ⟨_, rfl, _, rfl, _, rfl, d, .ref a, rfl, g, a, _, _, .int ((cf t.2).2 : Int), rfl, rfl, ca.sq, rfl, _, _, rfl, rfl, ?_⟩
      refine ⟨rfl, some (.ref t.1), ?_⟩
      rw [lcF_take hx]
      rfl
    · obtain ⟨rfl, x5, rfl⟩ := h
      rw [List.take_of_length_le (by rw [List.length_map, List.length_map]; exact Nat.le_refl _)]
      refine ⟨_, rfl, _, rfl, smallE (by show 2 ≤ 1000000; decide), fun r nr => ?_⟩
      exact fin _ r (same_new nr) nr upd_same
end
end Kb
namespace Kb
open PySem PySem.Spec PyProof.Rows L2
/-! ### settled: least costs by a heap -/
structure QI where
  t : Addr
  c : Addr
  s : Addr
  x : Stg × Cost
def qD (x : Stg × Cost) : PyData := .tuple [.tuple [.int (x.2.1 : Int), .int (x.2.2 : Int)], .tuple [.str x.1.1, .int (x.1.2 : Int)]]
def qZ (q : QI) : Ka.HZ := (.ref q.t, qD q.x)
def QAt (K : PySem.W.Frag) (H : Hp) (q : QI) : Prop := H q.t = some (.tup [.ref q.c, .ref q.s]) ∧ CoAt K H q.c q.x.2 ∧ H q.s = some (.tup (stV q.x.1))
theorem QAt.ts {K : PySem.W.Frag} {H H' : Hp} {q : QI} (s : TS H H') (h : QAt K H q) : QAt K H' q := ⟨s _ _ h.1, h.2.1.ts s, s _ _ h.2.2⟩
theorem qD_lt (x y : Stg × Cost) (h : PySem.W.dataLt (qD y) (qD x) = false) : Kz.cle x.2 y.2 := by
  unfold qD at h
  rw [PySem.W.dataLt_pair (by simp [PySem.W.alike, PySem.W.alikeAll]) (by simp [PySem.W.alike, PySem.W.alikeAll]), PySem.W.dataLt_ii] at h
  unfold Kz.cle
  by_cases e : PyData.eqv (.tuple [.int (y.2.1 : Int), .int (y.2.2 : Int)]) (.tuple [.int (x.2.1 : Int), .int (x.2.2 : Int)]) = true
  · simp [PyData.eqv, PyData.eqvAll] at e
    omega
  · rw [if_neg e] at h
    have h := of_decide_eq_false h
    omega
theorem hz_qs (L : List QI) : Ka.hzV (L.map qZ) = L.map fun q => V.ref q.t := by
  unfold Ka.hzV
  rw [List.map_map]
  rfl
theorem hzOk_qs {K : PySem.W.Frag} {H : Hp} {L : List QI} (h : ∀ q ∈ L, QAt K H q) : Ka.HzOk K H (L.map qZ) where
  st := fun z hz => by
    obtain ⟨q, hq, rfl⟩ := List.mem_map.mp hz
    intro H' k
    have a := (h q hq).ts k
    exact .tup (sqT_new a.1) (.cons (.tup a.2.1.sq (.cons (.int _) (.cons (.int _) .nil))) (.cons (.tup (sqT_new a.2.2) (.cons (.str _) (.cons (.int _) .nil))) .nil))
  al := fun z hz y hy => by
    obtain ⟨q, hq, rfl⟩ := List.mem_map.mp hz
    obtain ⟨r, hr, rfl⟩ := List.mem_map.mp hy
    simp [qZ, qD, PySem.W.alike, PySem.W.alikeAll]
  nn := fun z hz => by
    obtain ⟨q, hq, rfl⟩ := List.mem_map.mp hz
    exact fun e => nomatch e
  dep := fun z hz => by
    obtain ⟨q, hq, rfl⟩ := List.mem_map.mp hz
    simp [qZ, qD, PyData.depth, PyData.depthAll]
theorem perm_of_map {α β : Type} {f : α → β} {ys zs : List β} (p : ys.Perm zs) : ∀ l : List α, zs = l.map f → ∃ l' : List α, l'.Perm l ∧ ys = l'.map f := by
  induction p with
  | nil =>
    intro l e
    cases l with
    | nil => exact ⟨[], List.Perm.refl _, rfl⟩
    | cons a l => exact nomatch e
  | cons x p ih =>
    intro l e
    cases l with
    | nil => exact nomatch e
    | cons a l =>
      rw [List.map_cons] at e
      injection e with e1 e2
      obtain ⟨l', h1, h2⟩ := ih l e2
      exact ⟨a :: l', h1.cons a, by rw [List.map_cons, h2, e1]⟩
  | swap x y r =>
    intro l e
    cases l with
    | nil => exact nomatch e
    | cons a l =>
      cases l with
      | nil => exact nomatch (List.cons.inj e).2
      | cons b l =>
        rw [List.map_cons, List.map_cons] at e
        injection e with e1 e2
        injection e2 with e2 e3
        exact ⟨b :: a :: l, List.Perm.swap _ _ _, by rw [List.map_cons, List.map_cons, e1, e2, e3]⟩
  | trans p1 p2 ih1 ih2 =>
    intro l e
    obtain ⟨l2, h1, h2⟩ := ih2 l e
    obtain ⟨l3, h3, h4⟩ := ih1 l2 h2
    exact ⟨l3, h3.trans h1, h4⟩
theorem nd_le {α : Type} [DecidableEq α] : ∀ {l m : List α}, l.Nodup → (∀ x ∈ l, x ∈ m) → l.length ≤ m.length
  | [], _, _, _ => Nat.zero_le _
  | x :: l, m, nd, h => by
    rw [List.nodup_cons] at nd
    have ih := nd_le (m := m.erase x) nd.2 fun y hy => (List.mem_erase_of_ne (fun e => nd.1 (by rw [← e]; exact hy))).mpr (h y (List.mem_cons_of_mem _ hy))
    have := List.length_erase_of_mem (h x List.mem_cons_self)
    have := List.length_pos_of_mem (h x List.mem_cons_self)
    rw [List.length_cons]
    omega
/-- what may still be pushed -/
def remM : List ME → List Stg → Nat
  | [], _ => 0
  | t :: M, ks => (if t.1 ∈ ks then 0 else t.2.2.length) + remM M ks
theorem remM_mono : ∀ (M : List ME) (ks r : List Stg), remM M (ks ++ r) ≤ remM M ks
  | [], _, _ => Nat.le_refl _
  | t :: M, ks, r => by
    have ih := remM_mono M ks r
    unfold remM
    by_cases h : t.1 ∈ ks
    · rw [if_pos h, if_pos (List.mem_append_left _ h)]
      omega
    · rw [if_neg h]
      by_cases h2 : t.1 ∈ ks ++ r
      · rw [if_pos h2]
        omega
      · rw [if_neg h2]
        omega
theorem remM_take : ∀ {M : List ME} {ks : List Stg} {t : ME}, t ∈ M → t.1 ∉ ks → remM M (ks ++ [t.1]) + t.2.2.length ≤ remM M ks
  | [], _, _, h, _ => nomatch h
  | u :: M, ks, t, h, hn => by
    rcases List.mem_cons.mp h with e | h
    · rw [← e]
      have := remM_mono M ks [t.1]
      unfold remM
      rw [if_neg hn, if_pos (by simp)]
      omega
    · have ih := remM_take h hn
      unfold remM
      by_cases h1 : u.1 ∈ ks
      · rw [if_pos h1, if_pos (List.mem_append_left _ h1)]
        omega
      · rw [if_neg h1]
        split <;> omega
theorem remM_le : ∀ (M : List ME) (ks : List Stg), (∀ t ∈ M, t.2.2.length ≤ 16000) → remM M ks ≤ 16000 * M.length
  | [], _, _ => Nat.zero_le _
  | t :: M, ks, h => by
    have ih := remM_le M ks fun u hu => h u (List.mem_cons_of_mem _ hu)
    have := h t List.mem_cons_self
    unfold remM
    rw [List.length_cons]
    split <;> omega
/-- the lines with their costs -/
def lnOf (c1 : Cost) (df : Str → Cost) (l : LN) : Kz.Ln Stg := ⟨(l.1, l.2.n), partsS l.1 l.2, if l.2.call = true then c1 else df l.2.nm⟩
def linesK (c1 : Cost) (df : Str → Cost) (cs : List CA) : List (Kz.Ln Stg) := (linesS cs).map (lnOf c1 df)
def endsS (cs : List CA) : List Stg := cs.flatMap fun c => c.es.map fun e => (c.nm, e)
theorem mem_endsS {cs : List CA} {x : Stg} : x ∈ endsS cs ↔ ∃ c ∈ cs, x.1 = c.nm ∧ x.2 ∈ c.es := by
  unfold endsS
  rw [List.mem_flatMap]
  constructor
  · rintro ⟨c, h, h2⟩
    obtain ⟨k, hk, rfl⟩ := List.mem_map.mp h2
    exact ⟨c, h, rfl, hk⟩
  · rintro ⟨c, h, e, hk⟩
    exact ⟨c, h, List.mem_map.mpr ⟨x.2, hk, by rw [← e]⟩⟩
theorem ends_stages {cs : List CA} (ok : CsOk cs) {x : Stg} (h : x ∈ endsS cs) : x ∈ stagesS cs := by
  obtain ⟨c, h1, h2, h3⟩ := mem_endsS.mp h
  exact mem_stagesS.mpr ⟨c, h1, h2, (ok.ok c h1).el _ h3⟩
theorem partsS_ne (nm : Str) (s : Stp) : partsS nm s ≠ [] := by
  unfold partsS
  split <;> simp
/-- the done stages where they stand -/
def doneKV (T : List (Addr × (Stg × Cost))) : List (List L2.Key × V) := T.map fun t => (stK t.2.1, V.ref t.1)
def DoneAt (K : PySem.W.Frag) (H : Hp) (q : Addr) (dn : List (Stg × Cost)) : Prop := ∃ T : List (Addr × (Stg × Cost)), H q = some (.dT (doneKV T)) ∧ T.map (·.2) = dn ∧ ∀ t ∈ T, CoAt K H t.1 t.2.2
theorem DoneAt.mono {K : PySem.W.Frag} {H H' : Hp} {q : Addr} {dn : List (Stg × Cost)} (s : Same H H') (h : DoneAt K H q dn) : DoneAt K H' q dn := by
  obtain ⟨T, h1, h2, h3⟩ := h
  exact ⟨T, s _ _ h1, h2, fun t ht => (h3 t ht).mono s⟩
theorem done_keys (T : List (Addr × (Stg × Cost))) : (doneKV T).map (·.1) = (Kz.keys (T.map (·.2))).map stK := by
  unfold doneKV Kz.keys
  rw [List.map_map, List.map_map, List.map_map]
  rfl
theorem done_some (T : List (Addr × (Stg × Cost))) (x : Stg) : (valV (doneKV T) (stK x)).isSome = decide (x ∈ Kz.keys (T.map (·.2))) := by
  rw [valV_has, done_keys]
  refine decide_eq_decide.mpr ⟨fun h => ?_, fun h => List.mem_map.mpr ⟨x, h, rfl⟩⟩
  obtain ⟨y, hy, e⟩ := List.mem_map.mp h
  rw [← stK_inj e]
  exact hy
theorem done_val {T : List (Addr × (Stg × Cost))} (nd : (Kz.keys (T.map (·.2))).Nodup) {x : Stg} (h : x ∈ Kz.keys (T.map (·.2))) : ∃ t ∈ T, t.2 = (x, Kz.vf (T.map (·.2)) x) ∧ valV (doneKV T) (stK x) = some (.ref t.1) := by
  obtain ⟨t, ht, e⟩ := List.mem_map.mp (Kz.mem_vf h)
  refine ⟨t, ht, e, valV_mem ?_ (List.mem_map.mpr ⟨t, ht, by rw [e]⟩)⟩
  rw [done_keys]
  exact stK_nd nd
section
variable {P : Program} {w : World} {K : PySem.W.Frag} {mg : Str → Option Value} {base : Heap}
def spSettled (K : PySem.W.Frag) (C : Addr) : Sp := fun vs H Q _ => ∃ (p a eA dA cA : Addr) (cs : List CA) (e0 c1 : Cost) (dk : List (L2.Key × V)) (df : Str → Cost), vs = [.ref p, .ref eA, .ref dA, .ref cA] ∧ BookAt K C H p a cs ∧ CoAt K H eA e0 ∧ H dA = some (.dK dk) ∧ CoAt K H cA c1 ∧ (∀ l ∈ linesS cs, l.2.call = false → ∃ q, valV dk (Sum.inr l.2.nm) = some (.ref q) ∧ CoAt K H q (df l.2.nm)) ∧
  ∀ H' q dn, Same H H' → H q = none → DoneAt K H' q dn → Kz.Settled (endsS cs) (linesK c1 df cs) e0 dn → (∀ x ∈ Kz.keys dn, x ∈ stagesS cs) → Q (.ref q) H'
abbrev nSe : List Str := ["book", "end", "deed_costs", "call", "into", "done", "queue", "stage", "cost", "user", "step", "parts", "base"]
theorem scSe : FnScope nSe ["book", "end", "deed_costs", "call"] (defScope sSettled) := ⟨rfl, rfl, rfl, by decide +kernel, rfl, by decide +kernel, by decide +kernel⟩
theorem ok_settled {f C fI fT fE fA fW : Addr} {fd fdI fdT fdE fdA fdW : FuncData} (F : Fun K "settled" "settled" sSettled f fd) (B : BkC K mg C) (g_heappush : mg "heappush" = some (.builtin "_heapq.heappush")) (g_heappop : mg "heappop" = some (.builtin "_heapq.heappop")) (G_steps_into : FnOk P w K mg base CX0 2 fI fdI ["book"] (spInto K C)) (C_steps_into : CallC K mg "steps_into" ["book"] fI fdI)
    (GM_stages : FnOk P w K mg base CX0 1 fT fdT ["self"] (spBkStages K C)) (bM_stages : Binds K fdT ["self"] []) (m_stages : Meth K C "stages" fT) (GM_is_end : FnOk P w K mg base CX0 1 fE fdE ["self", "stage"] (spBkIsEnd K C)) (bM_is_end : Binds K fdE ["self", "stage"] []) (m_is_end : Meth K C "is_end" fE)
    (G_all_in : FnOk P w K mg base CX0 1 fA fdA ["parts", "table"] (spAllIn K)) (C_all_in : CallC K mg "all_in" ["parts", "table"] fA fdA) (G_with_parts : FnOk P w K mg base CX0 1 fW fdW ["base", "parts", "costs"] (spWithP K)) (C_with_parts : CallC K mg "with_parts" ["base", "parts", "costs"] fW fdW) : FnOk P w K mg base CX0 3 f fd ["book", "end", "deed_costs", "call"] (spSettled K C) := by
  refine F.ok scSe (fun vs H Q E h => ?_) (fun cdv A outer s H vs Q E hr h => ?_)
  · obtain ⟨p, a, eA, dA, cA, cs, e0, c1, dk, df, rfl, _⟩ := h
    rfl
  · obtain ⟨p, a, eA, dA, cA, cs, e0, c1, dk, df, rfl, hB, hE, hD, hCc, hdf, q⟩ := h
    refine ⟨_, pss_cons (ps_set (i := 4) scSe.nd rfl (Or.inl rfl) (pe_call G_steps_into (hr.mono (by decide)) (by rfl) C_steps_into.g C_steps_into.kp C_steps_into.b .nil pass0 (pa_cons (pv 0) pa_nil)))
      (pss_cons (ps_set (i := 5) scSe.nd rfl (Or.inl rfl) pe_dnewT)
      (pss_cons (ps_set (i := 6) scSe.nd rfl (Or.inl rfl) (pe_lst pa_nil))
      (pss_cons (ps_for PassesOwn.never rfl (pi_tup (pe_meth0 (pv 0) B.cl m_stages GM_stages (hr.mono (by decide)) bM_stages .nil pass0)) (pg_name (i := 7) scSe.nd rfl (Or.inl rfl))
        (pss_one (ps_if (pt_val (pe_meth (pv 0) B.cl m_is_end GM_is_end (hr.mono (by decide)) bM_is_end .nil pass0 (pa_cons (pv 7) pa_nil))) (pss_one (ps_expr (pe_callBfun (Ka.cr_push hr.units) (by rfl) g_heappush (pa_cons (pv 6) (pa_cons (pe_tup (pa_cons (pv 1) (pa_cons (pv 7) pa_nil))) pa_nil))))) pss_nil)))
      (pss_cons (ps_while PassesOwn.never (pt_truth (pv 6) (by intro _; rfl))
        (pss_cons (ps_asg (pe_callBfun (Ka.cr_pop hr.units) (by rfl) g_heappop (pa_cons (pv 6) pa_nil)) (pg_tup rfl (pgs_cons (pg_name (i := 8) scSe.nd rfl (Or.inl rfl)) (pgs_cons (pg_name (i := 7) scSe.nd rfl (Or.inl rfl)) pgs_nil))))
        (pss_cons (ps_if (pt_cmp (pc_din (hu_of hr) (pv 7) (pv 5))) (pss_one ps_continue) pss_nil)
        (pss_cons (ps_dput (hu_of hr) (pv 5) (pv 7) (pv 8) rfl)
        (pss_one (ps_for PassesOwn.never rfl (pi_list (pe_dget (hu_of hr) (pv 4) (pv 7) (fun _ _ => rfl))) (pg_tup rfl (pgs_cons (pg_name (i := 9) scSe.nd rfl (Or.inl rfl)) (pgs_cons (pg_name (i := 10) scSe.nd rfl (Or.inl rfl)) (pgs_cons (pg_name (i := 11) scSe.nd rfl (Or.inl rfl)) pgs_nil))))
          (pss_one (ps_if (PW.pt (pw_and (pt_cmp (pc_dnotin (hu_of hr) (pv 9) (pv 5))) (pw_and1 (pt_val (pe_call G_all_in (hr.mono (by decide)) (by rfl) C_all_in.g C_all_in.kp C_all_in.b .nil pass0 (pa_cons (pv 11) (pa_cons (pv 5) pa_nil))))))) (pss_cons (ps_set (i := 12) scSe.nd rfl (Or.inl rfl) (pe_ifExp (pt_cmpR op_eq (pe_ix ix_tup (pv 10) pe_int (fun _ _ => rfl)) pe_str (nomark _)) (pv 3) (pe_dget (hu_of hr) (pv 2) (pe_ix ix_tup (pv 10) pe_int (fun _ _ => rfl)) (fun _ _ => rfl))))
            (pss_one (ps_expr (pe_callBfun (Ka.cr_push hr.units) (by rfl) g_heappush (pa_cons (pv 6) (pa_cons (pe_tup (pa_cons (pe_call G_with_parts (hr.mono (by decide)) (by rfl) C_with_parts.g C_with_parts.kp C_with_parts.b .nil pass0 (pa_cons (pv 12) (pa_cons (pv 11) (pa_cons (pv 5) pa_nil)))) (pa_cons (pv 9) pa_nil))) pa_nil)))))) pss_nil))))))))
      (pss_one (ps_ret (pv 5))))))), ?_⟩
    obtain ⟨dx, fs, P1, S1, E1, L1, S, hp, L, hC, ok, _⟩ := id hB
    have st60 := ok.st
    have sN := stagesS_nd ok.nd
    have sL := stagesS_len cs
    refine ⟨_, rfl, p, a, cs, rfl, hB, fun H1 ia s1 nia hI => ?_⟩
    intro D nD
    refine ⟨smallE (by show 0 ≤ 1000000; decide), fun qq nqq => ?_⟩
    have sD := same_new (o := .dT []) nD
    have eD : upd H1 D (.dT []) D = some (.dT []) := upd_same
    generalize hHD : upd H1 D (.dT []) = HD at sD eD nqq
    have sQ := same_new (o := .lst []) nqq
    have eQ : upd HD qq (.lst []) qq = some (.lst []) := upd_same
    have nqqD : qq ≠ D := fun z => by
      rw [z, eD] at nqq
      cases nqq
    have nqq1 := sD.free nqq
    have eD := sQ _ _ eD
    have s2 := sD.trans sQ
    generalize hH2 : upd HD qq (.lst []) = H2 at sQ eQ eD s2
    obtain ⟨M, j1, i2, j3, j4⟩ := id hI
    have i1 := s2 _ _ j1
    have i3 : ∀ t ∈ M, H2 t.2.1 = some (.lst (t.2.2.map fun x => V.ref x.e)) ∧ t.2.2.length ≤ 16000 := fun t ht => ⟨s2 _ _ (j3 t ht).1, (j3 t ht).2⟩
    have i4 := j4.keep (fun c xs e => s2 _ _ e)
    have sH2 := s1.trans s2
    have nDH := s1.free nD
    have lM : M.length ≤ 60 := by
      have := congrArg List.length i2
      rw [List.length_map] at this
      omega
    have rM := remM_le M [] fun t ht => (i3 t ht).2
    -- the ends
    refine ⟨_, rfl, p, dx, fs, rfl, sH2 _ _ hp, L.no _ (by decide +kernel), p, a, cs, rfl, hB.mono sH2, fun q1 hq1 => ?_⟩
    obtain ⟨SL, e1, e2, e3⟩ := hq1
    have lSL : SL.length ≤ 60 := by
      have := congrArg List.length e2
      rw [List.length_map] at this
      omega
    -- what stands: all of H2 but D and qq
    have KS : ∀ {Z : Hp}, (∀ c o, c ≠ D → c ≠ qq → H2 c = some o → Z c = some o) → Same H1 Z := fun k c o e => k c o (ne_of_none e nD) (ne_of_none e nqq1) (s2 _ _ e)
    refine ⟨q1, rfl, ⟨_, sqT_new e1⟩, ?_⟩
    have kT : ∀ {Z : Hp} {c : Addr} {xs : List V}, (∀ c o, c ≠ D → c ≠ qq → H2 c = some o → Z c = some o) → H2 c = some (.tup xs) → Z c = some (.tup xs) := fun {Z c xs} k e => k c _ (fun z => by rw [z, eD] at e; cases e) (fun z => by rw [z, eQ] at e; cases e) e
    refine for_it (walk_tup (K := K) (a := q1) (xs := SL.map fun t => V.ref t.1)) (fun i σ Z => ∃ (x7 : Option V) (L : List QI), σ = [some (.ref p), some (.ref eA), some (.ref dA), some (.ref cA), some (.ref ia), some (.ref D), some (.ref qq), x7, none, none, none, none, none] ∧ (∀ c o, c ≠ D → c ≠ qq → H2 c = some o → Z c = some o) ∧ Z D = some (.dT []) ∧ Z qq = some (.lst (L.map fun q => V.ref q.t)) ∧ (∀ q ∈ L, QAt K Z q) ∧ Kp.IsHeap Ka.hzLt (L.map qZ) ∧ L.length ≤ i ∧ (∀ x ∈ (stagesS cs).take i, x ∈ endsS cs → (x, e0) ∈ L.map (·.x)) ∧ ∀ x ∈ L.map (·.x), x.1 ∈ endsS cs ∧ x.2 = e0)
      ⟨none, [], rfl, (fun _ _ _ _ e => e), eD, eQ, (fun q hq => nomatch hq), Kp.heap_nil, Nat.le_refl _, (fun x hx => by rw [List.take_zero] at hx; exact nomatch hx), fun x hx => nomatch hx⟩ (fun i σ Z _ h => ?_) (fun i x σ Z Z' hi h y => ?_) (fun σ Z h => ?_)
    · obtain ⟨_, _, _, k, _⟩ := h
      exact sqT_new (kT k e1)
    · obtain ⟨rfl, hy⟩ := y
      obtain ⟨t, ht, rfl⟩ := get_map hy
      obtain ⟨x7, L7, rfl, k, zD, zQ, at7, hp7, len7, full7, only7⟩ := h
      have mt := List.mem_of_getElem? ht
      have hst : (stagesS cs)[i]? = some t.2 := by rw [← e2, List.getElem?_map, ht]; rfl
      have mst : t.2 ∈ stagesS cs := List.mem_of_getElem? hst
      obtain ⟨c, mc, n1, n2⟩ := mem_stagesS.mp mst
      have sZ := s1.trans (KS k)
      have eT := kT k (e3 t mt)
      have ex : t.2 = (c.nm, t.2.2) := by rw [← n1]
      refine ⟨_, rfl, p, dx, fs, rfl, sZ _ _ hp, L.no _ (by decide +kernel), _, rfl, p, a, t.1, cs, c, t.2.2, rfl, hB.mono sZ, mc, by rw [eT, ← ex], ?_⟩
      have hend : t.2.2 ∈ c.es ↔ t.2 ∈ endsS cs := by
        rw [mem_endsS]
        refine ⟨fun h => ⟨c, mc, n1, h⟩, fun ⟨c', h1, h2, h3⟩ => ?_⟩
        rwa [same_course ok.nd mc h1 (by rw [← n1, h2])]
      refine ⟨_, rfl, ite2 (fun c0 => ?_) (fun c0 => ?_)⟩
      · have he := hend.mp (of_decide_eq_true c0)
        refine ⟨_, rfl, _, rfl, _, rfl, smallE (by show 2 ≤ 1000000; decide), fun u nu => ?_⟩
        have su := same_new (o := .tup [V.ref eA, V.ref t.1]) nu
        have eu : upd Z' u (.tup [V.ref eA, V.ref t.1]) u = some (.tup [V.ref eA, V.ref t.1]) := upd_same
        have at8 : ∀ q ∈ L7 ++ [QI.mk u eA t.1 (t.2, e0)], QAt K (upd Z' u (.tup [V.ref eA, V.ref t.1])) q := fun q hq => by
          rcases List.mem_append.mp hq with z | z
          · exact (at7 q z).ts (TS.of su)
          · rw [List.mem_singleton.mp z]
            exact ⟨eu, (hE.mono sZ).mono su, su _ _ eT⟩
        have zD := su _ _ zD
        have zQ := su _ _ zQ
        have k := fun c o h1 h2 e => su _ _ (k c o h1 h2 e)
        generalize upd Z' u (.tup [V.ref eA, V.ref t.1]) = Z1 at su eu at8 zD zQ k
        have hiS : i < SL.length := lt_of_get ht
        refine ⟨qq, qZ ⟨u, eA, t.1, (t.2, e0)⟩, L7.map qZ, rfl, by rw [hz_qs]; exact zQ, ?_, by rw [List.length_map]; omega, hp7, fun ys pm hh => ?_⟩
        · have := hzOk_qs at8
          rwa [List.map_append] at this
        · have e9 : L7.map qZ ++ [qZ ⟨u, eA, t.1, (t.2, e0)⟩] = (L7 ++ [QI.mk u eA t.1 (t.2, e0)]).map qZ := by rw [List.map_append]; rfl
          obtain ⟨L8, pm8, rfl⟩ := perm_of_map pm _ e9
          rw [hz_qs]
          have tk : TS Z1 (upd Z1 qq (.lst (L8.map fun q => V.ref q.t))) := fun c xs e => by
            rw [upd_ne]
            · exact e
            · intro z
              rw [z, zQ] at e
              cases e
          refine ⟨some (.ref t.1), L8, rfl, fun c o h1 h2 e => ?_, ?_, upd_same, fun q hq => (at8 q (pm8.mem_iff.mp hq)).ts tk, hh, ?_, fun x hx he2 => ?_, fun x hx => ?_⟩
          · rw [upd_ne h2]
            exact k c o h1 h2 e
          · rw [upd_ne nqqD.symm]
            exact zD
          · rw [pm8.length_eq, List.length_append, List.length_singleton]
            omega
          · rw [(pm8.map (·.x)).mem_iff, List.map_append]
            rw [take_of_get hst] at hx
            rcases List.mem_append.mp hx with z | z
            · exact List.mem_append_left _ (full7 x z he2)
            · rw [List.mem_singleton.mp z]
              exact List.mem_append_right _ List.mem_cons_self
          · rw [(pm8.map (·.x)).mem_iff, List.map_append] at hx
            rcases List.mem_append.mp hx with z | z
            · exact only7 x z
            · have z : x ∈ [(t.2, e0)] := z
              rw [List.mem_singleton.mp z]
              exact ⟨he, rfl⟩
      · have he : t.2 ∉ endsS cs := fun z => c0 (decide_eq_true (hend.mpr z))
        refine ⟨some (.ref t.1), L7, rfl, k, zD, zQ, at7, hp7, by omega, fun x hx he2 => ?_, only7⟩
        rw [take_of_get hst] at hx
        rcases List.mem_append.mp hx with z | z
        · exact full7 x z he2
        · rw [List.mem_singleton.mp z] at he2
          exact absurd he2 he
    · obtain ⟨x7, L7, rfl, k, zD, zQ, at7, hp7, len7, full7, only7⟩ := h
      have hlen : (SL.map fun t => V.ref t.1).length = (stagesS cs).length := by rw [List.length_map, ← e2, List.length_map]
      rw [hlen] at len7 full7
      rw [List.take_length] at full7
      -- the search
      have iv0 : Kz.Inv (endsS cs) (linesK c1 df cs) e0 [] (L7.map (·.x)) [] := Kz.inv_start (fun ln hl => by
        obtain ⟨l, hl, rfl⟩ := List.mem_map.mp hl
        exact partsS_ne _ _) (fun x hx => full7 x (ends_stages ok hx) hx) only7
      refine ⟨fun m σ Z => ∃ (x7 x8 x9 x10 x11 x12 : Option V) (L : List QI) (T : List (Addr × (Stg × Cost))), σ = [some (.ref p), some (.ref eA), some (.ref dA), some (.ref cA), some (.ref ia), some (.ref D), some (.ref qq), x7, x8, x9, x10, x11, x12] ∧ (∀ c o, c ≠ D → c ≠ qq → H2 c = some o → Z c = some o) ∧ Z D = some (.dT (doneKV T)) ∧ Z qq = some (.lst (L.map fun q => V.ref q.t)) ∧ (∀ q ∈ L, QAt K Z q ∧ q.x.1 ∈ stagesS cs) ∧ (∀ t ∈ T, CoAt K Z t.1 t.2.2 ∧ t.2.1 ∈ stagesS cs) ∧ Kp.IsHeap Ka.hzLt (L.map qZ) ∧ Kz.Inv (endsS cs) (linesK c1 df cs) e0 (T.map (·.2)) (L.map (·.x)) [] ∧ m = L.length + remM M (Kz.keys (T.map (·.2))) ∧ m ≤ 970000, ⟨_, x7, none, none, none, none, none, L7, [], rfl, k, zD, zQ, fun q hq => ⟨at7 q hq, ends_stages ok (only7 _ (List.mem_map.mpr ⟨q, hq, rfl⟩)).1⟩, (fun t ht => nomatch ht), hp7, iv0, rfl, ?_⟩, fun m σ Z h => ?_⟩
      · show L7.length + remM M [] ≤ 970000
        omega
      · obtain ⟨x7, x8, x9, x10, x11, x12, L3, T, rfl, k, zD, zQ, at3, co3, hp3, iv, em, lm⟩ := h
        refine ⟨_, rfl, !(L3.map fun q => V.ref q.t).isEmpty, .inl ⟨_, sqL_new zQ, rfl⟩, ?_⟩
        have hT60 : T.length ≤ 60 := by
          have h1 : (Kz.keys (T.map (·.2))).length = T.length := by unfold Kz.keys; rw [List.length_map, List.length_map]
          have := nd_le iv.nd (m := stagesS cs) fun x hx => by
            obtain ⟨y, hy, rfl⟩ := List.mem_map.mp hx
            obtain ⟨t, ht, rfl⟩ := List.mem_map.mp hy
            exact (co3 t ht).2
          omega
        generalize hL : L3 = L30
        cases L30 with
        | nil =>
          refine iteNo rfl ?_
          rw [hL] at iv
          have sZ := s1.trans (KS k)
          refine ⟨_, rfl, q Z D (T.map (·.2)) sZ nDH ⟨T, zD, rfl, fun t ht => (co3 t ht).1⟩ (Kz.inv_done iv) fun x hx => ?_⟩
          obtain ⟨y, hy, rfl⟩ := List.mem_map.mp hx
          obtain ⟨t, ht, rfl⟩ := List.mem_map.mp hy
          exact (co3 t ht).2
        | cons q0 L0 =>
          rw [← hL]
          refine iteYes (by rw [hL]; rfl) ?_
          have pos : 0 < (L3.map qZ).length := by rw [List.length_map, hL]; exact Nat.succ_pos _
          refine ⟨fun σ' H' => ∃ m', m' < m ∧ ∃ (x7 x8 x9 x10 x11 x12 : Option V) (L : List QI) (T : List (Addr × (Stg × Cost))), σ' = [some (.ref p), some (.ref eA), some (.ref dA), some (.ref cA), some (.ref ia), some (.ref D), some (.ref qq), x7, x8, x9, x10, x11, x12] ∧ (∀ c o, c ≠ D → c ≠ qq → H2 c = some o → H' c = some o) ∧ H' D = some (.dT (doneKV T)) ∧ H' qq = some (.lst (L.map fun q => V.ref q.t)) ∧ (∀ q ∈ L, QAt K H' q ∧ q.x.1 ∈ stagesS cs) ∧ (∀ t ∈ T, CoAt K H' t.1 t.2.2 ∧ t.2.1 ∈ stagesS cs) ∧ Kp.IsHeap Ka.hzLt (L.map qZ) ∧ Kz.Inv (endsS cs) (linesK c1 df cs) e0 (T.map (·.2)) (L.map (·.x)) [] ∧ m' = L.length + remM M (Kz.keys (T.map (·.2))) ∧ m' ≤ 970000, fun σ' H' h => h, ?_⟩
          refine ⟨_, rfl, qq, L3.map qZ, rfl, by rw [hz_qs]; exact zQ, hzOk_qs fun q hq => (at3 q hq).1, pos, hp3, fun z ys pm hh least => ?_⟩
          obtain ⟨L4, pm4, e4⟩ := perm_of_map pm.symm L3 rfl
          cases L4 with
          | nil => exact nomatch e4
          | cons q4 L4 =>
          rw [List.map_cons] at e4
          injection e4 with e5 e6
          subst e5 e6
          rw [hz_qs]
          have m4 : q4 ∈ L3 := pm4.mem_iff.mp List.mem_cons_self
          have sub4 : ∀ {q}, q ∈ L4 → q ∈ L3 := fun h => pm4.mem_iff.mp (List.mem_cons_of_mem _ h)
          have l4 : L3.length = L4.length + 1 := by rw [← pm4.length_eq, List.length_cons]
          obtain ⟨a1, a2, a3⟩ := (at3 q4 m4).1
          have tk : TS Z (upd Z qq (.lst (L4.map fun q => V.ref q.t))) := fun c xs e => by
            rw [upd_ne]
            · exact e
            · intro z
              rw [z, zQ] at e
              cases e
          have at4 : ∀ q ∈ L4, QAt K (upd Z qq (.lst (L4.map fun q => V.ref q.t))) q ∧ q.x.1 ∈ stagesS cs := fun q hq => ⟨(at3 q (sub4 hq)).1.ts tk, (at3 q (sub4 hq)).2⟩
          have co4 : ∀ t ∈ T, CoAt K (upd Z qq (.lst (L4.map fun q => V.ref q.t))) t.1 t.2.2 ∧ t.2.1 ∈ stagesS cs := fun t ht => ⟨(co3 t ht).1.ts tk, (co3 t ht).2⟩
          have zD : upd Z qq (.lst (L4.map fun q => V.ref q.t)) D = some (.dT (doneKV T)) := by
            rw [upd_ne nqqD.symm]
            exact zD
          have zQ2 : upd Z qq (.lst (L4.map fun q => V.ref q.t)) qq = some (.lst (L4.map fun q => V.ref q.t)) := upd_same
          have k : ∀ c o, c ≠ D → c ≠ qq → H2 c = some o → upd Z qq (.lst (L4.map fun q => V.ref q.t)) c = some o := fun c o h1 h2 e => by
            rw [upd_ne h2]
            exact k c o h1 h2 e
          have a1 := tk _ _ a1
          have a2 := a2.ts tk
          have a3 := tk _ _ a3
          generalize upd Z qq (.lst (L4.map fun q => V.ref q.t)) = Z4 at at4 co4 zD zQ2 k a1 a2 a3
          refine ⟨q4.t, _, rfl, sqT_new a1, rfl, _, _, rfl, _, _, rfl, rfl, ?_⟩
          have pmx : (L3.map (·.x)).Perm ((q4.x.1, q4.x.2) :: L4.map (·.x)) := (pm4.map (·.x)).symm
          refine ⟨_, rfl, _, rfl, D, _, rfl, DGet.t zD (k := stK q4.x.1) a3, ?_⟩
          dsimp only
          rw [done_some]
          by_cases hin : q4.x.1 ∈ Kz.keys (T.map (·.2))
          · rw [decide_eq_true hin]
            refine ⟨_, rfl, iteT ?_⟩
            exact ⟨m - 1, by omega, _, _, _, _, _, _, L4, T, rfl, k, zD, zQ2, at4, co4, hh, Kz.inv_skip iv pmx hin, by omega, by omega⟩
          · rw [decide_eq_false hin]
            refine ⟨_, rfl, iteF ?_⟩
            have lkv : (doneKV T).length < sizeLine := small (by unfold doneKV; rw [List.length_map]; omega)
            refine ⟨_, rfl, _, rfl, _, rfl, D, _, rfl, DPut.t zD (k := stK q4.x.1) a3 lkv, ?_⟩
            have hput : putK (doneKV T) (stK q4.x.1) (.ref q4.c) = doneKV (T ++ [(q4.c, q4.x)]) := by
              rw [putK_new]
              · unfold doneKV
                rw [List.map_append]
                rfl
              · rw [done_keys]
                intro z
                obtain ⟨y, hy, e⟩ := List.mem_map.mp z
                exact hin (by rw [← stK_inj e]; exact hy)
            rw [hput]
            have tk5 : TS Z4 (upd Z4 D (.dT (doneKV (T ++ [(q4.c, q4.x)])))) := fun c xs e => by
              rw [upd_ne]
              · exact e
              · intro z
                rw [z, zD] at e
                cases e
            have at5 : ∀ q ∈ L4, QAt K (upd Z4 D (.dT (doneKV (T ++ [(q4.c, q4.x)])))) q ∧ q.x.1 ∈ stagesS cs := fun q hq => ⟨(at4 q hq).1.ts tk5, (at4 q hq).2⟩
            have co5 : ∀ t ∈ T ++ [(q4.c, q4.x)], CoAt K (upd Z4 D (.dT (doneKV (T ++ [(q4.c, q4.x)])))) t.1 t.2.2 ∧ t.2.1 ∈ stagesS cs := fun t ht => by
              rcases List.mem_append.mp ht with z | z
              · exact ⟨(co4 t z).1.ts tk5, (co4 t z).2⟩
              · rw [List.mem_singleton.mp z]
                exact ⟨a2.ts tk5, (at3 q4 m4).2⟩
            have zD5 : upd Z4 D (.dT (doneKV (T ++ [(q4.c, q4.x)]))) D = some (.dT (doneKV (T ++ [(q4.c, q4.x)]))) := upd_same
            have zQ5 : upd Z4 D (.dT (doneKV (T ++ [(q4.c, q4.x)]))) qq = some (.lst (L4.map fun q => V.ref q.t)) := by
              rw [upd_ne nqqD]
              exact zQ2
            have k5 : ∀ c o, c ≠ D → c ≠ qq → H2 c = some o → upd Z4 D (.dT (doneKV (T ++ [(q4.c, q4.x)]))) c = some o := fun c o h1 h2 e => by
              rw [upd_ne h1]
              exact k c o h1 h2 e
            have a3 := tk5 _ _ a3
            generalize upd Z4 D (.dT (doneKV (T ++ [(q4.c, q4.x)]))) = Z5 at at5 co5 zD5 zQ5 k5 a3
            have mst : q4.x.1 ∈ stagesS cs := (at3 q4 m4).2
            rw [← i2] at mst
            obtain ⟨t, ht, et⟩ := List.mem_map.mp mst
            have htr : (stK t.1, t.2.1, t.2.2.map fun x => V.ref x.e) ∈ trM M := List.mem_map.mpr ⟨t, ht, rfl⟩
            have kn : ((trM M).map (·.1)).Nodup := by
              rw [trM_keys, i2]
              exact stK_nd sN
            have hv : valV (kvT (trM M)) (stK q4.x.1) = some (.ref t.2.1) := valV_mem (by rw [kvT_keys]; exact kn) (List.mem_map.mpr ⟨_, htr, by rw [et]⟩)
            have nia : ∀ {Z : Hp}, (∀ c o, c ≠ D → c ≠ qq → H2 c = some o → Z c = some o) → Z ia = some (.dT (kvT (trM M))) := fun {Z} k => k _ _ (ne_of_none j1 nD) (ne_of_none j1 nqq1) i1
            have nls : ∀ {Z : Hp}, (∀ c o, c ≠ D → c ≠ qq → H2 c = some o → Z c = some o) → Z t.2.1 = some (.lst (t.2.2.map fun x => V.ref x.e)) := fun {Z} k => k _ _ (ne_of_none (j3 t ht).1 nD) (ne_of_none (j3 t ht).1 nqq1) (i3 t ht).1
            have liv := Kz.inv_take (pend := (t.2.2.map fun x => lnOf c1 df (x.nm, x.s))) iv pmx hin (fun y hy => by
              obtain ⟨q, hq, rfl⟩ := List.mem_map.mp hy
              exact qD_lt q4.x q.x (least (qZ q) (List.mem_map.mpr ⟨q, hq, rfl⟩))) (fun ln hl hpn => by
              obtain ⟨l, hl2, rfl⟩ := List.mem_map.mp hl
              obtain ⟨x, hx, e⟩ := i4.full t ht l ⟨hl2, by rw [et]; exact hpn⟩
              exact List.mem_map.mpr ⟨x, hx, by rw [e]⟩)
            have hrem := remM_take ht (ks := Kz.keys (T.map (·.2))) (by rw [et]; exact hin)
            have ekeys : Kz.keys ((T ++ [(q4.c, q4.x)]).map (·.2)) = Kz.keys (T.map (·.2)) ++ [t.1] := by
              rw [List.map_append, Kz.keys_app, et]
              rfl
            have edn : (T ++ [(q4.c, q4.x)]).map (·.2) = T.map (·.2) ++ [(q4.x.1, q4.x.2)] := by rw [List.map_append]; rfl
            rw [← edn] at liv
            have top : ∀ x ∈ (T ++ [(q4.c, q4.x)]).map (·.2), Kz.cle x.2 (Kz.vf ((T ++ [(q4.c, q4.x)]).map (·.2)) t.1) := fun x hx => by
              have e1 : Kz.vf ((T ++ [(q4.c, q4.x)]).map (·.2)) t.1 = q4.x.2 := by
                rw [edn, et, Kz.vf_new hin]
              rw [e1]
              rw [edn] at hx
              rcases List.mem_append.mp hx with z | z
              · exact iv.mono x z q4.x (pmx.mem_iff.mpr List.mem_cons_self)
              · rw [List.mem_singleton.mp z]
                exact Kz.cle_refl _
            generalize hT5 : T ++ [(q4.c, q4.x)] = T5 at co5 zD5 liv ekeys top
            have hT5l : T5.length ≤ 61 := by
              rw [← hT5, List.length_append, List.length_singleton]
              omega
            have nd5 := liv.nd
            refine ⟨_, rfl, _, rfl, ia, .ref t.2.1, rfl, hv ▸ DGet.t (nia k5) a3, t.2.1, rfl, ⟨_, sqL_new (nls k5)⟩, ?_⟩
            refine for_it (walk_list (K := K) (a := t.2.1) (xs := t.2.2.map fun x => V.ref x.e)) (fun j σ Z => ∃ (x7 x8 x9 x10 x11 x12 : Option V) (L : List QI), σ = [some (.ref p), some (.ref eA), some (.ref dA), some (.ref cA), some (.ref ia), some (.ref D), some (.ref qq), x7, x8, x9, x10, x11, x12] ∧ (∀ c o, c ≠ D → c ≠ qq → H2 c = some o → Z c = some o) ∧ Z D = some (.dT (doneKV T5)) ∧ Z qq = some (.lst (L.map fun q => V.ref q.t)) ∧ (∀ q ∈ L, QAt K Z q ∧ q.x.1 ∈ stagesS cs) ∧ (∀ t ∈ T5, CoAt K Z t.1 t.2.2 ∧ t.2.1 ∈ stagesS cs) ∧ Kp.IsHeap Ka.hzLt (L.map qZ) ∧ Kz.Inv (endsS cs) (linesK c1 df cs) e0 (T5.map (·.2)) (L.map (·.x)) ((t.2.2.drop j).map fun x => lnOf c1 df (x.nm, x.s)) ∧ L.length ≤ L4.length + j)
              ⟨_, _, _, _, _, _, L4, rfl, k5, zD5, zQ5, at5, co5, hh, liv, Nat.le_refl _⟩ (fun j σ Z _ h => ?_) (fun j y σ Z Z' hj h yy => ?_) (fun σ Z h => ?_)
            · obtain ⟨_, _, _, _, _, _, _, _, k, _⟩ := h
              exact sqL_new (nls k)
            · obtain ⟨rfl, hy⟩ := yy
              obtain ⟨x, hx, rfl⟩ := get_map hy
              obtain ⟨x7, x8, x9, x10, x11, x12, L6, rfl, k6, zD6, zQ6, at6, co6, hp6, liv, len6⟩ := h
              have hjl := lt_of_get hx
              have mx := List.mem_of_getElem? hx
              obtain ⟨b0, b1, b2⟩ := i4.sound t ht x mx
              obtain ⟨b1e, b1u, b1s, b1p⟩ := b0.keep (H' := Z') fun c xs e => kT k6 e
              have ln : (x.nm, x.s) ∈ linesS cs := b1
              have lk : lnOf c1 df (x.nm, x.s) ∈ linesK c1 df cs := List.mem_map.mpr ⟨_, ln, rfl⟩
              rw [drop_of_get hx, List.map_cons] at liv
              have next : ∀ (Z : Hp) (x7 x8 x9 x10 x11 x12 : Option V) (L : List QI), True := fun _ _ _ _ _ _ _ _ => trivial
              refine ⟨x.e, _, rfl, sqT_new b1e, rfl, _, _, rfl, _, _, rfl, _, _, rfl, rfl, ?_⟩
              refine ⟨_, rfl, _, rfl, D, _, rfl, DGet.t zD6 (k := stK (x.nm, x.s.n)) b1u, ?_⟩
              dsimp only
              rw [done_some]
              by_cases hu : (x.nm, x.s.n) ∈ Kz.keys (T5.map (·.2))
              · rw [decide_eq_true hu]
                refine ⟨_, rfl, iteF (iteF ?_)⟩
                exact ⟨_, _, _, _, _, _, L6, rfl, k6, zD6, zQ6, at6, co6, hp6, Kz.inv_drop liv (.inl hu), by omega⟩
              · rw [decide_eq_false hu]
                refine ⟨_, rfl, iteT ?_⟩
                refine ⟨_, rfl, _, rfl, x.pa, D, _, doneKV T5, rfl, b1p, Nat.le_trans (partsS_len _ _) (by decide), .inl zD6, fun Z7 s7 => ?_⟩
                have hall : ((partsS x.nm x.s).all fun y => (valV (doneKV T5) (stK y)).isSome) = decide (∀ y ∈ partsS x.nm x.s, y ∈ Kz.keys (T5.map (·.2))) := by
                  rw [Bool.eq_iff_iff, List.all_eq_true, decide_eq_true_iff]
                  refine ⟨fun h y hy => ?_, fun h y hy => ?_⟩
                  · have := h y hy
                    rw [done_some] at this
                    exact of_decide_eq_true this
                  · rw [done_some]
                    exact decide_eq_true (h y hy)
                rw [hall]
                have k7 := fun c o h1 h2 e => s7 _ _ (k6 c o h1 h2 e)
                have zD7 := s7 _ _ zD6
                have zQ7 := s7 _ _ zQ6
                have at7 : ∀ q ∈ L6, QAt K Z7 q ∧ q.x.1 ∈ stagesS cs := fun q hq => ⟨(at6 q hq).1.ts (TS.of s7), (at6 q hq).2⟩
                have co7 : ∀ t ∈ T5, CoAt K Z7 t.1 t.2.2 ∧ t.2.1 ∈ stagesS cs := fun t ht => ⟨(co6 t ht).1.ts (TS.of s7), (co6 t ht).2⟩
                by_cases hal : ∀ y ∈ partsS x.nm x.s, y ∈ Kz.keys (T5.map (·.2))
                · rw [decide_eq_true hal]
                  refine ⟨_, rfl, iteT ?_⟩
                  have b1s7 := s7 _ _ b1s
                  have b1u7 := s7 _ _ b1u
                  have b1p7 := b1p.mono s7
                  -- the base
                  have mt : t.1 ∈ partsS x.nm x.s := b2
                  have mu : (x.nm, x.s.n) ∈ stagesS cs := by
                    obtain ⟨c, mc, pp, mp, e⟩ := mem_linesS.mp ln
                    injection e with e1 e2
                    exact mem_stagesS.mpr ⟨c, mc, e1, by rw [e2]; exact ((ok.ok c mc).sl pp mp).1⟩
                  have vals : ∀ y ∈ partsS x.nm x.s, ∃ a, valV (doneKV T5) (stK y) = some (.ref a) ∧ CoAt K Z7 a (Kz.vf (T5.map (·.2)) y) := fun y hy => by
                    obtain ⟨u, hu2, e, e2⟩ := done_val nd5 (hal y hy)
                    refine ⟨u.1, e2, ?_⟩
                    have := (co7 u hu2).1
                    rwa [e] at this
                  have sZ7 := s1.trans (KS k7)
                  refine ⟨_, rfl, x.sa, _, _, .str (kindS x.s.call), rfl, rfl, sqT_new b1s7, rfl, rfl, _, rfl, ?_⟩
                  cases hcall : x.s.call with
                  | true =>
                    refine iteYes (by decide +kernel) ?_
                    refine ⟨_, rfl, _, rfl, _, rfl, _, rfl, _, rfl, cA, x.pa, D, c1, partsS x.nm x.s, doneKV T5, Kz.vf (T5.map (·.2)), rfl, hCc.mono sZ7, b1p7, .inl zD7, vals, fun Z8 r s8 nr er => ?_⟩
                    have elc : Kz.lcF (Kz.vf (T5.map (·.2))) (partsS x.nm x.s) c1 = Kz.lc (T5.map (·.2)) (lnOf c1 df (x.nm, x.s)) := by
                      unfold Kz.lc lnOf
                      dsimp only
                      rw [hcall]
                      rfl
                    rw [elc] at er
                    have at8 := fun q hq => (at7 q hq).1.ts (TS.of s8)
                    refine ⟨_, rfl, smallE (by show 2 ≤ 1000000; decide), fun v nv => ?_⟩
                    have sv := same_new (o := .tup [V.ref r, V.ref x.u]) nv
                    have ev : upd Z8 v (.tup [V.ref r, V.ref x.u]) v = some (.tup [V.ref r, V.ref x.u]) := upd_same
                    have s8v := s8.trans sv
                    have at9 : ∀ q ∈ L6 ++ [QI.mk v r x.u ((x.nm, x.s.n), Kz.lc (T5.map (·.2)) (lnOf c1 df (x.nm, x.s)))], QAt K (upd Z8 v (.tup [V.ref r, V.ref x.u])) q ∧ q.x.1 ∈ stagesS cs := fun q hq => by
                      rcases List.mem_append.mp hq with z | z
                      · exact ⟨(at7 q z).1.ts (TS.of s8v), (at7 q z).2⟩
                      · rw [List.mem_singleton.mp z]
                        exact ⟨⟨ev, .inl (sv _ _ er), s8v _ _ b1u7⟩, mu⟩
                    have zD9 := s8v _ _ zD7
                    have zQ9 := s8v _ _ zQ7
                    have k9 := fun c o h1 h2 e => s8v _ _ (k7 c o h1 h2 e)
                    have co9 : ∀ t ∈ T5, CoAt K (upd Z8 v (.tup [V.ref r, V.ref x.u])) t.1 t.2.2 ∧ t.2.1 ∈ stagesS cs := fun t ht => ⟨(co7 t ht).1.ts (TS.of s8v), (co7 t ht).2⟩
                    generalize upd Z8 v (.tup [V.ref r, V.ref x.u]) = Z9 at sv ev s8v at9 zD9 zQ9 k9 co9
                    have e9 : L6.map qZ ++ [qZ ⟨v, r, x.u, ((x.nm, x.s.n), Kz.lc (T5.map (·.2)) (lnOf c1 df (x.nm, x.s)))⟩] = (L6 ++ [QI.mk v r x.u ((x.nm, x.s.n), Kz.lc (T5.map (·.2)) (lnOf c1 df (x.nm, x.s)))]).map qZ := by rw [List.map_append]; rfl
                    refine ⟨qq, qZ ⟨v, r, x.u, ((x.nm, x.s.n), Kz.lc (T5.map (·.2)) (lnOf c1 df (x.nm, x.s)))⟩, L6.map qZ, rfl, by rw [hz_qs]; exact zQ9, by rw [e9]; exact hzOk_qs fun q hq => (at9 q hq).1, by rw [List.length_map]; omega, hp6, fun ys pm hh => ?_⟩
                    obtain ⟨L8, pm8, rfl⟩ := perm_of_map pm _ e9
                    rw [hz_qs]
                    have tk : TS Z9 (upd Z9 qq (.lst (L8.map fun q => V.ref q.t))) := fun c xs e => by
                      rw [upd_ne]
                      · exact e
                      · intro z
                        rw [z, zQ9] at e
                        cases e
                    refine ⟨_, _, _, _, _, _, L8, rfl, fun c o h1 h2 e => ?_, ?_, upd_same, fun q hq => ⟨(at9 q (pm8.mem_iff.mp hq)).1.ts tk, (at9 q (pm8.mem_iff.mp hq)).2⟩, fun t ht => ⟨(co9 t ht).1.ts tk, (co9 t ht).2⟩, hh, Kz.inv_push liv lk hal mt top ?_, ?_⟩
                    · rw [upd_ne h2]
                      exact k9 c o h1 h2 e
                    · rw [upd_ne nqqD.symm]
                      exact zD9
                    · have := pm8.map (·.x)
                      rwa [List.map_append] at this
                    · rw [pm8.length_eq, List.length_append, List.length_singleton]
                      omega
                  | false =>
                    refine iteNo (by decide +kernel) ?_
                    obtain ⟨qd, hq1, hq2⟩ := hdf (x.nm, x.s) ln hcall
                    refine ⟨_, rfl, _, rfl, x.sa, _, _, .str x.s.nm, rfl, rfl, sqT_new b1s7, rfl, dA, .ref qd, rfl, hq1 ▸ DGet.k (k := Sum.inr x.s.nm) (sZ7 _ _ hD), ?_⟩
                    refine ⟨_, rfl, _, rfl, _, rfl, _, rfl, qd, x.pa, D, df x.s.nm, partsS x.nm x.s, doneKV T5, Kz.vf (T5.map (·.2)), rfl, hq2.mono sZ7, b1p7, .inl zD7, vals, fun Z8 r s8 nr er => ?_⟩
                    have elc : Kz.lcF (Kz.vf (T5.map (·.2))) (partsS x.nm x.s) (df x.s.nm) = Kz.lc (T5.map (·.2)) (lnOf c1 df (x.nm, x.s)) := by
                      unfold Kz.lc lnOf
                      dsimp only
                      rw [hcall]
                      rfl
                    rw [elc] at er
                    have at8 := fun q hq => (at7 q hq).1.ts (TS.of s8)
                    refine ⟨_, rfl, smallE (by show 2 ≤ 1000000; decide), fun v nv => ?_⟩
                    have sv := same_new (o := .tup [V.ref r, V.ref x.u]) nv
                    have ev : upd Z8 v (.tup [V.ref r, V.ref x.u]) v = some (.tup [V.ref r, V.ref x.u]) := upd_same
                    have s8v := s8.trans sv
                    have at9 : ∀ q ∈ L6 ++ [QI.mk v r x.u ((x.nm, x.s.n), Kz.lc (T5.map (·.2)) (lnOf c1 df (x.nm, x.s)))], QAt K (upd Z8 v (.tup [V.ref r, V.ref x.u])) q ∧ q.x.1 ∈ stagesS cs := fun q hq => by
                      rcases List.mem_append.mp hq with z | z
                      · exact ⟨(at7 q z).1.ts (TS.of s8v), (at7 q z).2⟩
                      · rw [List.mem_singleton.mp z]
                        exact ⟨⟨ev, .inl (sv _ _ er), s8v _ _ b1u7⟩, mu⟩
                    have zD9 := s8v _ _ zD7
                    have zQ9 := s8v _ _ zQ7
                    have k9 := fun c o h1 h2 e => s8v _ _ (k7 c o h1 h2 e)
                    have co9 : ∀ t ∈ T5, CoAt K (upd Z8 v (.tup [V.ref r, V.ref x.u])) t.1 t.2.2 ∧ t.2.1 ∈ stagesS cs := fun t ht => ⟨(co7 t ht).1.ts (TS.of s8v), (co7 t ht).2⟩
                    generalize upd Z8 v (.tup [V.ref r, V.ref x.u]) = Z9 at sv ev s8v at9 zD9 zQ9 k9 co9
                    have e9 : L6.map qZ ++ [qZ ⟨v, r, x.u, ((x.nm, x.s.n), Kz.lc (T5.map (·.2)) (lnOf c1 df (x.nm, x.s)))⟩] = (L6 ++ [QI.mk v r x.u ((x.nm, x.s.n), Kz.lc (T5.map (·.2)) (lnOf c1 df (x.nm, x.s)))]).map qZ := by rw [List.map_append]; rfl
                    refine ⟨qq, qZ ⟨v, r, x.u, ((x.nm, x.s.n), Kz.lc (T5.map (·.2)) (lnOf c1 df (x.nm, x.s)))⟩, L6.map qZ, rfl, by rw [hz_qs]; exact zQ9, by rw [e9]; exact hzOk_qs fun q hq => (at9 q hq).1, by rw [List.length_map]; omega, hp6, fun ys pm hh => ?_⟩
                    obtain ⟨L8, pm8, rfl⟩ := perm_of_map pm _ e9
                    rw [hz_qs]
                    have tk : TS Z9 (upd Z9 qq (.lst (L8.map fun q => V.ref q.t))) := fun c xs e => by
                      rw [upd_ne]
                      · exact e
                      · intro z
                        rw [z, zQ9] at e
                        cases e
                    refine ⟨_, _, _, _, _, _, L8, rfl, fun c o h1 h2 e => ?_, ?_, upd_same, fun q hq => ⟨(at9 q (pm8.mem_iff.mp hq)).1.ts tk, (at9 q (pm8.mem_iff.mp hq)).2⟩, fun t ht => ⟨(co9 t ht).1.ts tk, (co9 t ht).2⟩, hh, Kz.inv_push liv lk hal mt top ?_, ?_⟩
                    · rw [upd_ne h2]
                      exact k9 c o h1 h2 e
                    · rw [upd_ne nqqD.symm]
                      exact zD9
                    · have := pm8.map (·.x)
                      rwa [List.map_append] at this
                    · rw [pm8.length_eq, List.length_append, List.length_singleton]
                      omega
                · rw [decide_eq_false hal]
                  refine ⟨_, rfl, iteF ?_⟩
                  exact ⟨_, _, _, _, _, _, L6, rfl, k7, zD7, zQ7, at7, co7, hp6, Kz.inv_drop liv (.inr hal), by omega⟩
            · obtain ⟨x7, x8, x9, x10, x11, x12, L6, rfl, k6, zD6, zQ6, at6, co6, hp6, liv, len6⟩ := h
              rw [List.length_map] at liv len6
              rw [List.drop_length] at liv
              refine ⟨_, ?_, x7, x8, x9, x10, x11, x12, L6, T5, rfl, k6, zD6, zQ6, at6, co6, hp6, liv, rfl, ?_⟩
              · rw [ekeys]
                omega
              · rw [ekeys]
                omega
end
end Kb
namespace Kb
open PySem PySem.Spec PyProof.Rows L2
/-! ### ascending, way_costs, least_weights, row_lengths, lengths -/
theorem stK_alike (x y : Stg) : PySem.W.alike (Ka.keysD (stK x)) (Ka.keysD (stK y)) = true := by
  simp [Ka.keysD, Ka.keyD, stK, PySem.W.alike, PySem.W.alikeAll]
theorem stK_ne (x : Stg) : stK x ≠ [] := by
  unfold stK
  exact fun e => nomatch e
/-- sorted by its keys -/
def ascKV (kvs kvs' : List (List L2.Key × V)) : Prop := kvs'.map (·.1) = (kvs.map (·.1)).mergeSort Ka.kLe ∧ kvs'.Perm kvs
section
variable {P : Program} {w : World} {K : PySem.W.Frag} {mg : Str → Option Value} {base : Heap}
def spAsc : Sp := fun vs H Q _ => ∃ (t : Addr) (kvs : List (List L2.Key × V)), vs = [.ref t] ∧ Rd H t (.dT kvs) ∧ (kvs.map (·.1)).Nodup ∧ (∀ x ∈ kvs, ∃ s, x.1 = stK s) ∧ kvs.length ≤ 100000 ∧ ∀ H' q kvs', Same H H' → H q = none → H' q = some (.dT kvs') → ascKV kvs kvs' → Q (.ref q) H'
abbrev nAs : List Str := ["table", "key"]
theorem scAs : FnScope nAs ["table"] (defScope sAscending) := ⟨rfl, rfl, rfl, by decide +kernel, rfl, by decide +kernel, by decide +kernel⟩
theorem ok_asc {f : Addr} {fd : FuncData} (F : Fun K "ascending" "ascending" sAscending f fd) (N : Nones mg) : FnOk P w K mg base CX0 1 f fd ["table"] spAsc := by
  refine F.ok scAs (fun vs H Q E h => ?_) (fun cdv A outer s H vs Q E hr h => ?_)
  · obtain ⟨t, kvs, rfl, _⟩ := h
    rfl
  · obtain ⟨t, kvs, rfl, hd, nd, hst, hl, q⟩ := h
    refine ⟨_, pss_one (ps_ret (Ka.pe_dcT (own := [("key", 1)]) (g := gName 1) rfl (hu_of hr) scAs.nd (pi_list (pe_callB (Ka.cr_sortT rfl hr.units) (by rfl) N.sorted (by decide +kernel) (pa_cons (pv 0) pa_nil))) (blkOk_by (own := [("key", 1)]) (N := nAs) (sc := defScope sAscending) (by decide +kernel)) (fun _ _ _ _ _ => (pg_name (i := 1) scAs.nd rfl (Or.inl rfl))) (fun _ _ _ _ _ => (pv 1)) (fun _ _ _ _ _ => (pe_dget (hu_of hr) (pv 0) (pv 1) (fun _ _ => rfl))))), ?_⟩
    refine ⟨_, rfl, t, kvs, rfl, hd, fun x hx y hy => ?_, fun x hx => ?_, fun rs p e1 e2 np => ?_⟩
    · obtain ⟨a, ha⟩ := hst x hx
      obtain ⟨b, hb⟩ := hst y hy
      rw [ha, hb]
      exact stK_alike a b
    · obtain ⟨a, ha⟩ := hst x hx
      rw [ha]
      exact stK_ne a
    have sp := same_new (o := .lst (rs.map fun r => V.ref r.1)) np
    have ep : upd H p (.lst (rs.map fun r => V.ref r.1)) p = some (.lst (rs.map fun r => V.ref r.1)) := upd_same
    generalize upd H p (.lst (rs.map fun r => V.ref r.1)) = H1 at sp ep
    have pk : (rs.map (·.2)).Perm (kvs.map (·.1)) := by
      rw [e1]
      exact List.mergeSort_perm _ _
    have ndr : (rs.map (·.2)).Nodup := pk.nodup_iff.mpr nd
    have val : ∀ r ∈ rs, (r.2, (valV kvs r.2).getD .non) ∈ kvs ∧ valV kvs r.2 = some ((valV kvs r.2).getD .non) := fun r hr2 => by
      obtain ⟨x, hx, e⟩ := List.mem_map.mp (pk.mem_iff.mp (List.mem_map.mpr ⟨r, hr2, rfl⟩))
      have : valV kvs r.2 = some x.2 := by
        rw [← e]
        exact valV_mem nd hx
      rw [this]
      refine ⟨?_, rfl⟩
      show (r.2, x.2) ∈ kvs
      rw [← e]
      exact hx
    have hrl : rs.length = kvs.length := by
      have := pk.length_eq
      rwa [List.length_map, List.length_map] at this
    refine ⟨p, rfl, ⟨_, sqL_new ep⟩, fun D nD => ?_⟩
    refine dcT_it (walk_list (K := K) (a := p) (xs := rs.map fun r => V.ref r.1)) (fun i G => Same H1 G ∧ G D = some (.dT ((rs.take i).map fun r => (r.2, (valV kvs r.2).getD .non)))) ⟨same_new nD, upd_same⟩ (fun _ _ _ h => sqL_new (h.1 _ _ ep)) (fun i x G G' hi h y => ?_) (fun G h => ?_)
    · obtain ⟨rfl, hx⟩ := y
      obtain ⟨r, hr2, rfl⟩ := get_map hx
      obtain ⟨sG, eG⟩ := h
      have mr := List.mem_of_getElem? hr2
      have s2 := sp.trans sG
      have g : DGet G' t (.ref r.1) (some ((valV kvs r.2).getD .non)) := .inr ⟨kvs, r.2, r.1, Rd.mono hd s2, rfl, s2 _ _ (e2 r mr), (val r mr).2.symm⟩
      refine ⟨rfl, _, rfl, _, rfl, _, rfl, t, _, rfl, g, ?_⟩
      refine ⟨_, r.2, r.1, rfl, s2 _ _ (e2 r mr), eG, by rw [List.length_map, List.length_take]; exact small (by omega), fun c o e => ?_, ?_⟩
      · rw [upd_ne (ne_of_none e nD)]
        exact sG _ _ e
      · rw [upd_same, putK_new, take_of_get hr2, List.map_append]
        · rfl
        · rw [List.map_map]
          intro z
          have z : r.2 ∈ (rs.take i).map (·.2) := z
          have nd2 := ndr
          rw [← List.take_append_drop i rs, List.map_append, drop_of_get hr2, List.map_cons, List.nodup_append] at nd2
          exact nd2.2.2 _ z _ List.mem_cons_self rfl
    · obtain ⟨sG, eG⟩ := h
      rw [List.length_map, List.take_length] at eG
      refine q G D _ (sp.trans sG) (sp.free nD) eG ⟨?_, ?_⟩
      · rw [List.map_map, ← e1]
        rfl
      · have h1 : kvs = (kvs.map (·.1)).map fun k => (k, (valV kvs k).getD .non) := by
          rw [List.map_map]
          refine (List.map_id _).symm.trans (List.map_congr_left fun x hx => ?_)
          show x = (x.1, (valV kvs x.1).getD .non)
          rw [valV_mem nd hx]
          rfl
        have h2 : (rs.map fun r => (r.2, (valV kvs r.2).getD .non)) = (rs.map (·.2)).map fun k => (k, (valV kvs k).getD .non) := by rw [List.map_map]; rfl
        rw [h2]
        have := pk.map fun k => (k, (valV kvs k).getD .non)
        rwa [← h1] at this
/-- a weight for each deed -/
def wKV (ds : List Str) (wf : Str → Nat) : List (L2.Key × V) := ds.map fun d => (Sum.inr d, V.int (wf d : Int))
theorem wKV_keys (ds : List Str) (wf : Str → Nat) : (wKV ds wf).map (·.1) = ds.map Sum.inr := by
  unfold wKV
  rw [List.map_map]
  rfl
theorem inr_nd {ds : List Str} (nd : ds.Nodup) : (ds.map (Sum.inr : Str → L2.Key)).Nodup := by
  unfold List.Nodup at *
  rw [List.pairwise_map]
  exact nd.imp fun ne e => ne (Sum.inr.inj e)
theorem inr_mem {ds : List Str} {x : Str} (h : (Sum.inr x : L2.Key) ∈ ds.map Sum.inr) : x ∈ ds := by
  obtain ⟨y, hy, e⟩ := List.mem_map.mp h
  rw [← Sum.inr.inj e]
  exact hy
def WAt (H : Hp) (q : Addr) (cs : List CA) (wf : Str → Nat) : Prop := ∃ ds : List Str, H q = some (.dK (wKV ds wf)) ∧ ds.Perm (uniq (dns cs))
theorem WAt.mono {H H' : Hp} {q : Addr} {cs : List CA} {wf : Str → Nat} (s : Same H H') (h : WAt H q cs wf) : WAt H' q cs wf := let ⟨ds, e, p⟩ := h; ⟨ds, s _ _ e, p⟩
theorem WAt.get {H : Hp} {q : Addr} {cs : List CA} {wf : Str → Nat} (h : WAt H q cs wf) : ∃ kvs, H q = some (.dK kvs) ∧ ∀ d ∈ dns cs, valV kvs (Sum.inr d) = some (.int (wf d : Int)) := by
  obtain ⟨ds, e, p⟩ := h
  refine ⟨_, e, fun d hd => valV_mem ?_ (List.mem_map.mpr ⟨d, p.mem_iff.mpr ((mem_uniq _ _).mpr hd), rfl⟩)⟩
  rw [wKV_keys]
  exact inr_nd (p.nodup_iff.mpr (uniq_nd _))
def spRowLens (K : PySem.W.Frag) (C : Addr) : Sp := fun vs H Q _ => ∃ (p a v : Addr) (cs : List CA) (kvs : List (L2.Key × V)) (wf : Str → Nat), vs = [.ref p, .ref v] ∧ BookAt K C H p a cs ∧ Rd H v (.dK kvs) ∧ (∀ d ∈ dns cs, ∃ r xs, valV kvs (Sum.inr d) = some (.ref r) ∧ SqT K H r xs ∧ xs.length = wf d) ∧ ∀ H' q, Same H H' → H q = none → WAt H' q cs wf → Q (.ref q) H'
abbrev nRl : List Str := ["book", "view", "deed"]
theorem scRl : FnScope nRl ["book", "view"] (defScope sRowLengths) := ⟨rfl, rfl, rfl, by decide +kernel, rfl, by decide +kernel, by decide +kernel⟩
theorem ok_rowlens {f C fD : Addr} {fd fdD : FuncData} (F : Fun K "row_lengths" "row_lengths" sRowLengths f fd) (N : Nones mg) (B : BkC K mg C) (GM_deeds : FnOk P w K mg base CX0 2 fD fdD ["self"] (spBkDeeds K C)) (bM_deeds : Binds K fdD ["self"] []) (m_deeds : Meth K C "deeds" fD) : FnOk P w K mg base CX0 3 f fd ["book", "view"] (spRowLens K C) := by
  refine F.ok scRl (fun vs H Q E h => ?_) (fun cdv A outer s H vs Q E hr h => ?_)
  · obtain ⟨p, a, v, cs, kvs, wf, rfl, _⟩ := h
    rfl
  · obtain ⟨p, a, v, cs, kvs, wf, rfl, hB, hv, hw, q⟩ := h
    refine ⟨_, pss_one (ps_ret (pe_dc (own := [("deed", 2)]) (g := gName 2) (tt := tYes) rfl scRl.nd (pi_tup (pe_meth0 (pv 0) B.cl m_deeds GM_deeds (hr.mono (by decide)) bM_deeds .nil pass0)) (blkOk_by (own := [("deed", 2)]) (N := nRl) (sc := defScope sRowLengths) (by decide +kernel)) (fun _ _ _ _ _ => (pg_name (i := 2) scRl.nd rfl (Or.inl rfl))) (fun _ _ _ _ _ => pts_nil) (fun _ _ _ _ _ => (pv 2)) (fun _ _ _ _ _ => (pe_callB (len_at (K := K) rfl) (by rfl) N.len PySem.boot_len (pa_cons (pe_dget (hu_of hr) (pv 1) (pv 2) (fun _ _ => rfl)) pa_nil))))), ?_⟩
    obtain ⟨dx, fs, P1, S1, E1, L1, S, hp, L, hC, ok, _⟩ := id hB
    refine ⟨_, rfl, p, dx, fs, rfl, hp, L.no _ (by decide +kernel), p, a, cs, rfl, hB, fun H1 q1 ds s1 n1 e1 hperm hso => ?_⟩
    have d12 := ok.d12
    have dl : ds.length ≤ 12 := by rw [hperm.length_eq]; exact d12
    have dn : ds.Nodup := hperm.nodup_iff.mpr (uniq_nd _)
    refine ⟨q1, rfl, ⟨_, sqT_new e1⟩, fun D nD => ?_⟩
    refine dcK_it (walk_tup (K := K) (a := q1) (xs := ds.map V.str)) (fun i G => Same H1 G ∧ G D = some (.dK (wKV (ds.take i) wf))) ⟨same_new nD, upd_same⟩ (fun _ _ _ h => sqT_new (h.1 _ _ e1)) (fun i x G G' hi h y => ?_) (fun G h => ?_)
    · obtain ⟨rfl, hy⟩ := y
      obtain ⟨d, hd, rfl⟩ := get_map hy
      obtain ⟨sG, eG⟩ := h
      have md : d ∈ dns cs := (mem_uniq _ _).mp (hperm.mem_iff.mp (List.mem_of_getElem? hd))
      obtain ⟨r, xs, h1, h2, h3⟩ := hw d md
      have s2 := s1.trans sG
      have g : DGet G' v (.str d) (some (.ref r)) := .inl ⟨kvs, Sum.inr d, Rd.mono hv s2, rfl, h1.symm⟩
      refine ⟨rfl, .str d, rfl, _, rfl, .str d, rfl, v, _, rfl, g, r, xs, rfl, .inr (Same.sqT s2 h2), ?_⟩
      rw [h3]
      refine ⟨wKV (ds.take i) wf, Sum.inr d, rfl, eG, by unfold wKV; rw [List.length_map, List.length_take]; exact small (by omega), fun c o e => ?_, ?_⟩
      · rw [upd_ne (ne_of_none e nD)]
        exact sG _ _ e
      · rw [upd_same, putK_new]
        · unfold wKV
          rw [take_of_get hd, List.map_append]
          rfl
        · rw [wKV_keys]
          intro z
          have z := inr_mem z
          rw [← List.take_append_drop i ds, drop_of_get hd, List.nodup_append] at dn
          exact dn.2.2 _ z _ List.mem_cons_self rfl
    · obtain ⟨sG, eG⟩ := h
      rw [List.length_map, List.take_of_length_le (Nat.le_refl _)] at eG
      exact q G D (s1.trans sG) (s1.free nD) ⟨ds, eG, hperm⟩
/-- ways' costs: the weight first, the steps behind it -/
abbrev wf2 (wf : Str → Nat) : Str → Cost := fun d => (wf d, 1)
abbrev FreeG (K : PySem.W.Frag) (mg : Str → Option Value) (aF aS : Addr) : Prop := mg "FREE" = some (.ref aF) ∧ KTup K aF (coV (0, 0)) ∧ mg "ONE_STEP" = some (.ref aS) ∧ KTup K aS (coV (0, 1))
def spWayCosts (K : PySem.W.Frag) (C : Addr) : Sp := fun vs H Q _ => ∃ (p a v : Addr) (cs : List CA) (wf : Str → Nat), vs = [.ref p, .ref v] ∧ BookAt K C H p a cs ∧ WAt H v cs wf ∧ ∀ H' q dn dn', Same H H' → H q = none → DoneAt K H' q dn' → dn'.Perm dn → (Kz.keys dn').map stK = ((Kz.keys dn).map stK).mergeSort Ka.kLe → Kz.Settled (endsS cs) (linesK (0, 1) (wf2 wf) cs) (0, 0) dn → (∀ x ∈ Kz.keys dn, x ∈ stagesS cs) → Q (.ref q) H'
abbrev nWc : List Str := ["book", "weights", "deed_costs", "deed"]
theorem scWc : FnScope nWc ["book", "weights"] (defScope sWayCosts) := ⟨rfl, rfl, rfl, by decide +kernel, rfl, by decide +kernel, by decide +kernel⟩
theorem doneKV_perm {T : List (Addr × (Stg × Cost))} {kvs : List (List L2.Key × V)} (h : kvs.Perm (doneKV T)) : ∃ T' : List (Addr × (Stg × Cost)), T'.Perm T ∧ kvs = doneKV T' := perm_of_map h T rfl
theorem ok_waycosts {f C fD fS fA aF aS : Addr} {fd fdD fdS fdA : FuncData} (F : Fun K "way_costs" "way_costs" sWayCosts f fd) (N : Nones mg) (B : BkC K mg C) (g_F : FreeG K mg aF aS) (GM_deeds : FnOk P w K mg base CX0 2 fD fdD ["self"] (spBkDeeds K C)) (bM_deeds : Binds K fdD ["self"] []) (m_deeds : Meth K C "deeds" fD)
    (G_settled : FnOk P w K mg base CX0 3 fS fdS ["book", "end", "deed_costs", "call"] (spSettled K C)) (C_settled : CallC K mg "settled" ["book", "end", "deed_costs", "call"] fS fdS) (G_ascending : FnOk P w K mg base CX0 1 fA fdA ["table"] spAsc) (C_ascending : CallC K mg "ascending" ["table"] fA fdA) : FnOk P w K mg base CX0 4 f fd ["book", "weights"] (spWayCosts K C) := by
  refine F.ok scWc (fun vs H Q E h => ?_) (fun cdv A outer s H vs Q E hr h => ?_)
  · obtain ⟨p, a, v, cs, wf, rfl, _⟩ := h
    rfl
  · obtain ⟨p, a, v, cs, wf, rfl, hB, hW, q⟩ := h
    obtain ⟨gF, kF, gS, kS⟩ := g_F
    refine ⟨_, pss_cons (Ka.ps_setDc (i := 2) (own := [("deed", 3)]) (g := gName 3) (tt := tYes) rfl scWc.nd rfl rfl (Ka.sw_dc rfl rfl rfl rfl) (pi_tup (pe_meth0 (pv 0) B.cl m_deeds GM_deeds (hr.mono (by decide)) bM_deeds .nil pass0)) (blkOk_by (own := [("deed", 3)]) (N := nWc) (sc := defScope sWayCosts) (by decide +kernel)) (fun _ _ _ _ _ => (pg_name (i := 3) scWc.nd rfl (Or.inl rfl))) (fun _ _ _ _ _ => pts_nil) (fun _ _ _ _ _ => (pv 3)) (fun _ _ _ _ _ => (pe_tup (pa_cons (pe_dget (hu_of hr) (pv 1) (pv 3) (fun _ _ => rfl)) (pa_cons pe_int pa_nil)))))
      (pss_one (ps_ret (pe_call G_ascending (hr.mono (by decide)) (by rfl) C_ascending.g C_ascending.kp C_ascending.b .nil pass0 (pa_cons (pe_call G_settled (hr.mono (by decide)) (by rfl) C_settled.g C_settled.kp C_settled.b .nil pass0 (pa_cons (pv 0) (pa_cons (pe_glob (v := .ref aF) rfl gF rfl) (pa_cons (pv 2) (pa_cons (pe_glob (v := .ref aS) rfl gS rfl) pa_nil))))) pa_nil)))), ?_⟩
    obtain ⟨dx, fs, P1, S1, E1, L1, S, hp, L, hC, ok, _⟩ := id hB
    obtain ⟨wkv, hw1, hw2⟩ := hW.get
    refine ⟨_, rfl, p, dx, fs, rfl, hp, L.no _ (by decide +kernel), p, a, cs, rfl, hB, fun H1 q1 ds s1 n1 e1 hperm hso => ?_⟩
    have d12 := ok.d12
    have st60 := ok.st
    have dl : ds.length ≤ 12 := by rw [hperm.length_eq]; exact d12
    have dn : ds.Nodup := hperm.nodup_iff.mpr (uniq_nd _)
    refine ⟨q1, rfl, ⟨_, sqT_new e1⟩, fun D nD => ?_⟩
    refine dcK_it (walk_tup (K := K) (a := q1) (xs := ds.map V.str)) (fun i G => ∃ L : List SA, Same H1 G ∧ G D = some (.dK (saKV L)) ∧ L.map (·.1) = ds.take i ∧ ∀ t ∈ L, G t.2 = some (.tup (coV (wf t.1, 1)))) ⟨[], same_new nD, upd_same, rfl, fun t ht => nomatch ht⟩ (fun _ _ _ h => sqT_new (h.choose_spec.1 _ _ e1)) (fun i x G G' hi h y => ?_) (fun G h => ?_)
    · obtain ⟨rfl, hy⟩ := y
      obtain ⟨d, hd, rfl⟩ := get_map hy
      obtain ⟨L, sG, eG, kL, tL⟩ := h
      have md : d ∈ dns cs := (mem_uniq _ _).mp (hperm.mem_iff.mp (List.mem_of_getElem? hd))
      have lL : L.length ≤ 12 := by
        have := congrArg List.length kL
        rw [List.length_map, List.length_take] at this
        omega
      have g : DGet G' v (.str d) (some (.int (wf d : Int))) := hw2 d md ▸ DGet.k (k := Sum.inr d) (sG _ _ (s1 _ _ hw1))
      refine ⟨rfl, .str d, rfl, _, rfl, .str d, rfl, v, _, rfl, g, smallE (by show 2 ≤ 1000000; decide), fun b nb => ?_⟩
      have sb := same_new (o := .tup [V.int (wf d : Int), V.int 1]) nb
      have eb : upd G' b (.tup [V.int (wf d : Int), V.int 1]) b = some (.tup [V.int (wf d : Int), V.int 1]) := upd_same
      have eD := sb _ _ eG
      generalize upd G' b (.tup [V.int (wf d : Int), V.int 1]) = Z at sb eb eD
      have nDt : ∀ {c : Addr} {xs : List V}, Z c = some (.tup xs) → c ≠ D := fun e w => by
        rw [w, eD] at e
        cases e
      refine ⟨saKV L, Sum.inr d, rfl, eD, by rw [saKV_len]; exact small (by omega), L ++ [(d, b)], fun c o e => ?_, ?_, ?_, fun t ht => ?_⟩
      · rw [upd_ne (ne_of_none e nD)]
        exact sb _ _ (sG _ _ e)
      · rw [upd_same, putK_new]
        · unfold saKV
          rw [List.map_append]
          rfl
        · rw [saKV_keys, kL]
          intro z
          have z := inr_mem z
          rw [← List.take_append_drop i ds, drop_of_get hd, List.nodup_append] at dn
          exact dn.2.2 _ z _ List.mem_cons_self rfl
      · rw [List.map_append, kL, take_of_get hd]
        rfl
      · rcases List.mem_append.mp ht with z | z
        · have a1 := sb _ _ (tL t z)
          rw [upd_ne (nDt a1)]
          exact a1
        · rw [List.mem_singleton.mp z, upd_ne (nDt eb)]
          exact eb
    · obtain ⟨L, sG, eG, kL, tL⟩ := h
      rw [List.length_map, List.take_of_length_le (Nat.le_refl _)] at kL
      have s2 := s1.trans sG
      refine ⟨_, rfl, _, rfl, p, a, aF, D, aS, cs, (0, 0), (0, 1), saKV L, wf2 wf, rfl, hB.mono s2, .inr kF, eG, .inr kS, fun l hl hcl => ?_, fun H2 r dn2 s3 nr hdn hset hsub => ?_⟩
      · obtain ⟨c, mc, pp, mp, e⟩ := mem_linesS.mp hl
        have mnm : l.2.nm ∈ dns cs := by
          have e2 : l.2 = pp.2 := by rw [e]
          rw [e2] at hcl ⊢
          exact dns_mem mc (List.mem_map.mpr ⟨pp, List.mem_filter.mpr ⟨mp, by rw [hcl]; rfl⟩, rfl⟩)
        have m2 : l.2.nm ∈ L.map (·.1) := by
          rw [kL]
          exact hperm.mem_iff.mpr ((mem_uniq _ _).mpr mnm)
        obtain ⟨t, ht, et⟩ := List.mem_map.mp m2
        refine ⟨t.2, valV_mem ?_ (List.mem_map.mpr ⟨t, ht, by rw [et]⟩), .inl ?_⟩
        · have := inr_nd dn
          rw [saKV_keys, kL]
          exact this
        · have := tL t ht
          rw [et] at this
          exact this
      · obtain ⟨T, t1, t2, t3⟩ := hdn
        have ndk : ((doneKV T).map (·.1)).Nodup := by
          rw [done_keys, t2]
          exact stK_nd hset.nd
        have lT : (doneKV T).length ≤ 60 := by
          have h1 : (doneKV T).length = (Kz.keys dn2).length := by
            rw [← t2]
            unfold doneKV Kz.keys
            rw [List.length_map, List.length_map, List.length_map]
          have h2 := nd_le hset.nd hsub
          have h3 := stagesS_len cs
          omega
        refine ⟨r, doneKV T, rfl, .inl t1, ndk, fun x hx => ?_, by omega, fun H3 q3 kvs' s4 n3 e3 hasc => ?_⟩
        · obtain ⟨t, ht, rfl⟩ := List.mem_map.mp hx
          exact ⟨_, rfl⟩
        · obtain ⟨T', pT, rfl⟩ := doneKV_perm hasc.2
          refine q H3 q3 dn2 (T'.map (·.2)) ((s2.trans s3).trans s4) (s2.free (s3.free n3)) ⟨T', e3, rfl, fun t ht => (t3 t (pT.mem_iff.mp ht)).mono s4⟩ ?_ ?_ hset hsub
          · rw [← t2]
            exact pT.map _
          · rw [← done_keys, hasc.1, done_keys, t2]
/-- least weights where they stand -/
def lwKV (dn : List (Stg × Cost)) : List (List L2.Key × V) := dn.map fun x => (stK x.1, V.int (x.2.1 : Int))
theorem lwKV_keys (dn : List (Stg × Cost)) : (lwKV dn).map (·.1) = (Kz.keys dn).map stK := by
  unfold lwKV Kz.keys
  rw [List.map_map, List.map_map]
  rfl
def spLeastW (K : PySem.W.Frag) (C : Addr) : Sp := fun vs H Q _ => ∃ (p a v : Addr) (cs : List CA) (wf : Str → Nat), vs = [.ref p, .ref v] ∧ BookAt K C H p a cs ∧ WAt H v cs wf ∧ ∀ H' q dn dn', Same H H' → H q = none → H' q = some (.dT (lwKV dn')) → dn'.Perm dn → (Kz.keys dn').map stK = ((Kz.keys dn).map stK).mergeSort Ka.kLe → Kz.Settled (endsS cs) (linesK (0, 1) (wf2 wf) cs) (0, 0) dn → (∀ x ∈ Kz.keys dn, x ∈ stagesS cs) → Q (.ref q) H'
abbrev nLw : List Str := ["book", "weights", "costs", "stage"]
theorem scLw : FnScope nLw ["book", "weights"] (defScope sLeastWeights) := ⟨rfl, rfl, rfl, by decide +kernel, rfl, by decide +kernel, by decide +kernel⟩
theorem ok_leastw {f C fW : Addr} {fd fdW : FuncData} (F : Fun K "least_weights" "least_weights" sLeastWeights f fd) (G_way_costs : FnOk P w K mg base CX0 4 fW fdW ["book", "weights"] (spWayCosts K C)) (C_way_costs : CallC K mg "way_costs" ["book", "weights"] fW fdW) : FnOk P w K mg base CX0 5 f fd ["book", "weights"] (spLeastW K C) := by
  refine F.ok scLw (fun vs H Q E h => ?_) (fun cdv A outer s H vs Q E hr h => ?_)
  · obtain ⟨p, a, v, cs, wf, rfl, _⟩ := h
    rfl
  · obtain ⟨p, a, v, cs, wf, rfl, hB, hW, q⟩ := h
    refine ⟨_, pss_cons (ps_set (i := 2) scLw.nd rfl (Or.inr rfl) (pe_call G_way_costs (hr.mono (by decide)) (by rfl) C_way_costs.g C_way_costs.kp C_way_costs.b .nil pass0 (pa_cons (pv 0) (pa_cons (pv 1) pa_nil))))
      (pss_one (ps_ret (pe_lock (Ka.pe_dcT (own := [("stage", 3)]) (g := gName 3) rfl (hu_of hr) scLw.nd (pi_keys (pv 2)) (blkOk_by (own := [("stage", 3)]) (N := nLw) (sc := defScope sLeastWeights) (by decide +kernel)) (fun _ _ _ _ _ => (pg_name (i := 3) scLw.nd rfl (Or.inl rfl))) (fun _ _ _ _ _ => (pv 3)) (fun _ _ _ _ _ => (pe_ix (ixT_at (K := K) rfl) (pe_dget (hu_of hr) (pv 2) (pv 3) (fun _ _ => rfl)) pe_int (fun _ _ => rfl))))))), ?_⟩
    refine ⟨_, rfl, _, rfl, p, a, v, cs, wf, rfl, hB, hW, fun Z D dn dn' sZ nD hdn pdn ksrt hset hsub => ?_⟩
    obtain ⟨_, _, _, _, _, _, _, _, _, _, ok, _⟩ := hB
    have st60 := ok.st
    obtain ⟨T, eZ, rfl, t3⟩ := hdn
    have ndk : ((doneKV T).map (·.1)).Nodup := by
      rw [done_keys, ksrt]
      exact (List.mergeSort_perm _ _).nodup_iff.mpr (stK_nd hset.nd)
    have lT : (doneKV T).length ≤ 60 := by
      have h1 : (doneKV T).length = (Kz.keys dn).length := by
        unfold doneKV Kz.keys
        rw [List.length_map, List.length_map, ← pdn.length_eq, List.length_map]
      have h2 := nd_le hset.nd hsub
      have h3 := stagesS_len cs
      omega
    refine ⟨D, _, eZ, True.intro, fun od => ?_⟩
    generalize hL : upd Z D (.frz od (.dT (doneKV T))) = L
    have fL : L D = some (.frz od (.dT (doneKV T))) := by rw [← hL]; exact upd_same
    have kL : But D Z L := by rw [← hL]; exact But.upd
    have sL : Same H L := fun b o e => kL _ _ (ne_of_none e nD) (sZ _ _ e)
    have cL : ∀ t ∈ T, CoAt K L t.1 t.2.2 := fun t ht => (t3 t ht).ts fun c xs e => kL _ _ (fun z => by rw [z, eZ] at e; cases e) e
    refine ⟨_, rfl, D, od, rfl, .inr ⟨doneKV T, fL, fun D2 nD2 => ?_⟩⟩
    refine dcT_it (walk_keysT (d := D) (o := od) (kvs := doneKV T)) (fun i Y => Same L Y ∧ Y D2 = some (.dT (lwKV ((T.take i).map (·.2))))) ⟨same_new nD2, upd_same⟩ (fun _ _ _ h => h.1 _ _ fL) (fun i x Y Y' hi h y => ?_) (fun Y h => ?_)
    · obtain ⟨rfl, k, v2, b, hkv, rfl, hb⟩ := y
      obtain ⟨sY, eY⟩ := h
      obtain ⟨t, ht, e⟩ := get_map hkv
      cases e
      have mt := List.mem_of_getElem? ht
      have hv : valV (doneKV T) (stK t.2.1) = some (.ref t.1) := valV_mem ndk (List.mem_map.mpr ⟨t, mt, rfl⟩)
      have hG : DGet Y' D (.ref b) (some (.ref t.1)) := .inr ⟨doneKV T, stK t.2.1, b, .inr ⟨od, sY _ _ fL⟩, rfl, hb, hv.symm⟩
      refine ⟨rfl, _, rfl, _, rfl, _, rfl, D, _, rfl, hG, t.1, _, _, .int (t.2.2.1 : Int), rfl, rfl, ((cL t mt).mono sY).sq, rfl, ?_⟩
      refine ⟨_, stK t.2.1, b, rfl, hb, eY, ?_, fun c o e => ?_, ?_⟩
      · unfold lwKV
        rw [List.length_map, List.length_map, List.length_take]
        have h1 : (doneKV T).length = T.length := by unfold doneKV; rw [List.length_map]
        exact small (by omega)
      · rw [upd_ne (ne_of_none e nD2)]
        exact sY _ _ e
      · rw [upd_same, putK_new, take_of_get ht]
        · unfold lwKV
          rw [List.map_append, List.map_append]
          rfl
        · rw [lwKV_keys]
          intro z
          obtain ⟨y, hy, e⟩ := List.mem_map.mp z
          have e := stK_inj e
          rw [e] at hy
          obtain ⟨u, hu, e5⟩ := List.mem_map.mp hy
          obtain ⟨w2, hw2, e6⟩ := List.mem_map.mp hu
          have nd2 := ndk
          unfold doneKV at nd2
          rw [List.map_map, ← List.take_append_drop i T, List.map_append, drop_of_get ht, List.map_cons, List.nodup_append] at nd2
          refine nd2.2.2 _ (List.mem_map.mpr ⟨w2, hw2, rfl⟩) _ List.mem_cons_self ?_
          show stK w2.2.1 = stK t.2.1
          rw [e6, e5]
    · obtain ⟨sY, eY⟩ := h
      have h1 : (doneKV T).length = T.length := by unfold doneKV; rw [List.length_map]
      rw [h1, List.take_length] at eY
      have nY : ∀ {c : Addr} {o : HO}, Y c = some o → (∀ u, o ≠ .frz od u) → c ≠ D := fun e h2 z => by
        rw [z, sY _ _ fL] at e
        exact h2 _ (Option.some.inj e).symm
      refine ⟨sY _ _ fL, q _ D2 dn (T.map (·.2)) (fun b o e => ?_) (sL.free nD2) ?_ pdn ksrt hset hsub⟩
      · rw [upd_ne (ne_of_none e nD)]
        exact sY _ _ (sL _ _ e)
      · rw [upd_ne (nY eY fun _ => fun e => by cases e)]
        exact eY
def spLens (K : PySem.W.Frag) (C : Addr) : Sp := fun vs H Q _ => ∃ (p a v : Addr) (cs : List CA) (kvs : List (L2.Key × V)) (wf : Str → Nat), vs = [.ref p, .ref v] ∧ BookAt K C H p a cs ∧ Rd H v (.dK kvs) ∧ (∀ d ∈ dns cs, ∃ r xs, valV kvs (Sum.inr d) = some (.ref r) ∧ SqT K H r xs ∧ xs.length = wf d) ∧ ∀ H' q dn dn', Same H H' → H q = none → H' q = some (.dT (lwKV dn')) → dn'.Perm dn → (Kz.keys dn').map stK = ((Kz.keys dn).map stK).mergeSort Ka.kLe → Kz.Settled (endsS cs) (linesK (0, 1) (wf2 wf) cs) (0, 0) dn → (∀ x ∈ Kz.keys dn, x ∈ stagesS cs) → Q (.ref q) H'
abbrev nLg : List Str := ["book", "view"]
theorem scLg : FnScope nLg ["book", "view"] (defScope sLengths) := ⟨rfl, rfl, rfl, by decide +kernel, rfl, by decide +kernel, by decide +kernel⟩
theorem ok_lens {f C fR fW : Addr} {fd fdR fdW : FuncData} (F : Fun K "lengths" "lengths" sLengths f fd) (G_row_lengths : FnOk P w K mg base CX0 3 fR fdR ["book", "view"] (spRowLens K C)) (C_row_lengths : CallC K mg "row_lengths" ["book", "view"] fR fdR) (G_least_weights : FnOk P w K mg base CX0 5 fW fdW ["book", "weights"] (spLeastW K C)) (C_least_weights : CallC K mg "least_weights" ["book", "weights"] fW fdW) : FnOk P w K mg base CX0 6 f fd ["book", "view"] (spLens K C) := by
  refine F.ok scLg (fun vs H Q E h => ?_) (fun cdv A outer s H vs Q E hr h => ?_)
  · obtain ⟨p, a, v, cs, kvs, wf, rfl, _⟩ := h
    rfl
  · obtain ⟨p, a, v, cs, kvs, wf, rfl, hB, hv, hw, q⟩ := h
    refine ⟨_, pss_one (ps_ret (pe_call G_least_weights (hr.mono (by decide)) (by rfl) C_least_weights.g C_least_weights.kp C_least_weights.b .nil pass0 (pa_cons (pv 0) (pa_cons (pe_call G_row_lengths (hr.mono (by decide)) (by rfl) C_row_lengths.g C_row_lengths.kp C_row_lengths.b .nil pass0 (pa_cons (pv 0) (pa_cons (pv 1) pa_nil))) pa_nil)))), ?_⟩
    refine ⟨_, rfl, _, rfl, _, rfl, p, a, v, cs, kvs, wf, rfl, hB, hv, hw, fun H1 q1 s1 n1 hW => ?_⟩
    refine ⟨p, a, q1, cs, wf, rfl, hB.mono s1, hW, fun H2 q2 dn dn' s2 n2 e2 pd ks hset hsub => ?_⟩
    exact q H2 q2 dn dn' (s1.trans s2) (s1.free n2) e2 pd ks hset hsub
end
end Kb
namespace Kb
open PySem PySem.Spec PyProof.Rows L2
/-! ### no least length above the product -/
def most1 (c : CA) : Nat := max 1 (c.n - 1)
theorem most1_pos (c : CA) : 1 ≤ most1 c := Nat.le_max_left _ _
/-- the product over the courses that p names -/
def prodW (p : Str → Prop) [DecidablePred p] : List CA → Nat
  | [] => 1
  | c :: cs => (if p c.nm then most1 c else 1) * prodW p cs
theorem prodW_pos (p : Str → Prop) [DecidablePred p] : ∀ cs : List CA, 1 ≤ prodW p cs
  | [] => Nat.le_refl _
  | c :: cs => by
    unfold prodW
    have := prodW_pos p cs
    have := most1_pos c
    split
    · exact Nat.mul_le_mul this ‹1 ≤ prodW p cs›
    · omega
theorem prodW_mono (p q : Str → Prop) [DecidablePred p] [DecidablePred q] (h : ∀ x, p x → q x) : ∀ cs : List CA, prodW p cs ≤ prodW q cs
  | [] => Nat.le_refl _
  | c :: cs => by
    unfold prodW
    refine Nat.mul_le_mul ?_ (prodW_mono p q h cs)
    by_cases h1 : p c.nm
    · rw [if_pos h1, if_pos (h _ h1)]
      exact Nat.le_refl _
    · rw [if_neg h1]
      split
      · exact most1_pos c
      · exact Nat.le_refl _
theorem prodW_more (p q : Str → Prop) [DecidablePred p] [DecidablePred q] (h : ∀ x, p x → q x) {c : CA} (hp : ¬ p c.nm) (hq : q c.nm) : ∀ {cs : List CA}, c ∈ cs → most1 c * prodW p cs ≤ prodW q cs
  | [], hc => nomatch hc
  | d :: cs, hc => by
    unfold prodW
    rcases List.mem_cons.mp hc with e | hc
    · rw [← e, if_neg hp, if_pos hq, Nat.one_mul]
      exact Nat.mul_le_mul (Nat.le_refl _) (prodW_mono p q h cs)
    · have ih := prodW_more p q h hp hq hc
      rw [Nat.mul_left_comm]
      refine Nat.mul_le_mul ?_ ih
      by_cases h1 : p d.nm
      · rw [if_pos h1, if_pos (h _ h1)]
        exact Nat.le_refl _
      · rw [if_neg h1]
        split
        · exact most1_pos d
        · exact Nat.le_refl _
def cntN (nm : Str) (l : List Stg) : Nat := (l.filter fun x => decide (x.1 = nm)).length
theorem cntN_app (nm : Str) (a b : List Stg) : cntN nm (a ++ b) = cntN nm a + cntN nm b := by
  unfold cntN
  rw [List.filter_append, List.length_append]
theorem keys_take (dn : List (Stg × Cost)) (i : Nat) : Kz.keys (dn.take i) = (Kz.keys dn).take i := by
  unfold Kz.keys
  rw [List.map_take]
theorem take_split {α : Type} {l : List α} {i j : Nat} {x : α} (hj : l[j]? = some x) (h : j < i) : ∃ r, l.take i = l.take j ++ x :: r := by
  refine ⟨(l.drop (j + 1)).take (i - (j + 1)), ?_⟩
  have h1 : l.take i = (l.take i).take j ++ (l.take i).drop j := (List.take_append_drop j _).symm
  rw [h1, List.take_take, Nat.min_eq_left (Nat.le_of_lt h), List.drop_take, drop_of_get hj]
  have h2 : i - j = (i - (j + 1)) + 1 := by omega
  rw [h2, List.take_succ_cons]
theorem cntN_lt {dn : List (Stg × Cost)} {i j : Nat} {nm : Str} {o : Nat} {v : Cost} (hj : dn[j]? = some ((nm, o), v)) (h : j < i) : cntN nm (Kz.keys (dn.take j)) + 1 ≤ cntN nm (Kz.keys (dn.take i)) := by
  obtain ⟨r, e⟩ := take_split hj h
  rw [e, Kz.keys_app, cntN_app]
  have : cntN nm (Kz.keys (((nm, o), v) :: r)) = cntN nm (Kz.keys r) + 1 := by
    unfold cntN Kz.keys
    rw [List.map_cons, List.filter_cons, if_pos (decide_eq_true rfl), List.length_cons]
  omega
theorem vf_at {dn : List (Stg × Cost)} {i : Nat} {p : Stg} (h : p ∈ Kz.keys (dn.take i)) : ∃ j, j < i ∧ dn[j]? = some (p, Kz.vf (dn.take i) p) := by
  obtain ⟨j, hj⟩ := List.getElem?_of_mem (Kz.mem_vf h)
  have hl := lt_of_get hj
  rw [List.length_take] at hl
  rw [List.getElem?_take_of_lt (by omega)] at hj
  exact ⟨j, by omega, hj⟩
theorem not_before {dn : List (Stg × Cost)} (nd : (Kz.keys dn).Nodup) {i : Nat} {x : Stg} {v : Cost} (h : dn[i]? = some (x, v)) : x ∉ Kz.keys (dn.take i) := by
  intro z
  have hk : (Kz.keys dn)[i]? = some x := by
    unfold Kz.keys
    rw [List.getElem?_map, h]
    rfl
  rw [keys_take] at z
  have nd2 := nd
  rw [← List.take_append_drop i (Kz.keys dn), drop_of_get hk, List.nodup_append] at nd2
  exact nd2.2.2 _ z _ List.mem_cons_self rfl
/-- of a course's stages fewer than n stand ahead of one of them -/
theorem cntN_le {cs : List CA} (ok : CsOk cs) {dn : List (Stg × Cost)} (nd : (Kz.keys dn).Nodup) (sub : ∀ x ∈ Kz.keys dn, x ∈ stagesS cs) {i : Nat} {c : CA} (hc : c ∈ cs) {k : Nat} {v : Cost} (h : dn[i]? = some ((c.nm, k), v)) : cntN c.nm (Kz.keys (dn.take i)) ≤ c.n - 1 := by
  have hk : k < c.n := by
    have : (c.nm, k) ∈ Kz.keys dn := List.mem_map.mpr ⟨_, List.mem_of_getElem? h, rfl⟩
    obtain ⟨c', h1, h2, h3⟩ := mem_stagesS.mp (sub _ this)
    rwa [same_course ok.nd hc h1 h2]
  have nb := not_before nd h
  have ndt : (Kz.keys (dn.take i)).Nodup := by
    rw [keys_take]
    exact nd.sublist (List.take_sublist _ _)
  have hnd : (((Kz.keys (dn.take i)).filter fun x => decide (x.1 = c.nm)).map (·.2)).Nodup := by
    unfold List.Nodup
    rw [List.pairwise_map]
    refine (ndt.filter _).imp_of_mem fun {a b} ha hb ne e => ne ?_
    have h1 := of_decide_eq_true (List.mem_filter.mp ha).2
    have h2 := of_decide_eq_true (List.mem_filter.mp hb).2
    exact Prod.ext (h1.trans h2.symm) e
  have := nd_le hnd (m := (List.range c.n).erase k) fun y hy => by
    obtain ⟨x, hx, rfl⟩ := List.mem_map.mp hy
    obtain ⟨hx, e⟩ := List.mem_filter.mp hx
    have e := of_decide_eq_true e
    have mx : x ∈ Kz.keys dn := by
      rw [keys_take] at hx
      exact List.mem_of_mem_take hx
    obtain ⟨c', h1, h2, h3⟩ := mem_stagesS.mp (sub _ mx)
    have : c' = c := same_course ok.nd h1 hc (by rw [← h2, e])
    rw [this] at h3
    refine (List.mem_erase_of_ne (fun z => nb ?_)).mpr (List.mem_range.mpr h3)
    have : x = (c.nm, k) := Prod.ext e z
    rw [← this]
    exact hx
  rw [List.length_map, List.length_erase_of_mem (List.mem_range.mpr hk), List.length_range] at this
  exact this
/-- the courses whose start stands among the first -/
abbrev begun (dn : List (Stg × Cost)) (i : Nat) : Str → Prop := fun nm => (nm, 0) ∈ Kz.keys (dn.take i)
theorem begun_mono {dn : List (Stg × Cost)} {i j : Nat} (h : j ≤ i) (nm : Str) (b : begun dn j nm) : begun dn i nm := by
  unfold begun at *
  rw [keys_take] at *
  have : (Kz.keys dn).take j = ((Kz.keys dn).take i).take j := by rw [List.take_take, Nat.min_eq_left h]
  rw [this] at b
  exact List.mem_of_mem_take b
theorem height {cs : List CA} (ok : CsOk cs) {wf : Str → Nat} (w1 : ∀ d ∈ dns cs, wf d ≤ 1) {dn : List (Stg × Cost)} (S : Kz.Settled (endsS cs) (linesK (0, 1) (wf2 wf) cs) (0, 0) dn) (sub : ∀ x ∈ Kz.keys dn, x ∈ stagesS cs) : ∀ (i : Nat) (x : Stg) (v : Cost), dn[i]? = some (x, v) → v.1 ≤ cntN x.1 (Kz.keys (dn.take i)) * prodW (begun dn i) cs := by
  intro i
  induction i using Nat.strongRecOn with
  | ind i ih =>
    intro x v h
    rcases S.just i x v h with ⟨_, e⟩ | ⟨ln, hl, hu, hp, e⟩
    · rw [e]
      exact Nat.zero_le _
    · obtain ⟨l, hl2, rfl⟩ := List.mem_map.mp hl
      obtain ⟨c, mc, pp, mp, el⟩ := mem_linesS.mp hl2
      subst el
      have hu : (c.nm, pp.2.n) = x := hu
      have pos := prodW_pos (begun dn i) cs
      have own : ∀ o, (c.nm, o) ∈ Kz.keys (dn.take i) → (Kz.vf (dn.take i) (c.nm, o)).1 + prodW (begun dn i) cs ≤ cntN x.1 (Kz.keys (dn.take i)) * prodW (begun dn i) cs := fun o ho => by
        obtain ⟨j, hj, ej⟩ := vf_at ho
        have h1 := ih j hj _ _ ej
        have h2 := cntN_lt ej hj
        have h3 := prodW_mono (begun dn j) (begun dn i) (begun_mono (Nat.le_of_lt hj)) cs
        rw [← hu]
        have h4 : cntN c.nm (Kz.keys (dn.take j)) * prodW (begun dn j) cs ≤ cntN c.nm (Kz.keys (dn.take j)) * prodW (begun dn i) cs := Nat.mul_le_mul (Nat.le_refl _) h3
        have h5 : (cntN c.nm (Kz.keys (dn.take j)) + 1) * prodW (begun dn i) cs ≤ cntN c.nm (Kz.keys (dn.take i)) * prodW (begun dn i) cs := Nat.mul_le_mul h2 (Nat.le_refl _)
        rw [Nat.add_mul, Nat.one_mul] at h5
        have h1 : (Kz.vf (dn.take i) (c.nm, o)).1 ≤ cntN c.nm (Kz.keys (dn.take j)) * prodW (begun dn j) cs := h1
        show _ ≤ cntN c.nm (Kz.keys (dn.take i)) * prodW (begun dn i) cs
        omega
      have hp : ∀ p ∈ partsS c.nm pp.2, p ∈ Kz.keys (dn.take i) := hp
      have e : v = Kz.lcF (Kz.vf (dn.take i)) (partsS c.nm pp.2) (if pp.2.call = true then (0, 1) else wf2 wf pp.2.nm) := e
      rw [e]
      unfold partsS at hp ⊢
      by_cases hcall : pp.2.call = true
      · rw [if_pos hcall] at hp ⊢
        rw [if_pos hcall]
        have ho := own pp.2.o (hp _ (by simp))
        have hs : (pp.2.nm, 0) ∈ Kz.keys (dn.take i) := hp _ (by simp)
        obtain ⟨j, hj, ej⟩ := vf_at hs
        have h1 := ih j hj _ _ ej
        have msub : (pp.2.nm, 0) ∈ Kz.keys dn := by
          rw [keys_take] at hs
          exact List.mem_of_mem_take hs
        obtain ⟨c', m1, m2, m3⟩ := mem_stagesS.mp (sub _ msub)
        have m2 : pp.2.nm = c'.nm := m2
        have h2 := cntN_le ok S.nd sub m1 (by rw [← m2]; exact ej)
        have h3 := prodW_more (begun dn j) (begun dn i) (begun_mono (Nat.le_of_lt hj)) (c := c') (by
          unfold begun
          rw [← m2]
          exact not_before S.nd ej) (by unfold begun; rw [← m2]; exact hs) m1
        have h1 : (Kz.vf (dn.take i) (pp.2.nm, 0)).1 ≤ cntN pp.2.nm (Kz.keys (dn.take j)) * prodW (begun dn j) cs := h1
        rw [m2] at h1
        have h4 : cntN c'.nm (Kz.keys (dn.take j)) * prodW (begun dn j) cs ≤ most1 c' * prodW (begun dn j) cs := Nat.mul_le_mul (Nat.le_trans h2 (Nat.le_max_right _ _)) (Nat.le_refl _)
        rw [← m2] at h1
        have e2 : (Kz.lcF (Kz.vf (dn.take i)) [(pp.2.nm, 0), (c.nm, pp.2.o)] (0, 1)).1 = 0 + (Kz.vf (dn.take i) (pp.2.nm, 0)).1 + (Kz.vf (dn.take i) (c.nm, pp.2.o)).1 := rfl
        rw [e2]
        rw [m2] at h1
        rw [m2]
        rw [m2] at ej
        omega
      · rw [if_neg hcall] at hp ⊢
        rw [if_neg hcall]
        have ho := own pp.2.o (hp _ (by simp))
        have e2 : (Kz.lcF (Kz.vf (dn.take i)) [(c.nm, pp.2.o)] (wf2 wf pp.2.nm)).1 = wf pp.2.nm + (Kz.vf (dn.take i) (c.nm, pp.2.o)).1 := rfl
        have w2 := w1 pp.2.nm (dns_mem mc (List.mem_map.mpr ⟨pp, List.mem_filter.mpr ⟨mp, by simpa using hcall⟩, rfl⟩))
        rw [e2]
        omega
/-- the product as the program reckons it -/
def boundS (cs : List CA) : Nat := prodW (fun _ => True) cs
theorem height_all {cs : List CA} (ok : CsOk cs) {wf : Str → Nat} (w1 : ∀ d ∈ dns cs, wf d ≤ 1) {dn : List (Stg × Cost)} (S : Kz.Settled (endsS cs) (linesK (0, 1) (wf2 wf) cs) (0, 0) dn) (sub : ∀ x ∈ Kz.keys dn, x ∈ stagesS cs) {c : CA} (hc : c ∈ cs) {k : Nat} (h : (c.nm, k) ∈ Kz.keys dn) : (Kz.vf dn (c.nm, k)).1 ≤ if k = 0 then boundS cs else boundS cs * (c.n - 1) := by
  obtain ⟨i, hi⟩ := List.getElem?_of_mem (Kz.mem_vf h)
  have h1 := height ok w1 S sub i _ _ hi
  have h2 := cntN_le ok S.nd sub hc hi
  have h1 : (Kz.vf dn (c.nm, k)).1 ≤ cntN c.nm (Kz.keys (dn.take i)) * prodW (begun dn i) cs := h1
  by_cases hk : k = 0
  · rw [if_pos hk]
    subst hk
    have h3 := prodW_more (begun dn i) (fun _ => True) (fun _ _ => trivial) (c := c) (not_before S.nd hi) trivial hc
    have h4 : cntN c.nm (Kz.keys (dn.take i)) * prodW (begun dn i) cs ≤ most1 c * prodW (begun dn i) cs := Nat.mul_le_mul (Nat.le_trans h2 (Nat.le_max_right _ _)) (Nat.le_refl _)
    exact Nat.le_trans h1 (Nat.le_trans h4 h3)
  · rw [if_neg hk]
    have h3 := prodW_mono (begun dn i) (fun _ => True) (fun _ _ => trivial) cs
    refine Nat.le_trans h1 ?_
    rw [Nat.mul_comm (boundS cs)]
    exact Nat.mul_le_mul h2 h3
end Kb
namespace Kb
open PySem PySem.Spec PyProof.Rows L2
/-! ### things in a drawn order -/
/-- a value that stays the same data so long as the tuples stay -/
def DV (K : PySem.W.Frag) (H : Hp) (x : V) : Prop := ∃ d : PyData, (∀ H', TS H H' → Dp K H' x d) ∧ d.canLay0 = true ∧ d.depth ≤ 10
theorem DV.ts {K : PySem.W.Frag} {H H' : Hp} {x : V} (s : TS H H') (h : DV K H x) : DV K H' x := let ⟨d, h1, h2⟩ := h; ⟨d, fun G sG => h1 G (s.trans sG), h2⟩
theorem DV.str {K : PySem.W.Frag} {H : Hp} (x : Str) (h : PyData.strOk x = true) : DV K H (.str x) := ⟨.str x, fun _ _ => .str x, by simpa [PyData.canLay0] using h, by simp [PyData.depth]⟩
theorem dvAll {K : PySem.W.Frag} {H : Hp} : ∀ {xs : List V}, (∀ x ∈ xs, DV K H x) → ∃ ds : List PyData, (∀ H', TS H H' → DpAll K H' xs ds) ∧ PyData.canLayAll0 ds = true ∧ PyData.depthAll ds ≤ 10 ∧ ds.length = xs.length
  | [], _ => ⟨[], fun _ _ => .nil, by simp [PyData.canLayAll0], by simp [PyData.depthAll], rfl⟩
  | x :: xs, h => by
    obtain ⟨d, d1, d2, d3⟩ := h x List.mem_cons_self
    obtain ⟨ds, e1, e2, e3, e4⟩ := dvAll fun y hy => h y (List.mem_cons_of_mem _ hy)
    refine ⟨d :: ds, fun H' s => .cons (d1 H' s) (e1 H' s), ?_, ?_, by rw [List.length_cons, List.length_cons, e4]⟩
    · simp [PyData.canLayAll0, d2, e2]
    · simp only [PyData.depthAll]
      omega
theorem TS.but {x : Addr} {H H' : Hp} (b : Box H x) (k : But x H H') : TS H H' := fun c xs e => k c _ (fun z => by
  obtain ⟨b0, b1, b2, hb⟩ := b
  rw [z, hb] at e
  cases e) e
theorem erase_perm {α : Type} : ∀ (l : List α) (i : Nat) (h : i < l.length), (l[i] :: l.eraseIdx i).Perm l
  | x :: l, 0, _ => List.Perm.refl _
  | x :: l, i + 1, h => by
    rw [List.length_cons] at h
    have ih := erase_perm l i (by omega)
    show (l[i] :: x :: l.eraseIdx i).Perm (x :: l)
    exact (List.Perm.swap x l[i] _).trans (List.Perm.cons x ih)
section
variable {P : Program} {w : World} {K : PySem.W.Frag} {mg : Str → Option Value} {base : Heap}
def spLawMixed (K : PySem.W.Frag) : Sp := fun vs H Q _ => ∃ (x a : Addr) (xs : List V), vs = [.ref x, .ref a] ∧ Box H x ∧ a ≠ x ∧ H a = some (.lst xs) ∧ xs.length ≤ 100000 ∧ (∀ y ∈ xs, DV K H y) ∧ ∀ H' q ys, But x H H' → Box H' x → H q = none → H' q = some (.lst ys) → ys.Perm xs → Q (.ref q) H'
abbrev nMx : List Str := ["box", "some", "left", "found"]
theorem scMx : FnScope nMx ["box", "some"] (defScope sLawMixed) := ⟨rfl, rfl, rfl, by decide +kernel, rfl, by decide +kernel, by decide +kernel⟩
theorem ok_lawmixed {f fT : Addr} {fd fdT : FuncData} (F : Fun K "_law_mixed" "_law_mixed" sLawMixed f fd) (N : Nones mg) (G__law_take : FnOk P w K mg base CX0 1 fT fdT ["box", "many"] spTake) (C__law_take : CallC K mg "_law_take" ["box", "many"] fT fdT) : FnOk P w K mg base CX0 2 f fd ["box", "some"] (spLawMixed K) := by
  refine F.ok scMx (fun vs H Q E h => ?_) (fun cdv A outer s0 H vs Q E hr h => ?_)
  · obtain ⟨x, a, xs, rfl, _⟩ := h
    rfl
  · obtain ⟨x, a, xs, rfl, bx, nax, ha, lx, dv, q⟩ := h
    refine ⟨_, pss_cons (ps_par (i := 2) (j := 3) rfl scMx.nd rfl rfl (by decide) rfl rfl (pa_cons (pe_callTy call_list_of (by rfl) N.list (by decide +kernel) (pa_cons (pv 1) pa_nil)) (pa_cons (pe_lst pa_nil) pa_nil)) (by rfl))
      (pss_cons (ps_while PassesOwn.never (pt_cmpR (op_neD hr.units) (pv 2) (pe_lst pa_nil) (nomark _))
        (pss_one (ps_expr (pe_bm PySem.F.plainAttrs_list PySem.F.slot_list_append PySem.F.type_list_append mt_append (pv 3) (pa_cons (pe_bm PySem.F.plainAttrs_list PySem.F.slot_list_pop PySem.F.type_list_pop mt_popAt (pv 2) (pa_cons (pe_call G__law_take (hr.mono (by decide)) (by rfl) C__law_take.g C__law_take.kp C__law_take.b .nil pass0 (pa_cons (pv 0) (pa_cons (pe_callB call_len_seq (by rfl) N.len PySem.boot_len (pa_cons (pv 2) pa_nil)) pa_nil))) pa_nil)) pa_nil)))))
      (pss_one (ps_ret (pv 3)))), ?_⟩
    refine ⟨_, rfl, a, xs, rfl, .inl (sqL_new ha), fun q1 n1 => ⟨smallE (by show 0 ≤ 1000000; decide), fun q2 n2 => ⟨_, _, rfl, ?_⟩⟩⟩
    have s1 := same_new (o := .lst xs) n1
    have e1 : upd H q1 (.lst xs) q1 = some (.lst xs) := upd_same
    have b1 := Box.upd (o := .lst xs) bx (Box.ne bx n1)
    generalize upd H q1 (.lst xs) = H1 at s1 e1 b1 n2
    have s2 := same_new (o := .lst []) n2
    have e2 : upd H1 q2 (.lst []) q2 = some (.lst []) := upd_same
    have b2 := Box.upd (o := .lst []) b1 (Box.ne b1 n2)
    have ne12 : q1 ≠ q2 := fun z => by
      rw [← z, e1] at n2
      cases n2
    have e1 := s2 _ _ e1
    have nq1x := Box.ne bx n1
    have nq2x := Box.ne b1 n2
    have n2H := s1.free n2
    generalize upd H1 q2 (.lst []) = H2 at s2 e1 e2 b2
    have s12 := s1.trans s2
    refine ⟨fun m σ Z => ∃ (ls fs : List V), σ = [some (.ref x), some (.ref a), some (.ref q1), some (.ref q2)] ∧ But x H Z ∧ Box Z x ∧ Z q1 = some (.lst ls) ∧ Z q2 = some (.lst fs) ∧ (fs ++ ls).Perm xs ∧ m = ls.length, ⟨_, xs, [], rfl, But.of s12, b2, e1, e2, by rw [List.nil_append], rfl⟩, fun m σ Z h => ?_⟩
    obtain ⟨ls, fs, rfl, kZ, bZ, e1, e2, pm, em⟩ := h
    have tsZ := TS.but bx kZ
    have mls : ∀ y ∈ ls, y ∈ xs := fun y hy => pm.mem_iff.mp (List.mem_append_right _ hy)
    obtain ⟨ds, d1, d2, d3, d4⟩ := dvAll (K := K) (H := Z) fun y hy => (dv y (mls y hy)).ts tsZ
    refine ⟨_, rfl, smallE (by show 0 ≤ 1000000; decide), fun e ne => ?_⟩
    have se := same_new (o := .lst []) ne
    have ee : upd Z e (.lst []) e = some (.lst []) := upd_same
    have e1 := se _ _ e1
    have e2 := se _ _ e2
    have bE := Box.upd (o := .lst []) bZ (Box.ne bZ ne)
    have kE : But x H (upd Z e (.lst [])) := kZ.trans (But.of se)
    have tsE := TS.of se
    generalize upd Z e (.lst []) = Y at se ee e1 e2 bE kE tsE
    refine ⟨.list ds, .list [], .lst (sqL_new e1) (d1 _ tsE), .lst (sqL_new ee) .nil, ?_, by decide +kernel, ?_⟩
    · unfold SeqAt.shaped
      rw [Bool.and_eq_true]
      refine ⟨by simpa [PyData.canLay0] using d2, decide_eq_true ?_⟩
      simp only [PyData.depth]
      omega
    cases hls : ls with
    | nil =>
      have hd : ds = [] := List.eq_nil_of_length_eq_zero (by rw [d4, hls]; rfl)
      refine ⟨_, rfl, iteNo (by rw [hd]; decide +kernel) ?_⟩
      rw [hls, List.append_nil] at pm
      exact ⟨_, rfl, q Y q2 fs kE bE n2H e2 pm⟩
    | cons y0 l0 =>
      have hd : ds ≠ [] := fun z => by
        rw [z, hls] at d4
        cases d4
      refine ⟨_, rfl, iteYes (by cases ds with
        | nil => exact absurd rfl hd
        | cons d ds => rfl) ?_⟩
      have pos : 0 < ls.length := by
        rw [hls]
        exact Nat.succ_pos _
      have ll : ls.length + fs.length = xs.length := by
        have := pm.length_eq
        rw [List.length_append] at this
        omega
      refine ⟨fun σ' H' => ∃ m', m' < m ∧ ∃ (ls fs : List V), σ' = [some (.ref x), some (.ref a), some (.ref q1), some (.ref q2)] ∧ But x H H' ∧ Box H' x ∧ H' q1 = some (.lst ls) ∧ H' q2 = some (.lst fs) ∧ (fs ++ ls).Perm xs ∧ m' = ls.length, fun σ' H' h => h, ?_⟩
      refine ⟨_, rfl, Or.inl ⟨rfl, _, sqL_new e2⟩, _, rfl, Or.inl ⟨rfl, _, sqL_new e1⟩, _, rfl, _, rfl, q1, _, rfl, .inl (sqL_new e1), x, ls.length, rfl, bE, pos, by omega, fun r Z1 hr k1 b1 => ?_⟩
      have e1' := k1 _ _ nq1x e1
      have e2' := k1 _ _ nq2x e2
      have hy : ls[r]? = some (ls[r]'hr) := List.getElem?_eq_getElem hr
      refine ⟨q1, ls, (r : Int), r, ls[r]'hr, rfl, rfl, e1', by omega, by omega, seqIndex_at (by omega) (by omega), hy, ?_⟩
      have e2'' : upd Z1 q1 (.lst (ls.eraseIdx r)) q2 = some (.lst fs) := by
        rw [upd_ne (fun z => ne12 z.symm)]
        exact e2'
      refine ⟨q2, fs, ls[r]'hr, rfl, rfl, e2'', small (by omega), ?_⟩
      refine ⟨ls.length - 1, by omega, ls.eraseIdx r, fs ++ [ls[r]'hr], rfl, fun c u h e => ?_, Box.upd (Box.upd b1 nq1x) nq2x, ?_, upd_same, ?_, ?_⟩
      · rw [upd_ne (ne_of_none e n2H), upd_ne (ne_of_none e n1)]
        exact k1 _ _ h (kE _ _ h e)
      · rw [upd_ne ne12, upd_same]
      · refine List.Perm.trans ?_ pm
        rw [List.append_assoc]
        exact List.Perm.append_left fs (erase_perm ls r hr)
      · rw [List.length_eraseIdx, if_pos hr]
end
end Kb
namespace Kb
open PySem PySem.Spec PyProof.Rows L2
/-! ### drawn steps -/
def deedsL : List Str := ["a", "b", "pay", "send"]
theorem But.freeH {x q : Addr} {H H1 : Hp} (k : But x H H1) (b : Box H1 x) (h : H1 q = none) : H q = none := k.free b h
section
variable {P : Program} {w : World} {K : PySem.W.Frag} {mg : Str → Option Value} {base : Heap}
structure StpDraw (names : List Str) (n b : Nat) (s : Stp) : Prop where
  sn : s.n = b
  so : s.o < n
  c : s.call = true → s.nm ∈ names
  d : s.call = false → s.nm ∈ deedsL
def spLawStep : Sp := fun vs H Q _ => ∃ (x a : Addr) (names : List Str) (at_ n b : Nat), vs = [.ref x, .ref a, .int (at_ : Int), .int (n : Int), .int (b : Int)] ∧ Box H x ∧ a ≠ x ∧ H a = some (.lst (names.map V.str)) ∧ 0 < names.length ∧ names.length ≤ 1000 ∧ 0 < n ∧ n ≤ 1000 ∧ ∀ H' q s, But x H H' → Box H' x → H q = none → H' q = some (.tup (stpV s)) → StpDraw names n b s → Q (.ref q) H'
abbrev nLs : List Str := ["box", "names", "at", "stages", "begin", "what", "label"]
theorem scLs : FnScope nLs ["box", "names", "at", "stages", "begin"] (defScope sLawStep) := ⟨rfl, rfl, rfl, by decide +kernel, rfl, by decide +kernel, by decide +kernel⟩
theorem ok_lawstep {f fT fP : Addr} {fd fdT fdP : FuncData} (F : Fun K "_law_step" "_law_step" sLawStep f fd) (N : Nones mg) (G__law_take : FnOk P w K mg base CX0 1 fT fdT ["box", "many"] spTake) (C__law_take : CallC K mg "_law_take" ["box", "many"] fT fdT) (G__law_pick : FnOk P w K mg base CX0 2 fP fdP ["box", "some"] spPick) (C__law_pick : CallC K mg "_law_pick" ["box", "some"] fP fdP) : FnOk P w K mg base CX0 3 f fd ["box", "names", "at", "stages", "begin"] spLawStep := by
  refine F.ok scLs (fun vs H Q E h => ?_) (fun cdv A outer s0 H vs Q E hr h => ?_)
  · obtain ⟨x, a, names, at_, n, b, rfl, _⟩ := h
    rfl
  · obtain ⟨x, a, names, at_, n, b, rfl, bx, nax, ha, n0, n1, n2, n3, q⟩ := h
    refine ⟨_, pss_cons (ps_par (i := 5) (j := 6) rfl scLs.nd rfl rfl (by decide) rfl rfl (pa_cons pe_str (pa_cons (pe_call G__law_pick (hr.mono (by decide)) (by rfl) C__law_pick.g C__law_pick.kp C__law_pick.b .nil pass0 (pa_cons (pv 0) (pa_cons (pe_lst (pa_cons pe_str (pa_cons pe_str (pa_cons pe_str (pa_cons pe_str pa_nil))))) pa_nil))) pa_nil)) (by rfl))
      (pss_cons (ps_if (pt_cmpR op_eq (pe_call G__law_take (hr.mono (by decide)) (by rfl) C__law_take.g C__law_take.kp C__law_take.b .nil pass0 (pa_cons (pv 0) (pa_cons pe_int pa_nil))) pe_int (nomark _)) (pss_one (ps_par (i := 5) (j := 6) rfl scLs.nd rfl rfl (by decide) rfl rfl (pa_cons pe_str (pa_cons (pe_ifExp (pt_cmpR op_gt (pe_call G__law_take (hr.mono (by decide)) (by rfl) C__law_take.g C__law_take.kp C__law_take.b .nil pass0 (pa_cons (pv 0) (pa_cons pe_int pa_nil))) pe_int (nomark _)) (pe_ix ix_list (pv 1) (pe_op op_mod (pe_callTy call_int1 (by rfl) N.int (by decide +kernel) (pa_cons (pe_op op_add (pv 2) pe_int) pa_nil)) (pe_callB call_len_seq (by rfl) N.len PySem.boot_len (pa_cons (pv 1) pa_nil))) (fun _ _ => rfl)) (pe_call G__law_pick (hr.mono (by decide)) (by rfl) C__law_pick.g C__law_pick.kp C__law_pick.b .nil pass0 (pa_cons (pv 0) (pa_cons (pv 1) pa_nil)))) pa_nil)) (by rfl))) pss_nil)
      (pss_one (ps_ret (pe_tup (pa_cons (pv 4) (pa_cons (pv 5) (pa_cons (pv 6) (pa_cons (pe_ifExp (pt_cmpR op_gt (pe_call G__law_take (hr.mono (by decide)) (by rfl) C__law_take.g C__law_take.kp C__law_take.b .nil pass0 (pa_cons (pv 0) (pa_cons pe_int pa_nil))) pe_int (nomark _)) (pe_op op_mod (pe_callTy call_int1 (by rfl) N.int (by decide +kernel) (pa_cons (pe_op op_add (pv 4) pe_int) pa_nil)) (pv 3)) (pe_call G__law_take (hr.mono (by decide)) (by rfl) C__law_take.g C__law_take.kp C__law_take.b .nil pass0 (pa_cons (pv 0) (pa_cons (pv 3) pa_nil)))) pa_nil)))))))), ?_⟩
    refine ⟨_, rfl, smallE (by show 4 ≤ 1000000; decide), fun l nl => ?_⟩
    have sl := same_new (o := .lst (deedsL.map V.str)) nl
    have el : upd H l (.lst (deedsL.map V.str)) l = some (.lst (deedsL.map V.str)) := upd_same
    have b1 := Box.upd (o := .lst (deedsL.map V.str)) bx (Box.ne bx nl)
    have nlx := Box.ne bx nl
    have k1 : But x H (upd H l (.lst (deedsL.map V.str))) := But.of sl
    refine ⟨x, l, deedsL.map V.str, rfl, b1, nlx, .inl el, by decide, by decide, fun i v H1 hv k2 b2 => ?_⟩
    obtain ⟨dd, hdd, rfl⟩ := get_map hv
    have kH1 := k1.trans k2
    have ha1 := kH1 _ _ nax ha
    refine ⟨_, _, rfl, ?_⟩
    refine ⟨_, rfl, x, 3, rfl, b2, by decide, by decide, fun r H2 hr2 k3 b3 => ?_⟩
    have kH2 := kH1.trans k3
    have ha2 := kH2 _ _ nax ha
    refine ⟨rfl, _, rfl, ite2 (fun c0 => ?_) (fun c0 => ?_)⟩
    · refine ⟨_, rfl, x, 3, rfl, b3, by decide, by decide, fun r2 H3 hr3 k4 b4 => ?_⟩
      have kH3 := kH2.trans k4
      have ha3 := kH3 _ _ nax ha
      refine ⟨_, _, rfl, rfl, _, rfl, ite2 (fun c1 => ?_) (fun c1 => ?_)⟩
      · obtain ⟨m, hm, em⟩ := mod_nat ((at_ : Int) + 1) n0
        have hg : names[m]? = some (names[m]'hm) := List.getElem?_eq_getElem hm
        have hg2 : (names.map V.str)[m]? = some (V.str (names[m]'hm)) := by rw [List.getElem?_map, hg]; rfl
        refine ⟨_, rfl, _, rfl, _, _, rfl, rfl, .inl ⟨_, rfl, _, rfl, a, _, rfl, .inl (sqL_new ha3), _, _, rfl, rfl, (by rw [List.length_map]; omega), a, _, _, V.str (names[m]'hm), rfl, rfl, sqL_new ha3, (by rw [List.length_map, em]; exact atI_nat hg2), ?_⟩⟩
        refine ⟨_, _, rfl, ?_⟩
        refine ⟨_, rfl, _, rfl, _, rfl, _, rfl, x, 4, rfl, b4, by decide, by decide, fun r9 H9 hr9 k9 b9 => ?_⟩
        have kH9 := kH3.trans k9
        refine ⟨_, _, rfl, rfl, _, rfl, ite2 (fun c9 => ?_) (fun c9 => ?_)⟩
        · obtain ⟨o, ho, eo⟩ := mod_nat ((b : Int) + 1) n2
          refine ⟨_, rfl, _, _, rfl, rfl, .inl ⟨_, rfl, _, rfl, _, _, rfl, rfl, (by omega), smallE (by show 4 ≤ 1000000; decide), fun qq nqq => ?_⟩⟩
          have sq := same_new (o := .tup [V.int (b : Int), V.str (kindS true), V.str (names[m]'hm), V.int (((b : Int) + 1) % (n : Int))]) nqq
          refine q _ qq ⟨b, true, (names[m]'hm), o⟩ (kH9.trans (But.of sq)) (Box.upd b9 (Box.ne b9 nqq)) (kH9.free b9 nqq) ?_ ⟨rfl, ho, (fun _ => List.mem_of_getElem? hg), (fun z => nomatch z)⟩
          refine upd_same.trans ?_
          show some (HO.tup [V.int (b : Int), V.str (kindS true), V.str (names[m]'hm), V.int (((b : Int) + 1) % (n : Int))]) = _
          rw [eo]
          rfl
        · refine ⟨_, rfl, _, rfl, x, n, rfl, b9, n2, by omega, fun o H10 ho k10 b10 => ⟨smallE (by show 4 ≤ 1000000; decide), fun qq nqq => ?_⟩⟩
          have sq := same_new (o := .tup [V.int (b : Int), V.str (kindS true), V.str (names[m]'hm), V.int (o : Int)]) nqq
          have kH10 := kH9.trans k10
          exact q _ qq ⟨b, true, (names[m]'hm), o⟩ (kH10.trans (But.of sq)) (Box.upd b10 (Box.ne b10 nqq)) (kH10.free b10 nqq) upd_same ⟨rfl, ho, (fun _ => List.mem_of_getElem? hg), (fun z => nomatch z)⟩
      · refine ⟨_, rfl, _, rfl, x, a, names.map V.str, rfl, b4, nax, .inl ha3, by rw [List.length_map]; exact n0, by rw [List.length_map]; omega, fun m v H4 hv k5 b5 => ?_⟩
        obtain ⟨nm, hnm, rfl⟩ := get_map hv
        have kH4 := kH3.trans k5
        refine ⟨_, _, rfl, ?_⟩
        refine ⟨_, rfl, _, rfl, _, rfl, _, rfl, x, 4, rfl, b5, by decide, by decide, fun r9 H9 hr9 k9 b9 => ?_⟩
        have kH9 := kH4.trans k9
        refine ⟨_, _, rfl, rfl, _, rfl, ite2 (fun c9 => ?_) (fun c9 => ?_)⟩
        · obtain ⟨o, ho, eo⟩ := mod_nat ((b : Int) + 1) n2
          refine ⟨_, rfl, _, _, rfl, rfl, .inl ⟨_, rfl, _, rfl, _, _, rfl, rfl, (by omega), smallE (by show 4 ≤ 1000000; decide), fun qq nqq => ?_⟩⟩
          have sq := same_new (o := .tup [V.int (b : Int), V.str (kindS true), V.str nm, V.int (((b : Int) + 1) % (n : Int))]) nqq
          refine q _ qq ⟨b, true, nm, o⟩ (kH9.trans (But.of sq)) (Box.upd b9 (Box.ne b9 nqq)) (kH9.free b9 nqq) ?_ ⟨rfl, ho, (fun _ => List.mem_of_getElem? hnm), (fun z => nomatch z)⟩
          refine upd_same.trans ?_
          show some (HO.tup [V.int (b : Int), V.str (kindS true), V.str nm, V.int (((b : Int) + 1) % (n : Int))]) = _
          rw [eo]
          rfl
        · refine ⟨_, rfl, _, rfl, x, n, rfl, b9, n2, by omega, fun o H10 ho k10 b10 => ⟨smallE (by show 4 ≤ 1000000; decide), fun qq nqq => ?_⟩⟩
          have sq := same_new (o := .tup [V.int (b : Int), V.str (kindS true), V.str nm, V.int (o : Int)]) nqq
          have kH10 := kH9.trans k10
          exact q _ qq ⟨b, true, nm, o⟩ (kH10.trans (But.of sq)) (Box.upd b10 (Box.ne b10 nqq)) (kH10.free b10 nqq) upd_same ⟨rfl, ho, (fun _ => List.mem_of_getElem? hnm), (fun z => nomatch z)⟩
    · have H2' := H2
      refine ⟨_, rfl, _, rfl, _, rfl, _, rfl, x, 4, rfl, b3, by decide, by decide, fun r9 H9 hr9 k9 b9 => ?_⟩
      have kH9 := kH2.trans k9
      refine ⟨_, _, rfl, rfl, _, rfl, ite2 (fun c9 => ?_) (fun c9 => ?_)⟩
      · obtain ⟨o, ho, eo⟩ := mod_nat ((b : Int) + 1) n2
        refine ⟨_, rfl, _, _, rfl, rfl, .inl ⟨_, rfl, _, rfl, _, _, rfl, rfl, (by omega), smallE (by show 4 ≤ 1000000; decide), fun qq nqq => ?_⟩⟩
        have sq := same_new (o := .tup [V.int (b : Int), V.str (kindS false), V.str dd, V.int (((b : Int) + 1) % (n : Int))]) nqq
        refine q _ qq ⟨b, false, dd, o⟩ (kH9.trans (But.of sq)) (Box.upd b9 (Box.ne b9 nqq)) (kH9.free b9 nqq) ?_ ⟨rfl, ho, (fun z => nomatch z), (fun _ => List.mem_of_getElem? hdd)⟩
        refine upd_same.trans ?_
        show some (HO.tup [V.int (b : Int), V.str (kindS false), V.str dd, V.int (((b : Int) + 1) % (n : Int))]) = _
        rw [eo]
        rfl
      · refine ⟨_, rfl, _, rfl, x, n, rfl, b9, n2, by omega, fun o H10 ho k10 b10 => ⟨smallE (by show 4 ≤ 1000000; decide), fun qq nqq => ?_⟩⟩
        have sq := same_new (o := .tup [V.int (b : Int), V.str (kindS false), V.str dd, V.int (o : Int)]) nqq
        have kH10 := kH9.trans k10
        exact q _ qq ⟨b, false, dd, o⟩ (kH10.trans (But.of sq)) (Box.upd b10 (Box.ne b10 nqq)) (kH10.free b10 nqq) upd_same ⟨rfl, ho, (fun z => nomatch z), (fun _ => List.mem_of_getElem? hdd)⟩
end
end Kb
namespace Kb
open PySem PySem.Spec PyProof.Rows L2
/-! ### drawn courses -/
/-- a body in two parts: what the first gives, the rest takes -/
theorem split_tail {X : Cx} {st : Stmt} {rest : List Stmt} {D : Ends} {σ : L2.St} {H : Hp} (R : L2.St → Hp → Prop) (T : ∃ u, PSs X rest u ∧ ∀ σ' H', R σ' H' → u D σ' H') (h : ∃ t, PS X st t ∧ ∀ N : L2.St → Hp → Prop, (∀ σ' H', R σ' H' → N σ' H') → t { D with nx := N } σ H) : ∃ t, PSs X (st :: rest) t ∧ t D σ H := by
  obtain ⟨u, pu, hu⟩ := T
  obtain ⟨t, pt, ht⟩ := h
  exact ⟨_, pss_cons pt pu, ht _ hu⟩
theorem split_next {X : Cx} {st : Stmt} {rest : List Stmt} {D : Ends} (R0 R : L2.St → Hp → Prop) (T : ∃ u, PSs X rest u ∧ ∀ σ' H', R σ' H' → u D σ' H') (h : ∃ t, PS X st t ∧ ∀ N : L2.St → Hp → Prop, (∀ σ' H', R σ' H' → N σ' H') → ∀ σ H, R0 σ H → t { D with nx := N } σ H) : ∃ t, PSs X (st :: rest) t ∧ ∀ σ H, R0 σ H → t D σ H := by
  obtain ⟨u, pu, hu⟩ := T
  obtain ⟨t, pt, ht⟩ := h
  exact ⟨_, pss_cons pt pu, fun σ H h0 => ht _ hu σ H h0⟩
theorem room65 {k : Nat} {A : Around} (r : Room k A) : A.units + 65 < cLine := by
  have := r.un
  omega
/-- a course of tuples alone -/
structure DrawC (H : Hp) (c : CA) : Prop where
  t : H c.a = some (.tup (crsV c))
  e : H c.ea = some (.tup (natV c.es))
  s : H c.sa = some (.tup (c.ss.map fun p => V.ref p.1))
  p : ∀ p ∈ c.ss, H p.1 = some (.tup (stpV p.2))
theorem DrawC.ts {H H' : Hp} {c : CA} (s : TS H H') (h : DrawC H c) : DrawC H' c := ⟨s _ _ h.t, s _ _ h.e, s _ _ h.s, fun p hp => s _ _ (h.p p hp)⟩
theorem DrawC.at (K : PySem.W.Frag) {H : Hp} {c : CA} (h : DrawC H c) : CrsAt K H c := ⟨sqT_new h.t, sqT_new h.e, sqT_new h.s, h.p⟩
def stpD (s : Stp) : PyData := .tuple [.int (s.n : Int), .str (kindS s.call), .str s.nm, .int (s.o : Int)]
theorem eqKind (a b : Bool) : decide (kindS a = kindS b) = decide (a = b) := by
  cases a <;> cases b <;> decide +kernel
theorem eqStp (a b : Stp) : PyData.eqv (stpD a) (stpD b) = decide (a = b) := by
  unfold stpD
  simp only [PyData.eqv, PyData.eqvAll, str_beq, eqKind, Bool.and_true]
  cases a with | mk a1 a2 a3 a4 => cases b with | mk b1 b2 b3 b4 =>
  by_cases h1 : a1 = b1 <;> by_cases h2 : a2 = b2 <;> by_cases h3 : a3 = b3 <;> by_cases h4 : a4 = b4 <;> simp [h1, h2, h3, h4] <;> omega
theorem kind_ok (c : Bool) : PyData.strOk (kindS c) = true := by cases c <;> decide +kernel
theorem stp_shaped {s : Stp} (h : isName s.nm = true) : SeqAt.shaped (stpD s) = true := by
  unfold SeqAt.shaped stpD
  simp [PyData.canLay0, PyData.canLayAll0, PyData.depth, PyData.depthAll, kind_ok, name_ok h]
theorem stp_all {ss : List Stp} (h : ∀ s ∈ ss, isName s.nm = true) : SeqAt.shaped (.list (ss.map stpD)) = true := by
  have d : PyData.depthAll (ss.map stpD) ≤ 1 := dep_le (fun a => by simp [stpD, PyData.depth, PyData.depthAll]) ss
  have l : PyData.canLayAll0 (ss.map stpD) = true := lay_all ss fun s hs => SeqAt.canLay_of_shaped (stp_shaped (h s hs))
  unfold SeqAt.shaped
  simp only [PyData.canLay0, PyData.depth, l, Bool.true_and]
  exact decide_eq_true (by omega)
theorem dp_stp {K : PySem.W.Frag} {H : Hp} {a : Addr} {s : Stp} (h : H a = some (.tup (stpV s))) : Dp K H (.ref a) (stpD s) := .tup (sqT_new h) (.cons (.int _) (.cons (.str _) (.cons (.str _) (.cons (.int _) .nil))))
theorem dp_stps {K : PySem.W.Frag} {H : Hp} : ∀ {L : List (Addr × Stp)}, (∀ p ∈ L, H p.1 = some (.tup (stpV p.2))) → DpAll K H (L.map fun p => V.ref p.1) ((L.map (·.2)).map stpD)
  | [], _ => .nil
  | p :: L, h => .cons (dp_stp (h p List.mem_cons_self)) (dp_stps fun q hq => h q (List.mem_cons_of_mem _ hq))
theorem DV.stp {K : PySem.W.Frag} {H : Hp} {a : Addr} {s : Stp} (h : H a = some (.tup (stpV s))) (hn : isName s.nm = true) : DV K H (.ref a) := ⟨stpD s, fun H' t => dp_stp (t _ _ h), SeqAt.canLay_of_shaped (stp_shaped hn), by simp [stpD, PyData.depth, PyData.depthAll]⟩
theorem deeds_name : ∀ d ∈ deedsL, isName d = true := by decide +kernel
theorem StpDraw.name {names : List Str} {n b : Nat} {s : Stp} (h : StpDraw names n b s) (hn : ∀ x ∈ names, isName x = true) : isName s.nm = true := by
  cases e : s.call with
  | true => exact hn _ (h.c e)
  | false => exact deeds_name _ (h.d e)
theorem asc_len : ∀ {l : List Nat} {n : Nat}, l.Pairwise (· < ·) → (∀ e ∈ l, e < n) → l.length ≤ n := fun {l n} asc lt => by
  have nd : l.Nodup := List.Pairwise.imp (fun {a b} (h : a < b) (e : a = b) => by omega) asc
  have := nd_le nd (m := List.range n) fun x hx => List.mem_range.mpr (lt x hx)
  rwa [List.length_range] at this
theorem inV_nat (k : Nat) : ∀ es : List Nat, inV (.int (k : Int)) (natV es) = decide (k ∈ es)
  | [] => by simp [inV, natV]
  | y :: es => by
    have ih := inV_nat k es
    unfold inV natV at ih ⊢
    rw [List.map_cons, List.any_cons, ih]
    show (((y : Int) == (k : Int)) || _) = _
    by_cases h1 : y = k
    · subst h1
      simp
    · have h2 : ¬ k = y := fun e => h1 e.symm
      have h3 : ¬ (y : Int) = (k : Int) := fun e => h1 (by omega)
      simp [h1, h2, h3]
/-- what is drawn -/
structure CrsDraw (names : List Str) (nm : Str) (c : CA) : Prop where
  nm : c.nm = nm
  n0 : 1 ≤ c.n
  n4 : c.n ≤ 4
  el : ∀ e ∈ c.es, e < c.n
  asc : c.es.Pairwise (· < ·)
  st : ∀ p ∈ c.ss, ∃ b, b < c.n ∧ StpDraw names c.n b p.2
  nd : (c.ss.map (·.2)).Nodup
  sz : c.ss.length ≤ 6
section
variable {P : Program} {w : World} {K : PySem.W.Frag} {mg : Str → Option Value} {base : Heap}
def spLawCourse : Sp := fun vs H Q _ => ∃ (x a : Addr) (names : List Str) (i : Nat) (nm : Str), vs = [.ref x, .ref a, .int (i : Int)] ∧ Box H x ∧ a ≠ x ∧ H a = some (.lst (names.map V.str)) ∧ names[i]? = some nm ∧ names.length ≤ 1000 ∧ (∀ n ∈ names, isName n = true) ∧ ∀ H' q c, But x H H' → Box H' x → H q = none → c.a = q → DrawC H' c → CrsDraw names nm c → Q (.ref q) H'
abbrev nLc : List Str := ["box", "names", "at", "stages", "ends", "steps", "turn", "step", "number"]
theorem scLc : FnScope nLc ["box", "names", "at"] (defScope sLawCourse) := ⟨rfl, rfl, rfl, by decide +kernel, rfl, by decide +kernel, by decide +kernel⟩
theorem ok_lawcourse {f fT fS fM : Addr} {fd fdT fdS fdM : FuncData} (F : Fun K "_law_course" "_law_course" sLawCourse f fd) (N : Nones mg) (G__law_take : FnOk P w K mg base CX0 1 fT fdT ["box", "many"] spTake) (C__law_take : CallC K mg "_law_take" ["box", "many"] fT fdT) (G__law_step : FnOk P w K mg base CX0 3 fS fdS ["box", "names", "at", "stages", "begin"] spLawStep) (C__law_step : CallC K mg "_law_step" ["box", "names", "at", "stages", "begin"] fS fdS)
    (G__law_mixed : FnOk P w K mg base CX0 2 fM fdM ["box", "some"] (spLawMixed K)) (C__law_mixed : CallC K mg "_law_mixed" ["box", "some"] fM fdM) : FnOk P w K mg base CX0 4 f fd ["box", "names", "at"] spLawCourse := by
  refine F.ok scLc (fun vs H Q E h => ?_) (fun cdv A outer s0 H vs Q E hr h => ?_)
  · obtain ⟨x, a, names, i, nm, rfl, _⟩ := h
    rfl
  · obtain ⟨x, a, names, i, nm, rfl, bx, nax, ha, hnm, nl, hn, q⟩ := h
    have n0 : 0 < names.length := Nat.lt_of_le_of_lt (Nat.zero_le _) (lt_of_get hnm)
    refine split_tail (fun σ Z => ∃ n : Nat, σ = [some (.ref x), some (.ref a), some (.int (i : Int)), some (.int (n : Int)), none, none, none, none, none] ∧ 1 ≤ n ∧ n ≤ 4 ∧ But x H Z ∧ Box Z x) ?_ ?_
    · refine split_next _ (fun σ Z => ∃ (n : Nat) (q4 : Addr) (es : List Nat), σ = [some (.ref x), some (.ref a), some (.int (i : Int)), some (.int (n : Int)), some (.ref q4), none, none, none, none] ∧ 1 ≤ n ∧ n ≤ 4 ∧ But x H Z ∧ Box Z x ∧ q4 ≠ x ∧ H q4 = none ∧ Z q4 = some (.lst (natV es)) ∧ (∀ e ∈ es, e < n) ∧ es.Pairwise (· < ·) ∧ es.length ≤ 4) ?_ ?_
      · refine split_next _ (fun σ Z => ∃ (n : Nat) (q4 : Addr) (es : List Nat), σ = [some (.ref x), some (.ref a), some (.int (i : Int)), some (.int (n : Int)), some (.ref q4), none, none, none, none] ∧ 1 ≤ n ∧ n ≤ 4 ∧ But x H Z ∧ Box Z x ∧ q4 ≠ x ∧ H q4 = none ∧ Z q4 = some (.lst (natV es)) ∧ (∀ e ∈ es, e < n) ∧ es.Pairwise (· < ·) ∧ es.length ≤ 4) ?_ ?_
        · refine ⟨_, pss_cons (ps_set (i := 5) scLc.nd rfl (Or.inl rfl) (pe_lst pa_nil))
        (pss_cons (ps_for PassesOwn.never rfl (pi_range1 (by rfl) N.range (pa_cons (pe_op op_add (pv 3) (pe_call G__law_take (hr.mono (by decide)) (by rfl) C__law_take.g C__law_take.kp C__law_take.b .nil pass0 (pa_cons (pv 0) (pa_cons pe_int pa_nil)))) pa_nil)) (pg_name (i := 6) scLc.nd rfl (Or.inl rfl))
          (pss_cons (ps_set (i := 7) scLc.nd rfl (Or.inl rfl) (pe_call G__law_step (hr.mono (by decide)) (by rfl) C__law_step.g C__law_step.kp C__law_step.b .nil pass0 (pa_cons (pv 0) (pa_cons (pv 1) (pa_cons (pv 2) (pa_cons (pv 3) (pa_cons (pe_op op_mod (pe_callTy call_int1 (by rfl) N.int (by decide +kernel) (pa_cons (pv 6) pa_nil)) (pv 3)) pa_nil)))))))
          (pss_one (ps_if (pt_cmpR (op_notInD (room65 hr)) (pv 7) (pv 5) (by rfl)) (pss_one (ps_expr (pe_bm PySem.F.plainAttrs_list PySem.F.slot_list_append PySem.F.type_list_append mt_append (pv 5) (pa_cons (pv 7) pa_nil)))) pss_nil))))
        (pss_one (ps_ret (pe_tup (pa_cons (pe_ix ix_list (pv 1) (pv 2) (fun _ _ => rfl)) (pa_cons (pv 3) (pa_cons (pe_callTy call_tuple_of (by rfl) N.tuple (by decide +kernel) (pa_cons (pv 4) pa_nil)) (pa_cons (pe_callTy call_tuple_of (by rfl) N.tuple (by decide +kernel) (pa_cons (pe_call G__law_mixed (hr.mono (by decide)) (by rfl) C__law_mixed.g C__law_mixed.kp C__law_mixed.b .nil pass0 (pa_cons (pv 0) (pa_cons (pv 5) pa_nil))) pa_nil)) pa_nil)))))))), fun σ Z h => ?_⟩
          obtain ⟨n, q4, es, rfl, n1, n4, kZ, bZ, nq4x, nq4, e4, lt, asc, ln⟩ := h
          refine ⟨smallE (by show 0 ≤ 1000000; decide), fun q5 n5 => ?_⟩
          have s5 := same_new (o := .lst []) n5
          have e5 : upd Z q5 (.lst []) q5 = some (.lst []) := upd_same
          have n5x := Box.ne bZ n5
          have n5H := kZ.free bZ n5
          have b5 := Box.upd (o := .lst []) bZ n5x
          have k5 := kZ.trans (But.of s5)
          have ne45 : q4 ≠ q5 := ne_of_none e4 n5
          have e4 := s5 _ _ e4
          generalize upd Z q5 (.lst []) = Z5 at s5 e5 b5 k5 e4
          refine ⟨_, rfl, _, rfl, x, 3, rfl, b5, by decide, by decide, fun r Z6 hr6 k6 b6 => ?_⟩
          have e5 := k6 _ _ n5x e5
          have e4 := k6 _ _ nq4x e4
          have k6 := k5.trans k6
          refine ⟨_, _, rfl, rfl, _, rfl, by omega, by omega, ?_⟩
          have en : ((n : Int) + (r : Int)).toNat = n + r := by omega
          rw [en]
          refine for_it (walk_r0 (n := n + r)) (fun j σ Y => ∃ (x6 x7 x8 : Option V) (L : List (Addr × Stp)), σ = [some (.ref x), some (.ref a), some (.int (i : Int)), some (.int (n : Int)), some (.ref q4), some (.ref q5), x6, x7, x8] ∧ But x H Y ∧ Box Y x ∧ Y q4 = some (.lst (natV es)) ∧ Y q5 = some (.lst (L.map fun p => V.ref p.1)) ∧ (∀ p ∈ L, Y p.1 = some (.tup (stpV p.2)) ∧ ∃ b, b < n ∧ StpDraw names n b p.2) ∧ (L.map (·.2)).Nodup ∧ L.length ≤ j) ⟨none, none, none, [], rfl, k6, b6, e4, e5, (fun p hp => nomatch hp), List.nodup_nil, Nat.le_refl _⟩ (fun _ _ _ _ _ => True.intro) (fun j z σ Y Y' hj h yy => ?_) (fun σ Y h => ?_)
          · obtain ⟨rfl, rfl⟩ := yy
            obtain ⟨x6, x7, x8, L, rfl, kY, bY, f4, f5, at5, nd5, ln5⟩ := h
            obtain ⟨bg, hbg, ebg⟩ := mod_nat (j : Int) (n := n) (by omega)
            refine ⟨_, rfl, _, rfl, _, rfl, _, rfl, _, rfl, .inl ⟨_, rfl, _, rfl, _, _, rfl, rfl, (by omega), x, a, names, i, n, bg, ?_, bY, nax, kY _ _ nax ha, n0, nl, by omega, by omega, fun Y1 qs sp k1 b1 nqs eqs dr => ?_⟩⟩
            · show [V.ref x, V.ref a, V.int (i : Int), V.int (n : Int), V.int ((j : Int) % (n : Int))] = _
              rw [ebg]
            have f4 := k1 _ _ nq4x f4
            have f5 := k1 _ _ n5x f5
            have ts1 := TS.but bY k1
            have at6 : ∀ p ∈ L, Y1 p.1 = some (.tup (stpV p.2)) ∧ ∃ b, b < n ∧ StpDraw names n b p.2 := fun p hp => ⟨ts1 _ _ (at5 p hp).1, (at5 p hp).2⟩
            have nmL : ∀ s ∈ L.map (·.2), isName s.nm = true := fun s hs => by
              obtain ⟨p, hp, rfl⟩ := List.mem_map.mp hs
              obtain ⟨_, b, _, d⟩ := at5 p hp
              exact d.name hn
            refine ⟨_, rfl, _, rfl, stpD sp, _, dp_stp eqs, .lst (sqL_new f5) (dp_stps fun p hp => (at6 p hp).1), stp_shaped (dr.name hn), stp_all nmL, ?_⟩
            have hany : (((L.map (·.2)).map stpD).any fun z => PyData.eqv z (stpD sp)) = decide (sp ∈ L.map (·.2)) := by
              rw [List.any_map, Bool.eq_iff_iff, List.any_eq_true, decide_eq_true_iff]
              constructor
              · rintro ⟨z, hz, e⟩
                have e : PyData.eqv (stpD z) (stpD sp) = true := e
                rw [eqStp] at e
                rw [← of_decide_eq_true e]
                exact hz
              · intro hz
                refine ⟨sp, hz, ?_⟩
                show PyData.eqv (stpD sp) (stpD sp) = true
                rw [eqStp]
                exact decide_eq_true rfl
            rw [hany]
            by_cases hin : sp ∈ L.map (·.2)
            · rw [decide_eq_true hin]
              refine ⟨_, rfl, iteNo rfl ?_⟩
              exact ⟨_, _, _, L, rfl, kY.trans k1, b1, f4, f5, at6, nd5, by omega⟩
            · rw [decide_eq_false hin]
              refine ⟨_, rfl, iteYes rfl ?_⟩
              refine ⟨_, rfl, Or.inl ⟨rfl, _, sqL_new f5⟩, _, rfl, q5, _, _, rfl, rfl, f5, by rw [List.length_map]; exact small (by omega), ?_⟩
              have tk : TS Y1 (upd Y1 q5 (.lst ((L.map fun p => V.ref p.1) ++ [.ref qs]))) := fun c xs e => by
                rw [upd_ne]
                · exact e
                · intro z
                  rw [z, f5] at e
                  cases e
              refine ⟨_, _, _, L ++ [(qs, sp)], rfl, fun c o hc e => ?_, Box.upd b1 n5x, ?_, ?_, fun p hp => ?_, ?_, ?_⟩
              · rw [upd_ne (ne_of_none e n5H)]
                exact k1 _ _ hc (kY _ _ hc e)
              · rw [upd_ne ne45]
                exact f4
              · rw [upd_same, List.map_append]
                rfl
              · rcases List.mem_append.mp hp with z | z
                · exact ⟨tk _ _ (at6 p z).1, (at6 p z).2⟩
                · rw [List.mem_singleton.mp z]
                  exact ⟨tk _ _ eqs, bg, hbg, dr⟩
              · rw [List.map_append, List.nodup_append]
                refine ⟨nd5, by simp, fun y hy z hz e => ?_⟩
                have hz : z ∈ [sp] := hz
                rw [List.mem_singleton] at hz
                exact hin (by rw [← hz, ← e]; exact hy)
              · rw [List.length_append, List.length_singleton]
                omega
          · obtain ⟨x6, x7, x8, L, rfl, kY, bY, f4, f5, at5, nd5, ln5⟩ := h
            have hnm2 : (names.map V.str)[i]? = some (V.str nm) := by rw [List.getElem?_map, hnm]; rfl
            refine ⟨_, rfl, _, rfl, a, _, _, V.str nm, rfl, rfl, sqL_new (kY _ _ nax ha), atI_nat hnm2, _, rfl, _, rfl, q4, _, rfl, .inl ⟨sqL_new f4, fun qe nqe => ?_⟩⟩
            have se := same_new (o := .tup (natV es)) nqe
            have ee : upd Y qe (.tup (natV es)) qe = some (.tup (natV es)) := upd_same
            have f5 := se _ _ f5
            have be := Box.upd (o := .tup (natV es)) bY (Box.ne bY nqe)
            have ke := kY.trans (But.of se)
            have at6 : ∀ p ∈ L, upd Y qe (.tup (natV es)) p.1 = some (.tup (stpV p.2)) ∧ ∃ b, b < n ∧ StpDraw names n b p.2 := fun p hp => ⟨se _ _ (at5 p hp).1, (at5 p hp).2⟩
            generalize upd Y qe (.tup (natV es)) = Y2 at se ee f5 be ke at6
            refine ⟨_, rfl, _, rfl, x, q5, _, rfl, be, n5x, f5, by rw [List.length_map]; omega, fun y hy => ?_, fun Y3 qm ys k3 b3 nqm em pm => ?_⟩
            · obtain ⟨p, hp, rfl⟩ := List.mem_map.mp hy
              obtain ⟨e, b, _, d⟩ := at6 p hp
              exact DV.stp e (d.name hn)
            obtain ⟨L2, pm2, rfl⟩ := perm_of_map pm L rfl
            refine ⟨qm, _, rfl, .inl ⟨sqL_new em, fun qs nqs => ?_⟩⟩
            have ss := same_new (o := .tup (L2.map fun p => V.ref p.1)) nqs
            have es2 : upd Y3 qs (.tup (L2.map fun p => V.ref p.1)) qs = some (.tup (L2.map fun p => V.ref p.1)) := upd_same
            have bs := Box.upd (o := .tup (L2.map fun p => V.ref p.1)) b3 (Box.ne b3 nqs)
            have ts3 : TS Y2 (upd Y3 qs (.tup (L2.map fun p => V.ref p.1))) := (TS.but be k3).trans (TS.of ss)
            have ks := (ke.trans k3).trans (But.of ss)
            generalize upd Y3 qs (.tup (L2.map fun p => V.ref p.1)) = Y4 at ss es2 bs ts3 ks
            refine ⟨smallE (by show 4 ≤ 1000000; decide), fun qq nqq => ?_⟩
            have sq := same_new (o := .tup [V.str nm, V.int (n : Int), V.ref qe, V.ref qs]) nqq
            refine q _ qq ⟨qq, nm, n, qe, es, qs, L2⟩ (ks.trans (But.of sq)) (Box.upd bs (Box.ne bs nqq)) (ks.free bs nqq) rfl ⟨upd_same, sq _ _ (ts3 _ _ ee), sq _ _ es2, fun p hp => sq _ _ (ts3 _ _ (at6 p (pm2.mem_iff.mp hp)).1)⟩ ⟨rfl, n1, n4, lt, asc, fun p hp => (at6 p (pm2.mem_iff.mp hp)).2, (pm2.map (·.2)).nodup_iff.mpr nd5, ?_⟩
            show L2.length ≤ 6
            have := pm2.length_eq
            omega
        · refine ⟨_, ps_if (PW.pt (pw_and (pt_cmpR op_notIn_seq (pe_op op_sub (pv 3) pe_int) (pv 4) (by rfl)) (pw_and1 (pt_cmpR op_gt (pe_call G__law_take (hr.mono (by decide)) (by rfl) C__law_take.g C__law_take.kp C__law_take.b .nil pass0 (pa_cons (pv 0) (pa_cons pe_int pa_nil))) pe_int (nomark _))))) (pss_one (ps_expr (pe_bm PySem.F.plainAttrs_list PySem.F.slot_list_append PySem.F.type_list_append mt_append (pv 4) (pa_cons (pe_op op_sub (pv 3) pe_int) pa_nil)))) pss_nil, fun N' hN σ Z h => ?_⟩
          obtain ⟨n, q4, es, rfl, n1, n4, kZ, bZ, nq4x, nq4, e4, lt, asc, ln⟩ := h
          have flat : (natV es).all flatV = true := by
            unfold natV
            rw [List.all_map]
            exact List.all_eq_true.mpr fun _ _ => rfl
          have hin : inV (V.int ((n : Int) - 1)) (natV es) = decide ((n - 1) ∈ es) := by
            have : (n : Int) - 1 = ((n - 1 : Nat) : Int) := by omega
            rw [this, inV_nat]
          refine ⟨_, rfl, _, _, rfl, rfl, _, rfl, q4, _, rfl, .inl (sqL_new e4), rfl, flat, ?_⟩
          rw [hin]
          by_cases hm : (n - 1) ∈ es
          · rw [decide_eq_true hm]
            refine ⟨_, rfl, iteNo rfl (iteNo rfl ?_)⟩
            exact hN _ _ ⟨n, q4, es, rfl, n1, n4, kZ, bZ, nq4x, nq4, e4, lt, asc, ln⟩
          · rw [decide_eq_false hm]
            refine ⟨_, rfl, iteYes rfl ?_⟩
            refine ⟨_, rfl, x, 6, rfl, bZ, by decide, by decide, fun r Z6 hr6 k6 b6 => ?_⟩
            have e4 := k6 _ _ nq4x e4
            have k6 := kZ.trans k6
            refine ⟨_, _, rfl, rfl, _, rfl, ite2 (fun c0 => ?_) (fun c0 => ?_)⟩
            · refine ⟨_, rfl, Or.inl ⟨rfl, _, sqL_new e4⟩, _, rfl, _, _, rfl, rfl, q4, _, _, rfl, rfl, e4, by rw [natV_len]; exact small (by omega), ?_⟩
              have lt' : ∀ e ∈ es, e < n - 1 := fun e he => by
                have := lt e he
                have : e ≠ n - 1 := fun z => hm (z ▸ he)
                omega
              refine hN _ _ ⟨n, q4, es ++ [n - 1], rfl, n1, n4, fun c o hc e => ?_, Box.upd b6 nq4x, nq4x, nq4, ?_, fun e he => ?_, ?_, ?_⟩
              · rw [upd_ne (ne_of_none e nq4)]
                exact k6 _ _ hc e
              · rw [upd_same]
                unfold natV
                rw [List.map_append, List.map_singleton]
                dsimp only
                have : (n : Int) - 1 = ((n - 1 : Nat) : Int) := by omega
                rw [this]
              · rcases List.mem_append.mp he with z | z
                · exact lt e z
                · rw [List.mem_singleton.mp z]
                  omega
              · rw [List.pairwise_append]
                exact ⟨asc, List.pairwise_singleton _ _, fun e he y hy => by rw [List.mem_singleton.mp hy]; exact lt' e he⟩
              · rw [List.length_append, List.length_singleton]
                have := asc_len asc lt'
                omega
            · exact hN _ _ ⟨n, q4, es, rfl, n1, n4, k6, b6, nq4x, nq4, e4, lt, asc, ln⟩
      · refine ⟨_, ps_setLc (i := 4) (own := [("number", 8)]) (g := gName 8) rfl scLc.nd rfl rfl (sw_true rfl rfl rfl rfl) (pi_range1 (by rfl) N.range (pa_cons (pv 3) pa_nil)) (blkOk_by (own := [("number", 8)]) (N := nLc) (sc := defScope sLawCourse) (by decide +kernel)) (fun _ _ _ _ _ => (pg_name (i := 8) scLc.nd rfl (Or.inl rfl))) (fun _ _ _ _ _ => pts_one (pt_cmpR op_eq (pe_call G__law_take (hr.mono (by decide)) (by rfl) C__law_take.g C__law_take.kp C__law_take.b .nil pass0 (pa_cons (pv 0) (pa_cons (pe_ix (ixL_at (K := K) rfl) (pe_lst (pa_cons pe_int (pa_cons pe_int pa_nil))) (pe_callTy call_int1 (by rfl) N.int (by decide +kernel) (pa_cons (pe_cmpR op_gt (pv 8) pe_int (nomark _)) pa_nil)) (fun _ _ => rfl)) pa_nil))) pe_int (nomark _))) (fun _ _ _ _ _ => (pv 8)), fun N' hN σ Z h => ?_⟩
        obtain ⟨n, rfl, n1, n4, kZ, bZ⟩ := h
        refine ⟨_, rfl, _, rfl, by omega, by omega, fun D nD => ?_⟩
        have nDx := Box.ne bZ nD
        have nDH := kZ.free bZ nD
        have en : ((n : Int)).toNat = n := by omega
        rw [en]
        refine lc_it (walk_r0 (n := n)) (fun j G => ∃ es : List Nat, But x H G ∧ Box G x ∧ G D = some (.lst (natV es)) ∧ (∀ e ∈ es, e < j) ∧ es.Pairwise (· < ·) ∧ es.length ≤ j) ⟨[], kZ.trans (But.of (same_new nD)), Box.upd bZ nDx, upd_same, (fun e he => nomatch he), List.Pairwise.nil, Nat.le_refl _⟩ (fun _ _ _ _ => True.intro) (fun j z G G' hj h y => ?_) (fun G h => ?_)
        · obtain ⟨rfl, rfl⟩ := y
          obtain ⟨es, kG, bG, eG, lt, asc, ln⟩ := h
          refine ⟨rfl, _, rfl, smallE (by show 2 ≤ 1000000; decide), fun l nl2 => ?_⟩
          have sl := same_new (o := .lst [V.int 7, V.int 4]) nl2
          have el : upd G' l (.lst [V.int 7, V.int 4]) l = some (.lst [V.int 7, V.int 4]) := upd_same
          have kG := kG.trans (But.of sl)
          have bG2 := Box.upd (o := .lst [V.int 7, V.int 4]) bG (Box.ne bG nl2)
          have eG := sl _ _ eG
          generalize upd G' l (.lst [V.int 7, V.int 4]) = G2 at sl el kG bG2 eG
          have hat : ∃ m : Nat, 0 < m ∧ m ≤ 7 ∧ atI [V.int 7, V.int 4] (if decide ((0 : Int) < ((j : Nat) : Int)) = true then 1 else 0) = some (.int (m : Int)) := by
            by_cases h : decide ((0 : Int) < ((j : Nat) : Int)) = true
            · rw [if_pos h]
              exact ⟨4, by decide, by decide, rfl⟩
            · rw [if_neg h]
              exact ⟨7, by decide, by decide, rfl⟩
          obtain ⟨m, m0, m7, hm⟩ := hat
          refine ⟨_, rfl, _, _, rfl, rfl, .inr ⟨_, rfl, l, _, _, .int (m : Int), rfl, rfl, sqL_new el, hm, x, m, rfl, bG2, m0, by omega, fun r G3 hr3 k3 b3 => ?_⟩⟩
          have kG3 := kG.trans k3
          have eG3 := k3 _ _ nDx eG
          refine ⟨rfl, _, rfl, ite2 (fun c0 => ?_) (fun c0 => ?_)⟩
          · refine ⟨_, rfl, _, eG3, by rw [natV_len]; exact small (by omega), es ++ [j], fun c o hc e => ?_, Box.upd b3 nDx, ?_, fun e he => ?_, ?_, ?_⟩
            · rw [upd_ne (ne_of_none e nDH)]
              exact kG3 _ _ hc e
            · rw [upd_same]
              unfold natV
              rw [List.map_append]
              rfl
            · rcases List.mem_append.mp he with z | z
              · exact Nat.lt_succ_of_lt (lt e z)
              · rw [List.mem_singleton.mp z]
                exact Nat.lt_succ_self _
            · rw [List.pairwise_append]
              exact ⟨asc, List.pairwise_singleton _ _, fun e he y hy => by rw [List.mem_singleton.mp hy]; exact lt e he⟩
            · rw [List.length_append, List.length_singleton]
              omega
          · exact ⟨es, kG3, b3, eG3, fun e he => Nat.lt_succ_of_lt (lt e he), asc, by omega⟩
        · obtain ⟨es, kG, bG, eG, lt, asc, ln⟩ := h
          have flat : (natV es).all flatV = true := by
            unfold natV
            rw [List.all_map]
            exact List.all_eq_true.mpr fun _ _ => rfl
          exact hN _ _ ⟨n, D, es, rfl, n1, n4, kG, bG, nDx, nDH, eG, lt, asc, by omega⟩
    · refine ⟨_, ps_set (i := 3) scLc.nd rfl (Or.inl rfl) (pe_ifExp (pt_cmpR op_eq (pe_call G__law_take (hr.mono (by decide)) (by rfl) C__law_take.g C__law_take.kp C__law_take.b .nil pass0 (pa_cons (pv 0) (pa_cons pe_int pa_nil))) pe_int (nomark _)) pe_int (pe_op op_add pe_int (pe_call G__law_take (hr.mono (by decide)) (by rfl) C__law_take.g C__law_take.kp C__law_take.b .nil pass0 (pa_cons (pv 0) (pa_cons pe_int pa_nil))))), fun N' hN => ?_⟩
      refine ⟨_, rfl, x, 8, rfl, bx, by decide, by decide, fun r H1 hr1 k1 b1 => ⟨rfl, _, rfl, ite2 (fun c0 => ?_) (fun c0 => ?_)⟩⟩
      · exact hN _ _ ⟨1, rfl, Nat.le_refl _, by decide, k1, b1⟩
      · refine ⟨_, rfl, x, 3, rfl, b1, by decide, by decide, fun r2 H2 hr2 k2 b2 => ⟨_, _, rfl, rfl, hN _ _ ⟨2 + r2, rfl, by omega, by omega, k1.trans k2, b2⟩⟩⟩
end
end Kb
namespace Kb
open PySem PySem.Spec PyProof.Rows L2
/-! ### drawn books -/
def fiveL : List Str := ["main", "b", "order", "ab", "z"]
theorem five_names : ∀ d ∈ fiveL, isName d = true := by decide +kernel
theorem five_nd : fiveL.Nodup := by decide +kernel
theorem nStages_small : ∀ {cs : List CA} {m : Nat}, (∀ c ∈ cs, c.n ≤ m) → nStages cs ≤ m * cs.length
  | [], _, _ => Nat.zero_le _
  | c :: cs, m, h => by
    have ih := nStages_small (m := m) fun d hd => h d (List.mem_cons_of_mem _ hd)
    have h1 := h c List.mem_cons_self
    have e : nStages (c :: cs) = c.n + nStages cs := rfl
    rw [e, List.length_cons, Nat.mul_succ]
    omega
theorem dns_small : ∀ {cs : List CA} {m : Nat}, (∀ c ∈ cs, c.ss.length ≤ m) → (dns cs).length ≤ m * cs.length
  | [], _, _ => Nat.zero_le _
  | c :: cs, m, h => by
    have ih := dns_small (m := m) fun d hd => h d (List.mem_cons_of_mem _ hd)
    have h1 := h c List.mem_cons_self
    have h2 := dn_len c.ss
    have e : dns (c :: cs) = dn c.ss ++ dns cs := by unfold dns; rw [List.flatMap_cons]
    rw [e, List.length_append, List.length_cons, Nat.mul_succ]
    omega
/-- drawn courses make a book -/
theorem csOk_draw {names : List Str} {cs : List CA} (n0 : cs ≠ []) (n3 : cs.length ≤ 3) (e : cs.map (·.nm) = names) (nn : ∀ n ∈ names, isName n = true) (nd : names.Nodup) (h : ∀ c ∈ cs, CrsDraw names c.nm c) : CsOk cs where
  n8 := by omega
  n1 := n0
  ok := fun c hc => by
    have d := h c hc
    have mn : c.nm ∈ names := by
      rw [← e]
      exact List.mem_map.mpr ⟨c, hc, rfl⟩
    have n4 := d.n4
    refine ⟨nn _ mn, d.n0, by omega, d.el, d.asc, fun p hp => ?_, d.nd, by have := d.sz; omega, by have := asc_len d.asc d.el; omega⟩
    obtain ⟨b, hb, s⟩ := d.st p hp
    exact ⟨by rw [s.sn]; exact hb, s.so, s.name nn⟩
  nd := by rw [e]; exact nd
  cl := fun c hc x hx => by
    obtain ⟨p, hp, rfl⟩ := List.mem_map.mp hx
    obtain ⟨hp, hcall⟩ := List.mem_filter.mp hp
    obtain ⟨b, hb, s⟩ := (h c hc).st p hp
    rw [e]
    exact s.c hcall
  st := by
    have := nStages_small (m := 4) fun c hc => (h c hc).n4
    omega
  dz := by
    have := dns_small (m := 6) fun c hc => (h c hc).sz
    omega
  d12 := by
    have : (uniq (dns cs)).length ≤ deedsL.length := nd_le (uniq_nd _) fun x hx => by
      obtain ⟨c, hc, hx⟩ := List.mem_flatMap.mp ((mem_uniq _ _).mp hx)
      obtain ⟨p, hp, rfl⟩ := List.mem_map.mp hx
      obtain ⟨hp, hcall⟩ := List.mem_filter.mp hp
      obtain ⟨b, hb, s⟩ := (h c hc).st p hp
      exact s.d (by simpa using hcall)
    have h4 : deedsL.length = 4 := rfl
    omega
section
variable {P : Program} {w : World} {K : PySem.W.Frag} {mg : Str → Option Value} {base : Heap}
/-- a drawn book's courses -/
structure CsDraw (H : Hp) (a : Addr) (cs : List CA) : Prop where
  t : H a = some (.tup (cs.map fun c => V.ref c.a))
  c : ∀ c ∈ cs, DrawC H c
  ok : CsOk cs
  n2 : 2 ≤ cs.length
  n3 : cs.length ≤ 3
  n4 : ∀ c ∈ cs, c.n ≤ 4
  sz : ∀ c ∈ cs, c.ss.length ≤ 6
  nm : ∀ c ∈ cs, c.nm ∈ fiveL
  dd : ∀ d ∈ dns cs, d ∈ deedsL
theorem CsDraw.ts {H H' : Hp} {a : Addr} {cs : List CA} (s : TS H H') (h : CsDraw H a cs) : CsDraw H' a cs := ⟨s _ _ h.t, fun c hc => (h.c c hc).ts s, h.ok, h.n2, h.n3, h.n4, h.sz, h.nm, h.dd⟩
theorem CsDraw.at (K : PySem.W.Frag) {H : Hp} {a : Addr} {cs : List CA} (h : CsDraw H a cs) : CsAt K H a cs := ⟨sqT_new h.t, fun c hc => (h.c c hc).at K⟩
def spLawCourses : Sp := fun vs H Q _ => ∃ (x : Addr), vs = [.ref x] ∧ Box H x ∧ ∀ H' q cs, But x H H' → Box H' x → H q = none → CsDraw H' q cs → Q (.ref q) H'
abbrev nLx : List Str := ["box", "many", "names", "at"]
theorem scLx : FnScope nLx ["box"] (defScope sLawCourses) := ⟨rfl, rfl, rfl, by decide +kernel, rfl, by decide +kernel, by decide +kernel⟩
theorem ok_lawcourses {f fT fM fC : Addr} {fd fdT fdM fdC : FuncData} (F : Fun K "_law_courses" "_law_courses" sLawCourses f fd) (N : Nones mg) (G__law_take : FnOk P w K mg base CX0 1 fT fdT ["box", "many"] spTake) (C__law_take : CallC K mg "_law_take" ["box", "many"] fT fdT) (G__law_mixed : FnOk P w K mg base CX0 2 fM fdM ["box", "some"] (spLawMixed K)) (C__law_mixed : CallC K mg "_law_mixed" ["box", "some"] fM fdM)
    (G__law_course : FnOk P w K mg base CX0 4 fC fdC ["box", "names", "at"] spLawCourse) (C__law_course : CallC K mg "_law_course" ["box", "names", "at"] fC fdC) : FnOk P w K mg base CX0 5 f fd ["box"] spLawCourses := by
  refine F.ok scLx (fun vs H Q E h => ?_) (fun cdv A outer s0 H vs Q E hr h => ?_)
  · obtain ⟨x, rfl, _⟩ := h
    rfl
  · obtain ⟨x, rfl, bx, q⟩ := h
    refine ⟨_, pss_cons (ps_set (i := 1) scLx.nd rfl (Or.inl rfl) (pe_op op_sub pe_int (pe_op op_fdivN (pe_call G__law_take (hr.mono (by decide)) (by rfl) C__law_take.g C__law_take.kp C__law_take.b .nil pass0 (pa_cons (pv 0) (pa_cons pe_int pa_nil))) pe_int)))
      (pss_cons (ps_set (i := 2) scLx.nd rfl (Or.inr rfl) (pe_slice sl_list (pe_call G__law_mixed (hr.mono (by decide)) (by rfl) C__law_mixed.g C__law_mixed.kp C__law_mixed.b .nil pass0 (pa_cons (pv 0) (pa_cons (pe_lst (pa_cons pe_str (pa_cons pe_str (pa_cons pe_str (pa_cons pe_str (pa_cons pe_str pa_nil)))))) pa_nil))) po_none (po_some (pv 1))))
      (pss_one (ps_ret (pe_callTy call_tuple_of (by rfl) N.tuple (by decide +kernel) (pa_cons (pe_lc (own := [("at", 3)]) (g := gName 3) (tt := tYes) rfl scLx.nd (pi_range1 (by rfl) N.range (pa_cons (pv 1) pa_nil)) (blkOk_by (own := [("at", 3)]) (N := nLx) (sc := defScope sLawCourses) (by decide +kernel)) (fun _ _ _ _ _ => (pg_name (i := 3) scLx.nd rfl (Or.inl rfl))) (fun _ _ _ _ _ => pts_nil) (fun _ _ _ _ _ => (pe_call G__law_course (hr.mono (by decide)) (by rfl) C__law_course.g C__law_course.kp C__law_course.b .nil pass0 (pa_cons (pv 0) (pa_cons (pv 2) (pa_cons (pv 3) pa_nil)))))) pa_nil))))), ?_⟩
    refine ⟨_, rfl, x, 4, rfl, bx, by decide, by decide, fun r H1 hr1 k1 b1 => ?_⟩
    refine ⟨_, 2, rfl, rfl, ⟨by decide, by decide⟩, _, _, rfl, rfl, ?_⟩
    have em : ∃ m : Nat, 2 ≤ m ∧ m ≤ 3 ∧ (3 : Int) - (Int.fdiv (r : Int) 2) = (m : Int) := by
      have : r = 0 ∨ r = 1 ∨ r = 2 ∨ r = 3 := by omega
      rcases this with h | h | h | h <;> subst h
      · exact ⟨3, by decide, by decide, by decide⟩
      · exact ⟨3, by decide, by decide, by decide⟩
      · exact ⟨2, by decide, by decide, by decide⟩
      · exact ⟨2, by decide, by decide, by decide⟩
    obtain ⟨m, m2, m3, em⟩ := em
    dsimp only
    rw [em]
    refine ⟨_, rfl, smallE (by show 5 ≤ 1000000; decide), fun l nl => ?_⟩
    have sl := same_new (o := .lst (fiveL.map V.str)) nl
    have el : upd H1 l (.lst (fiveL.map V.str)) l = some (.lst (fiveL.map V.str)) := upd_same
    have b2 := Box.upd (o := .lst (fiveL.map V.str)) b1 (Box.ne b1 nl)
    have k2 := k1.trans (But.of sl)
    have nlx := Box.ne b1 nl
    refine ⟨x, l, fiveL.map V.str, rfl, b2, nlx, el, by decide, fun y hy => ?_, fun H3 qm ys k3 b3 nqm em3 pm => ?_⟩
    · obtain ⟨z, hz, rfl⟩ := List.mem_map.mp hy
      exact DV.str z (name_ok (five_names z hz))
    obtain ⟨ns, pns, rfl⟩ := perm_of_map pm fiveL rfl
    have kH3 := k2.trans k3
    dsimp only [tNoPart]
    refine ⟨_, rfl, (m : Int), rfl, qm, _, rfl, sqL_new em3, fun q2 nq2 => ?_⟩
    have l5 : ns.length = 5 := pns.length_eq
    have ecut : cutV (ns.map V.str) none (some (m : Int)) = (ns.take m).map V.str := by
      unfold cutV
      rw [HT.sIx_nat, HT.sIx_none, List.drop_zero, Nat.sub_zero, List.length_map, Nat.min_eq_left (by omega), List.map_take]
    rw [ecut]
    have s2 := same_new (o := .lst ((ns.take m).map V.str)) nq2
    have e2 : upd H3 q2 (.lst ((ns.take m).map V.str)) q2 = some (.lst ((ns.take m).map V.str)) := upd_same
    have b4 := Box.upd (o := .lst ((ns.take m).map V.str)) b3 (Box.ne b3 nq2)
    have n2x := Box.ne b3 nq2
    have k4 := kH3.trans (But.of s2)
    generalize upd H3 q2 (.lst ((ns.take m).map V.str)) = H4 at s2 e2 b4 k4
    have lt5 : (ns.take m).length = m := by rw [List.length_take]; omega
    have nmT : ∀ n ∈ ns.take m, n ∈ fiveL := fun n hn => pns.mem_iff.mp (List.mem_of_mem_take hn)
    have ndT : (ns.take m).Nodup := (pns.nodup_iff.mpr five_nd).sublist (List.take_sublist m ns)
    refine ⟨_, rfl, _, rfl, by omega, by omega, fun D nD => ?_⟩
    have nDx := Box.ne b4 nD
    have nDH := k4.free b4 nD
    have emt : ((m : Int)).toNat = m := by omega
    rw [emt]
    refine lc_it (walk_r0 (n := m)) (fun i G => ∃ L : List CA, But x H G ∧ Box G x ∧ G q2 = some (.lst ((ns.take m).map V.str)) ∧ G D = some (.lst (L.map fun c => V.ref c.a)) ∧ L.map (·.nm) = (ns.take m).take i ∧ ∀ c ∈ L, DrawC G c ∧ CrsDraw (ns.take m) c.nm c) ⟨[], k4.trans (But.of (same_new nD)), Box.upd b4 nDx, same_new nD _ _ e2, upd_same, rfl, fun c hc => nomatch hc⟩ (fun _ _ _ _ => True.intro) (fun i z G G' hi h y => ?_) (fun G h => ?_)
    · obtain ⟨rfl, rfl⟩ := y
      obtain ⟨L, kG, bG, eG2, eGD, kL, dL⟩ := h
      have hg : (ns.take m)[i]? = some ((ns.take m)[i]'(by omega)) := List.getElem?_eq_getElem _
      have lL : L.length ≤ 3 := by
        have := congrArg List.length kL
        rw [List.length_map, List.length_take] at this
        omega
      refine ⟨rfl, _, rfl, _, rfl, _, rfl, x, q2, ns.take m, i, _, rfl, bG, n2x, eG2, hg, by omega, fun n hn => five_names n (nmT n hn), fun H5 qc c k5 b5 nqc ec dr cd => ?_⟩
      have eD5 := k5 _ _ nDx eGD
      have ts5 := TS.but bG k5
      have tk : TS H5 (upd H5 D (.lst ((L.map fun c => V.ref c.a) ++ [.ref qc]))) := fun c xs e => by
        rw [upd_ne]
        · exact e
        · intro z
          rw [z, eD5] at e
          cases e
      have nD2 : D ≠ q2 := fun z => by
        rw [z, e2] at nD
        cases nD
      refine ⟨_, eD5, by rw [List.length_map]; exact small (by omega), L ++ [c], fun b o hb e => ?_, Box.upd b5 nDx, ?_, ?_, ?_, fun c' hc' => ?_⟩
      · rw [upd_ne (ne_of_none e nDH)]
        exact k5 _ _ hb (kG _ _ hb e)
      · rw [upd_ne nD2.symm]
        exact k5 _ _ n2x eG2
      · rw [upd_same, List.map_append, ← ec]
        rfl
      · rw [List.map_append, kL, take_of_get hg]
        congr 1
        show [c.nm] = _
        rw [cd.nm]
      · rcases List.mem_append.mp hc' with z | z
        · exact ⟨((dL c' z).1.ts ts5).ts tk, (dL c' z).2⟩
        · rw [List.mem_singleton.mp z]
          refine ⟨dr.ts tk, ?_⟩
          rw [cd.nm]
          exact cd
    · obtain ⟨L, kG, bG, eG2, eGD, kL, dL⟩ := h
      rw [List.take_of_length_le (by omega)] at kL
      have lL : L.length = m := by
        have := congrArg List.length kL
        rw [List.length_map] at this
        omega
      refine ⟨D, _, rfl, .inl ⟨sqL_new eGD, fun t nt => ?_⟩⟩
      have st := same_new (o := .tup (L.map fun c => V.ref c.a)) nt
      refine q _ t L (kG.trans (But.of st)) (Box.upd bG (Box.ne bG nt)) (kG.free bG nt) ⟨upd_same, fun c hc => (dL c hc).1.ts (TS.of st), csOk_draw (fun z => by rw [z] at lL; have : (0:Nat) = m := lL; omega) (by omega) kL (fun n hn => five_names n (nmT n hn)) ndT fun c hc => (dL c hc).2, by omega, by omega, fun c hc => (dL c hc).2.n4, fun c hc => (dL c hc).2.sz, fun c hc => ?_, fun d hd => ?_⟩
      · have : c.nm ∈ ns.take m := by
          rw [← kL]
          exact List.mem_map.mpr ⟨c, hc, rfl⟩
        exact nmT _ this
      · obtain ⟨c, hc, hx⟩ := List.mem_flatMap.mp hd
        obtain ⟨p, hp, rfl⟩ := List.mem_map.mp hx
        obtain ⟨hp, hcall⟩ := List.mem_filter.mp hp
        obtain ⟨b, hb, s⟩ := (dL c hc).2.st p hp
        exact s.d (by simpa using hcall)
end
end Kb
/-! A call of a def by keywords alone. -/
namespace Ka
open PySem PySem.Spec PyProof.Rows L2
section
variable {X : Cx} {CX : CXT} {k : Nat} {f : Addr} {fd : FuncData} {ps ks : List Str} {sp : Sp} {E : XK} {x : Str} {p pos : Pos} {kws : List Keyword} {tk : TA} {g : List Value → List Value → List Value} {gV : List V → List V → List V}
def tCallK0 (sp : Sp) (gV : List V → List V → List V) (E : XK) (tk : TA) : TE := fun σ H Q => tk σ H fun zs H2 => sp (gV [] zs) H2 Q E
theorem pe_callK0 (F : FnOk X.prog X.w X.K X.mg X.base CX k f fd ps sp) (hr : Room k X.A) (hg : Gl X x) (hm : X.mg x = some (.ref f)) (hk : PySem.W.keepIn X.K (.ref f) = true) (hb : KBinds X.K fd ps ks g gV) (hx : Passes CX X E) (hkw : PK X kws tk)
    (hall : (backToKw pos (keywordEach kws X.env)).all (·.1.isSome) = true := by rfl) (hks : (backToKw pos (keywordEach kws X.env)).filterMap (·.1) = ks := by rfl) (hdb : (x == ("__debug__" : Str)) = false := by decide)
    (hpl : ((backTo pos (starEach [] X.env)).any (·.1) || (backToKw pos (keywordEach kws X.env)).any (·.1.isNone)) = false := by rfl) : PE X (.Call (.Name x p) [] kws pos) (tCallK0 sp gV E tk) := by
  constructor
  intro pins s σ H Q I h
  apply wpAny_Call_Name_kw
  apply ld_glob I hg hm ?_ hdb
  apply PySem.W.callWith_KW0 (h₀ := X.base) I.ok.mod.kin hk hall ?_ hpl
  apply thn (hkw.run pos pins s σ H _ I h)
  rintro ws s2 ⟨zs, H2, I2, rz, q2⟩
  rw [hks]
  exact ⟨I2.kIn, run_fnk F hr hb hx I2 .nil rz q2⟩
end
/-- two parameters, given by name in the other order -/
def swG {α : Type} (us ws : List α) : List α := match us, ws with
  | [], [a, b] => [b, a]
  | _, _ => []
theorem kb_swap {K : PySem.W.Frag} {fd : FuncData} {a b : Str} (h : ∀ x y : Value, bindArgs fd ⟨[], [(b, x), (a, y)]⟩ = pure [(a, y), (b, x)]) : KBinds K fd [a, b] [b, a] swG swG := by
  constructor
  · intro s us ws _ hl
    match us, ws, hl with
    | [], [x, y], _ => exact BindsTo.of_eq (h x y)
    | [], [], hl => exact absurd hl (by simp [swG])
    | [], [_], hl => exact absurd hl (by simp [swG])
    | [], _ :: _ :: _ :: _, hl => exact absurd hl (by simp [swG])
    | _ :: _, _, hl => exact absurd hl (by simp [swG])
  · intro vs us zs ws r rz
    cases r with
    | nil =>
      cases rz with
      | nil => exact .nil
      | cons a r =>
        cases r with
        | nil => exact .nil
        | cons b r =>
          cases r with
          | nil => exact .cons b (.cons a .nil)
          | cons _ _ => exact .nil
    | cons _ _ => exact .nil
/-- one parameter, given by name -/
def snG {α : Type} (us ws : List α) : List α := match us, ws with
  | [], [a] => [a]
  | _, _ => []
theorem kb_one {K : PySem.W.Frag} {fd : FuncData} {a : Str} (h : ∀ x : Value, bindArgs fd ⟨[], [(a, x)]⟩ = pure [(a, x)]) : KBinds K fd [a] [a] snG snG := by
  constructor
  · intro s us ws _ hl
    match us, ws, hl with
    | [], [x], _ => exact BindsTo.of_eq (h x)
    | [], [], hl => exact absurd hl (by simp [snG])
    | [], _ :: _ :: _, hl => exact absurd hl (by simp [snG])
    | _ :: _, _, hl => exact absurd hl (by simp [snG])
  · intro vs us zs ws r rz
    cases r with
    | nil =>
      cases rz with
      | nil => exact .nil
      | cons a r =>
        cases r with
        | nil => exact .cons a .nil
        | cons _ _ => exact .nil
    | cons _ _ => exact .nil
/-- three parameters, given by name from the last to the first -/
def rvG {α : Type} (us ws : List α) : List α := match us, ws with
  | [], [a, b, c] => [c, b, a]
  | _, _ => []
theorem kb_rev3 {K : PySem.W.Frag} {fd : FuncData} {a b c : Str} (h : ∀ x y z : Value, bindArgs fd ⟨[], [(c, x), (b, y), (a, z)]⟩ = pure [(a, z), (b, y), (c, x)]) : KBinds K fd [a, b, c] [c, b, a] rvG rvG := by
  constructor
  · intro s us ws _ hl
    match us, ws, hl with
    | [], [x, y, z], _ => exact BindsTo.of_eq (h x y z)
    | [], [], hl => exact absurd hl (by simp [rvG])
    | [], [_], hl => exact absurd hl (by simp [rvG])
    | [], [_, _], hl => exact absurd hl (by simp [rvG])
    | [], _ :: _ :: _ :: _ :: _, hl => exact absurd hl (by simp [rvG])
    | _ :: _, _, hl => exact absurd hl (by simp [rvG])
  · intro vs us zs ws r rz
    cases r with
    | cons _ _ => exact .nil
    | nil =>
      cases rz with
      | nil => exact .nil
      | cons a r =>
        cases r with
        | nil => exact .nil
        | cons b r =>
          cases r with
          | nil => exact .nil
          | cons c r =>
            cases r with
            | nil => exact .cons c (.cons b (.cons a .nil))
            | cons _ _ => exact .nil
end Ka
namespace Kb
open PySem PySem.Spec PyProof.Rows L2
/-! ### length_bound, the law's product, drawn books -/
theorem ip_mulC {X : Cx} : PIp X .Mult (rI CMul fun i j => .int (i * j)) := fun pins s σ H x y v u Q I r1 r2 h => iop_mul pins s σ H x y v u Q I r1 r2 h
def stepP (a n : Nat) : Nat := if 1 < n then a * (n - 1) else a
def prodL (l : List Nat) : Nat := l.foldl stepP 1
theorem prodL_snoc (l : List Nat) (n : Nat) : prodL (l ++ [n]) = stepP (prodL l) n := by
  unfold prodL
  rw [List.foldl_append]
  rfl
theorem prodL_bound (cs : List CA) : prodL (cs.map (·.n)) = boundS cs := by
  have : ∀ (cs : List CA) (a : Nat), (cs.map (·.n)).foldl stepP a = a * boundS cs := by
    intro cs
    induction cs with
    | nil =>
      intro a
      exact (Nat.mul_one a).symm
    | cons c cs ih =>
      intro a
      rw [List.map_cons, List.foldl_cons, ih]
      have e : boundS (c :: cs) = most1 c * boundS cs := by
        show (if True then most1 c else 1) * prodW (fun _ => True) cs = _
        rw [if_pos trivial]
        rfl
      rw [e]
      unfold stepP most1
      by_cases h : 1 < c.n
      · rw [if_pos h, Nat.max_eq_right (by omega), Nat.mul_assoc]
      · rw [if_neg h, Nat.max_eq_left (by omega), Nat.one_mul]
  rw [prodL, this, Nat.one_mul]
section
variable {P : Program} {w : World} {K : PySem.W.Frag} {mg : Str → Option Value} {base : Heap}
def spBound (K : PySem.W.Frag) (C : Addr) : Sp := fun vs H Q _ => ∃ (p a : Addr) (cs : List CA), vs = [.ref p] ∧ BookAt K C H p a cs ∧ Q (.int (prodL (cs.map (·.n)) : Int)) H
abbrev nLb : List Str := ["book", "product", "course"]
theorem scLb : FnScope nLb ["book"] (defScope sLengthBound) := ⟨rfl, rfl, rfl, by decide +kernel, rfl, by decide +kernel, by decide +kernel⟩
theorem ok_bound {f C : Addr} {fd : FuncData} (F : Fun K "length_bound" "length_bound" sLengthBound f fd) (B : BkC K mg C) : FnOk P w K mg base CX0 1 f fd ["book"] (spBound K C) := by
  refine F.ok scLb (fun vs H Q E h => ?_) (fun cdv A outer s H vs Q E hr h => ?_)
  · obtain ⟨p, a, cs, rfl, _⟩ := h
    rfl
  · obtain ⟨p, a, cs, rfl, ⟨dx, fs, P1, S1, E1, L1, S, hp, L, hC, ok, _⟩, q⟩ := h
    refine ⟨_, pss_cons (ps_set (i := 1) scLb.nd rfl (Or.inl rfl) pe_int)
      (pss_cons (ps_for PassesOwn.never rfl (pi_tup (pe_fld (pv 0) rfl)) (pg_name (i := 2) scLb.nd rfl (Or.inl rfl))
        (pss_one (ps_if (pt_cmpR op_gt (pe_ix ix_tup (pv 2) pe_int (fun _ _ => rfl)) pe_int (nomark _)) (pss_one (ps_aug (i := 1) scLb.nd rfl (Or.inl rfl) (pe_op op_sub (pe_ix ix_tup (pv 2) pe_int (fun _ _ => rfl)) pe_int) ip_mulC)) pss_nil)))
      (pss_one (ps_ret (pv 1)))), ?_⟩
    refine ⟨_, rfl, p, C, dx, fs, .ref a, rfl, hp, B.cl, B.nC, L.c, a, rfl, ⟨_, hC.1⟩, ?_⟩
    refine for_it (walk_tup (K := K) (a := a) (xs := cs.map fun c => V.ref c.a)) (fun i σ Z => Z = H ∧ ∃ x2 : Option V, σ = [some (.ref p), some (.int (prodL ((cs.take i).map (·.n)) : Int)), x2]) ⟨rfl, none, rfl⟩ (fun i σ Z _ h => by rw [h.1]; exact hC.1) (fun i x σ Z Z' hi h y => ?_) (fun σ Z h => ?_)
    · obtain ⟨rfl, hy⟩ := y
      obtain ⟨c, hc, rfl⟩ := get_map hy
      obtain ⟨rfl, x2, rfl⟩ := h
      have mc := List.mem_of_getElem? hc
      have hCc := hC.2 c mc
      have n20 := (ok.ok c mc).n1
      have e1 : (cs.take (i + 1)).map (·.n) = (cs.take i).map (·.n) ++ [c.n] := by rw [take_of_get hc, List.map_append]; rfl
      refine ⟨_, rfl, c.a, _, _, .int (c.n : Int), rfl, rfl, hCc.t, rfl, _, _, rfl, rfl, _, rfl, ite2 (fun c0 => ?_) (fun c0 => ?_)⟩
      · have h1 : 1 < c.n := by
          have := of_decide_eq_true c0
          omega
        refine ⟨_, rfl, _, rfl, c.a, _, _, .int (c.n : Int), rfl, rfl, hCc.t, rfl, _, _, rfl, rfl, _, _, rfl, rfl, .inr ⟨by show -(2 ^ 64) < (c.n : Int) - 1; omega, by show (c.n : Int) - 1 < 2 ^ 64; omega⟩, rfl, some (.ref c.a), ?_⟩
        rw [e1, prodL_snoc, stepP, if_pos h1]
        have : (prodL ((cs.take i).map (·.n)) : Int) * ((c.n : Int) - 1) = ((prodL ((cs.take i).map (·.n)) * (c.n - 1) : Nat) : Int) := by
          rw [Int.natCast_mul]
          congr 1
          omega
        rw [← this]
        rfl
      · have h1 : ¬ 1 < c.n := fun z => c0 (decide_eq_true (by omega))
        refine ⟨rfl, some (.ref c.a), ?_⟩
        rw [e1, prodL_snoc, stepP, if_neg h1]
        rfl
    · obtain ⟨rfl, x2, rfl⟩ := h
      rw [List.length_map, List.take_length]
      exact ⟨_, rfl, q⟩
def spLawProd (K : PySem.W.Frag) : Sp := fun vs H Q _ => ∃ (a : Addr) (l : List Nat), vs = [.ref a] ∧ SqL K H a (natV l) ∧ (∀ n ∈ l, n ≤ 1000) ∧ Q (.int (prodL l : Int)) H
abbrev nLp : List Str := ["numbers", "product", "number"]
theorem scLp : FnScope nLp ["numbers"] (defScope sLawProduct) := ⟨rfl, rfl, rfl, by decide +kernel, rfl, by decide +kernel, by decide +kernel⟩
theorem ok_lawprod {f : Addr} {fd : FuncData} (F : Fun K "_law_product" "_law_product" sLawProduct f fd) : FnOk P w K mg base CX0 1 f fd ["numbers"] (spLawProd K) := by
  refine F.ok scLp (fun vs H Q E h => ?_) (fun cdv A outer s H vs Q E hr h => ?_)
  · obtain ⟨a, l, rfl, _⟩ := h
    rfl
  · obtain ⟨a, l, rfl, hA, hl, q⟩ := h
    refine ⟨_, pss_cons (ps_set (i := 1) scLp.nd rfl (Or.inl rfl) pe_int)
      (pss_cons (ps_for PassesOwn.never rfl (pi_list (pv 0)) (pg_name (i := 2) scLp.nd rfl (Or.inl rfl))
        (pss_one (ps_if (pt_cmpR op_gt (pv 2) pe_int (nomark _)) (pss_one (ps_set (i := 1) scLp.nd rfl (Or.inl rfl) (pe_op op_mul (pv 1) (pe_op op_sub (pv 2) pe_int)))) pss_nil)))
      (pss_one (ps_ret (pv 1)))), ?_⟩
    refine ⟨_, rfl, a, rfl, ⟨_, hA⟩, ?_⟩
    refine for_it (walk_list (K := K) (a := a) (xs := natV l)) (fun i σ Z => Z = H ∧ ∃ x2 : Option V, σ = [some (.ref a), some (.int (prodL (l.take i) : Int)), x2]) ⟨rfl, none, rfl⟩ (fun i σ Z _ h => by rw [h.1]; exact hA) (fun i x σ Z Z' hi h y => ?_) (fun σ Z h => ?_)
    · obtain ⟨rfl, hy⟩ := y
      obtain ⟨n, hn, rfl⟩ := get_map (f := fun (i : Nat) => V.int (i : Int)) hy
      obtain ⟨rfl, x2, rfl⟩ := h
      have n1000 := hl n (List.mem_of_getElem? hn)
      refine ⟨_, rfl, _, _, rfl, rfl, _, rfl, ite2 (fun c0 => ?_) (fun c0 => ?_)⟩
      · have h1 : 1 < n := by
          have := of_decide_eq_true c0
          omega
        refine ⟨_, rfl, _, rfl, _, _, rfl, rfl, _, _, rfl, rfl, .inr ⟨by show -(2 ^ 64) < (n : Int) - 1; omega, by show (n : Int) - 1 < 2 ^ 64; omega⟩, rfl, some (.int (n : Int)), ?_⟩
        rw [take_of_get hn, prodL_snoc, stepP, if_pos h1]
        have : (prodL (l.take i) : Int) * ((n : Int) - 1) = ((prodL (l.take i) * (n - 1) : Nat) : Int) := by
          rw [Int.natCast_mul]
          congr 1
          omega
        rw [← this]
        rfl
      · have h1 : ¬ 1 < n := fun z => c0 (decide_eq_true (by omega))
        refine ⟨rfl, some (.int (n : Int)), ?_⟩
        rw [take_of_get hn, prodL_snoc, stepP, if_neg h1]
        rfl
    · obtain ⟨rfl, x2, rfl⟩ := h
      rw [natV_len, List.take_length]
      exact ⟨_, rfl, q⟩
end
end Kb
namespace Kb
open PySem PySem.Spec PyProof.Rows L2
/-! ### the law of drawn books -/
theorem valV_lw : ∀ (dn : List (Stg × Cost)) (x : Stg), valV (lwKV dn) (stK x) = if x ∈ Kz.keys dn then some (.int ((Kz.vf dn x).1 : Int)) else none
  | [], x => rfl
  | p :: dn, x => by
    show valV ((stK p.1, V.int (p.2.1 : Int)) :: lwKV dn) (stK x) = _
    have ek : Kz.keys (p :: dn) = p.1 :: Kz.keys dn := rfl
    by_cases h : p.1 = x
    · rw [valV_pos (by rw [h]), if_pos (by rw [ek, h]; exact List.mem_cons_self)]
      have : Kz.vf (p :: dn) x = p.2 := if_pos h
      rw [this]
    · rw [valV_neg (fun z => h (stK_inj z)), valV_lw dn x]
      have e1 : Kz.vf (p :: dn) x = Kz.vf dn x := if_neg h
      have e2 : x ∈ Kz.keys (p :: dn) ↔ x ∈ Kz.keys dn := by
        rw [ek, List.mem_cons]
        exact ⟨fun z => z.elim (fun e => absurd e.symm h) id, .inr⟩
      rw [e1]
      by_cases h2 : x ∈ Kz.keys dn
      · rw [if_pos h2, if_pos (e2.mpr h2)]
      · rw [if_neg h2, if_neg (fun z => h2 (e2.mp z))]
theorem keys_perm {dn dn' : List (Stg × Cost)} (p : dn'.Perm dn) : (Kz.keys dn').Perm (Kz.keys dn) := p.map _
theorem vf_perm {dn dn' : List (Stg × Cost)} (p : dn'.Perm dn) (nd : (Kz.keys dn).Nodup) {x : Stg} (h : x ∈ Kz.keys dn) : Kz.vf dn' x = Kz.vf dn x := Kz.vf_mem ((keys_perm p).nodup_iff.mpr nd) (p.mem_iff.mpr (Kz.mem_vf h))
section
variable {P : Program} {w : World} {K : PySem.W.Frag} {mg : Str → Option Value} {base : Heap}
/-- what plain gives, as lengths want it -/
theorem pln_lens {K : PySem.W.Frag} {H : Hp} {q : Addr} {cs : List CA} {ds : List Str} (h : PlnAt H q ds) (p : ds.Perm (uniq (dns cs))) : ∃ kvs, Rd H q (.dK kvs) ∧ ∀ d ∈ dns cs, ∃ r xs, valV kvs (Sum.inr d) = some (.ref r) ∧ SqT K H r xs ∧ xs.length = 1 := by
  obtain ⟨L, h1, h2, h3⟩ := h
  refine ⟨_, .inl h1, fun d hd => ?_⟩
  have md : d ∈ L.map (·.1) := by
    rw [h2]
    exact p.mem_iff.mpr ((mem_uniq _ _).mpr hd)
  obtain ⟨t, ht, et⟩ := List.mem_map.mp md
  refine ⟨t.2, [V.str t.1], ?_, sqT_new (h3 t ht), rfl⟩
  rw [← et]
  exact sa_get (by rw [h2]; exact p.nodup_iff.mpr (uniq_nd _)) ht
def spBookR : Sp := fun vs H Q _ => ∃ (x : Addr), vs = [.ref x] ∧ Box H x ∧ ∀ H', But x H H' → Box H' x → Q (.bl true) H'
abbrev nBr : List Str := ["box", "courses", "book", "bound", "table", "name", "stages", "ends", "steps", "number", "most", "course"]
theorem scBr : FnScope nBr ["box"] (defScope sLawBookRight) := ⟨rfl, rfl, rfl, by decide +kernel, rfl, by decide +kernel, by decide +kernel⟩
theorem ok_bookr {f C fI fX fB fL fP fR : Addr} {fd fdI fdX fdB fdL fdP fdR : FuncData} (F : Fun K "_law_book_right" "_law_book_right" sLawBookRight f fd) (N : Nones mg) (B : BkC K mg C) (M_Book : Mk K C fI) (G_Book : FnOk P w K mg base CX0 8 fI fdI ["self", "courses"] (spBkInit K C)) (b_Book : Binds K fdI ["self", "courses"] [])
    (G__law_courses : FnOk P w K mg base CX0 5 fX fdX ["box"] spLawCourses) (C__law_courses : CallC K mg "_law_courses" ["box"] fX fdX) (G_length_bound : FnOk P w K mg base CX0 1 fB fdB ["book"] (spBound K C)) (C_length_bound : CallC K mg "length_bound" ["book"] fB fdB) (kb_length_bound : KBinds K fdB ["book"] ["book"] Ka.snG Ka.snG)
    (G_lengths : FnOk P w K mg base CX0 6 fL fdL ["book", "view"] (spLens K C)) (C_lengths : CallC K mg "lengths" ["book", "view"] fL fdL) (G_plain : FnOk P w K mg base CX0 3 fP fdP ["book"] (spPln K C)) (C_plain : CallC K mg "plain" ["book"] fP fdP) (G__law_product : FnOk P w K mg base CX0 1 fR fdR ["numbers"] (spLawProd K)) (C__law_product : CallC K mg "_law_product" ["numbers"] fR fdR) : FnOk P w K mg base CX0 10 f fd ["box"] spBookR := by
  refine F.ok scBr (fun vs H Q E h => ?_) (fun cdv A outer s0 H vs Q E hr h => ?_)
  · obtain ⟨x, rfl, _⟩ := h
    rfl
  · obtain ⟨x, rfl, bx, q⟩ := h
    refine ⟨_, pss_cons (ps_set (i := 1) scBr.nd rfl (Or.inl rfl) (pe_call G__law_courses (hr.mono (by decide)) (by rfl) C__law_courses.g C__law_courses.kp C__law_courses.b .nil pass0 (pa_cons (pv 0) pa_nil)))
      (pss_cons (ps_set (i := 2) scBr.nd rfl (Or.inl rfl) (pe_make M_Book G_Book (hr.mono (by decide)) (by rfl) B.mgC b_Book .nil pass0 (pa_cons (pv 1) pa_nil)))
      (pss_cons (ps_par (i := 3) (j := 4) rfl scBr.nd rfl rfl (by decide) rfl rfl (pa_cons (Ka.pe_callK0 G_length_bound (hr.mono (by decide)) (by rfl) C_length_bound.g C_length_bound.kp kb_length_bound pass0 (pk_cons (pv 2) pk_nil)) (pa_cons (pe_call G_lengths (hr.mono (by decide)) (by rfl) C_lengths.g C_lengths.kp C_lengths.b .nil pass0 (pa_cons (pv 2) (pa_cons (pe_call G_plain (hr.mono (by decide)) (by rfl) C_plain.g C_plain.kp C_plain.b .nil pass0 (pa_cons (pv 2) pa_nil)) pa_nil))) pa_nil)) (by rfl))
      (pss_cons (ps_if (pt_cmpR op_ne (pv 3) (pe_call G__law_product (hr.mono (by decide)) (by rfl) C__law_product.g C__law_product.kp C__law_product.b .nil pass0 (pa_cons (pe_lc (own := [("course", 11)]) (g := gName 11) (tt := tYes) rfl scBr.nd (pi_tup (pv 1)) (blkOk_by (own := [("course", 11)]) (N := nBr) (sc := defScope sLawBookRight) (by decide +kernel)) (fun _ _ _ _ _ => (pg_name (i := 11) scBr.nd rfl (Or.inl rfl))) (fun _ _ _ _ _ => pts_nil) (fun _ _ _ _ _ => (pe_ix (ixT_at (K := K) rfl) (pv 11) pe_int (fun _ _ => rfl)))) pa_nil)) (nomark _)) (pss_one (ps_ret pe_bl)) pss_nil)
      (pss_cons (ps_for PassesOwn.never rfl (pi_tup (pv 1)) (pg_tup rfl (pgs_cons (pg_name (i := 5) scBr.nd rfl (Or.inl rfl)) (pgs_cons (pg_name (i := 6) scBr.nd rfl (Or.inl rfl)) (pgs_cons (pg_name (i := 7) scBr.nd rfl (Or.inl rfl)) (pgs_cons (pg_name (i := 8) scBr.nd rfl (Or.inl rfl)) pgs_nil)))))
        (pss_one (ps_for PassesOwn.never rfl (pi_range1 (by rfl) N.range (pa_cons (pv 6) pa_nil)) (pg_name (i := 9) scBr.nd rfl (Or.inl rfl))
          (pss_cons (ps_set (i := 10) scBr.nd rfl (Or.inl rfl) (pe_ifExp (pt_cmpR op_eq (pv 9) pe_int (nomark _)) (pv 3) (pe_op op_mul (pv 3) (pe_op op_sub (pv 6) pe_int))))
          (pss_one (ps_if (PW.pt (pw_and (pt_cmp (pc_din (hu_of hr) (pe_tup (pa_cons (pv 5) (pa_cons (pv 9) pa_nil))) (pv 4))) (pw_and1 (pt_cmpR op_gt (pe_dget (hu_of hr) (pv 4) (pe_tup (pa_cons (pv 5) (pa_cons (pv 9) pa_nil))) (fun _ _ => rfl)) (pv 10) (nomark _))))) (pss_one (ps_ret pe_bl)) pss_nil))))))
      (pss_one (ps_ret pe_bl)))))), ?_⟩
    refine ⟨_, rfl, x, rfl, bx, fun H1 q1 cs k1 b1 n1 hd => ?_⟩
    have ok := hd.ok
    refine ⟨_, rfl, ?_⟩
    intro bk dx nbk ndx nex
    have s8 : Same H1 (upd (upd H1 dx (.own bk)) bk (.ins C dx [])) := fun b o e => by
      rw [upd_ne (ne_of_none e nbk), upd_ne (ne_of_none e ndx)]
      exact e
    have ex : upd (upd H1 dx (.own bk)) bk (.ins C dx []) bk = some (.ins C dx []) := upd_same
    generalize upd (upd H1 dx (.own bk)) bk (.ins C dx []) = HF at s8 ex
    refine ⟨bk, q1, dx, cs, rfl, ex, (hd.at K).mono s8, ok, fun HG kk hBk => ⟨rfl, ?_⟩⟩
    have sG : Same H1 HG := fun b o e => kk _ _ (ne_of_none e nbk) (s8 _ _ e)
    refine ⟨_, rfl, bk, q1, cs, rfl, hBk, ?_⟩
    refine ⟨_, rfl, _, rfl, bk, q1, cs, rfl, hBk, fun H2 qp ds s2 np perm srt pln => ?_⟩
    obtain ⟨kvs, hRd, hvw⟩ := pln_lens (K := K) (cs := cs) pln perm
    refine ⟨bk, q1, qp, cs, kvs, fun _ => 1, rfl, hBk.mono s2, hRd, hvw, fun H3 qt dn dn' s3 nt e3 pdn ksrt S sub => ?_⟩
    have s13 : Same H1 H3 := (sG.trans s2).trans s3
    have hd3 := hd.ts (TS.of s13)
    have hC3 := hd3.at K
    refine ⟨_, _, rfl, ?_⟩
    refine ⟨_, rfl, _, rfl, q1, rfl, ⟨_, hC3.1⟩, fun D nD => ?_⟩
    refine lc_pure (walk_tup (K := K) (a := q1) (xs := cs.map fun c => V.ref c.a)) (natV (cs.map (·.n))) (by rw [natV_len, List.length_map, List.length_map]) nD (fun _ s => Same.sqT s hC3.1) (fun i y H0 H' hi h0 yy => ?_) (fun H4 s4 e4 => ?_)
    · obtain ⟨rfl, hy⟩ := yy
      obtain ⟨c, hc, rfl⟩ := get_map hy
      have n8 := ok.n8
      have hCc := (hC3.2 c (List.mem_of_getElem? hc)).mono h0.1
      refine ⟨rfl, _, rfl, c.a, _, _, .int (c.n : Int), rfl, rfl, hCc.t, rfl, ?_⟩
      refine h0.put nD (fun _ _ e => e) ?_ (by rw [natV_len, List.length_map]; omega)
      unfold natV
      rw [List.getElem?_map, List.getElem?_map, hc]
      rfl
    have n20 : ∀ n ∈ cs.map (·.n), n ≤ 1000 := fun n hn => by
      obtain ⟨c, hc, rfl⟩ := List.mem_map.mp hn
      have := (ok.ok c hc).n1
      omega
    refine ⟨D, cs.map (·.n), rfl, sqL_new e4, n20, ?_⟩
    refine ⟨rfl, _, rfl, iteNo (by simp) ?_⟩
    have s14 := s13.trans s4
    have e4t := s4 _ _ e3
    have hd4 := hd.ts (TS.of s14)
    have hC4 := hd4.at K
    have kH4 : But x H H4 := k1.trans (But.of s14)
    have b4 := b1.mono s14
    have hbound : boundS cs = prodL (cs.map (·.n)) := (prodL_bound cs).symm
    refine ⟨_, rfl, q1, rfl, ⟨_, hC4.1⟩, ?_⟩
    refine for_it (walk_tup (K := K) (a := q1) (xs := cs.map fun c => V.ref c.a)) (fun i σ Z => ∃ (x5 x6 x7 x8 x9 x10 x11 : Option V), σ = [some (.ref x), some (.ref q1), some (.ref bk), some (.int (prodL (cs.map (·.n)) : Int)), some (.ref qt), x5, x6, x7, x8, x9, x10, x11] ∧ Same H4 Z) ⟨_, _, _, _, _, _, _, rfl, fun _ _ e => e⟩ (fun i σ Z _ h => ?_) (fun i y σ Z Z' hi h yy => ?_) (fun σ Z h => ?_)
    · obtain ⟨_, _, _, _, _, _, _, _, sZ⟩ := h
      exact Same.sqT sZ hC4.1
    · obtain ⟨rfl, hy⟩ := yy
      obtain ⟨c, hc, rfl⟩ := get_map hy
      obtain ⟨x5, x6, x7, x8, x9, x10, x11, rfl, sZ⟩ := h
      have mc := List.mem_of_getElem? hc
      have hCc := (hC4.2 c mc).mono sZ
      have okc := ok.ok c mc
      have n1 := okc.n1
      refine ⟨c.a, _, rfl, hCc.t, rfl, _, _, rfl, _, _, rfl, _, _, rfl, _, _, rfl, rfl, ?_⟩
      refine ⟨_, rfl, _, rfl, by omega, by omega, ?_⟩
      have en : ((c.n : Int)).toNat = c.n := by omega
      rw [en]
      refine for_it (walk_r0 (n := c.n)) (fun j σ Y => ∃ (x9 x10 x11 : Option V), σ = [some (.ref x), some (.ref q1), some (.ref bk), some (.int (prodL (cs.map (·.n)) : Int)), some (.ref qt), some (.str c.nm), some (.int (c.n : Int)), some (.ref c.ea), some (.ref c.sa), x9, x10, x11] ∧ Same H4 Y) ⟨_, _, _, rfl, sZ⟩ (fun _ _ _ _ _ => True.intro) (fun j y σ Y Y' hj h yy => ?_) (fun σ Y h => ?_)
      · obtain ⟨rfl, rfl⟩ := yy
        obtain ⟨x9, x10, x11, rfl, sY⟩ := h
        refine ⟨_, rfl, rfl, _, rfl, ite2 (fun c0 => ?_) (fun c0 => ?_)⟩
        · have j0 : j = 0 := by
            have := of_decide_eq_true c0
            injection this with this
            omega
          refine ⟨_, rfl, ?_⟩
          have hm : (Kz.vf dn' (c.nm, j)).1 ≤ boundS cs ∨ (c.nm, j) ∉ Kz.keys dn' := by
            by_cases h : (c.nm, j) ∈ Kz.keys dn
            · rw [vf_perm pdn S.nd h]
              have := height_all ok (fun _ _ => Nat.le_refl 1) S sub mc h
              left
              rwa [if_pos j0] at this
            · exact .inr fun z => h ((keys_perm pdn).mem_iff.mp z)
          refine ⟨_, rfl, _, rfl, smallE (by show 2 ≤ 1000000; decide), fun t nt => ?_⟩
          have st := same_new (o := .tup [V.str c.nm, V.int (j : Int)]) nt
          have et : upd Y' t (.tup [V.str c.nm, V.int (j : Int)]) t = some (.tup ((stK (c.nm, j)).map kV)) := upd_same
          have sY1 := sY.trans st
          generalize upd Y' t (.tup [V.str c.nm, V.int (j : Int)]) = Y1 at st et sY1
          refine ⟨_, rfl, qt, _, rfl, DGet.t (sY1 _ _ e4t) et, ?_⟩
          dsimp only
          rw [valV_lw]
          by_cases hin : (c.nm, j) ∈ Kz.keys dn'
          · rw [if_pos hin]
            refine ⟨_, rfl, iteYes rfl ?_⟩
            refine ⟨_, rfl, _, rfl, _, rfl, smallE (by show 2 ≤ 1000000; decide), fun t2 nt2 => ?_⟩
            have st2 := same_new (o := .tup [V.str c.nm, V.int (j : Int)]) nt2
            have et2 : upd Y1 t2 (.tup [V.str c.nm, V.int (j : Int)]) t2 = some (.tup ((stK (c.nm, j)).map kV)) := upd_same
            have sY2 := sY1.trans st2
            generalize upd Y1 t2 (.tup [V.str c.nm, V.int (j : Int)]) = Y2 at st2 et2 sY2
            have g := DGet.t (sY2 _ _ e4t) et2
            rw [valV_lw, if_pos hin] at g
            have hm := hm.resolve_right fun z => z hin
            refine ⟨qt, _, rfl, g, _, rfl, _, _, rfl, rfl, _, rfl, iteNo (decide_eq_false ?_) ?_⟩
            · rw [← hbound]
              omega
            · exact ⟨_, _, _, rfl, sY2⟩
          · rw [if_neg hin]
            refine ⟨_, rfl, iteNo rfl (iteNo rfl ?_)⟩
            exact ⟨_, _, _, rfl, sY1⟩
        · have j0 : ¬ j = 0 := fun z => c0 (by rw [z]; rfl)
          refine ⟨_, rfl, _, rfl, _, _, rfl, rfl, _, _, rfl, rfl, .inr ⟨by show -(2 ^ 64) < (c.n : Int) - 1; omega, by show (c.n : Int) - 1 < 2 ^ 64; omega⟩, ?_⟩
          have hm : (Kz.vf dn' (c.nm, j)).1 ≤ boundS cs * (c.n - 1) ∨ (c.nm, j) ∉ Kz.keys dn' := by
            by_cases h : (c.nm, j) ∈ Kz.keys dn
            · rw [vf_perm pdn S.nd h]
              have := height_all ok (fun _ _ => Nat.le_refl 1) S sub mc h
              left
              rwa [if_neg j0] at this
            · exact .inr fun z => h ((keys_perm pdn).mem_iff.mp z)
          refine ⟨_, rfl, _, rfl, smallE (by show 2 ≤ 1000000; decide), fun t nt => ?_⟩
          have st := same_new (o := .tup [V.str c.nm, V.int (j : Int)]) nt
          have et : upd Y' t (.tup [V.str c.nm, V.int (j : Int)]) t = some (.tup ((stK (c.nm, j)).map kV)) := upd_same
          have sY1 := sY.trans st
          generalize upd Y' t (.tup [V.str c.nm, V.int (j : Int)]) = Y1 at st et sY1
          refine ⟨_, rfl, qt, _, rfl, DGet.t (sY1 _ _ e4t) et, ?_⟩
          dsimp only
          rw [valV_lw]
          by_cases hin : (c.nm, j) ∈ Kz.keys dn'
          · rw [if_pos hin]
            refine ⟨_, rfl, iteYes rfl ?_⟩
            refine ⟨_, rfl, _, rfl, _, rfl, smallE (by show 2 ≤ 1000000; decide), fun t2 nt2 => ?_⟩
            have st2 := same_new (o := .tup [V.str c.nm, V.int (j : Int)]) nt2
            have et2 : upd Y1 t2 (.tup [V.str c.nm, V.int (j : Int)]) t2 = some (.tup ((stK (c.nm, j)).map kV)) := upd_same
            have sY2 := sY1.trans st2
            generalize upd Y1 t2 (.tup [V.str c.nm, V.int (j : Int)]) = Y2 at st2 et2 sY2
            have g := DGet.t (sY2 _ _ e4t) et2
            rw [valV_lw, if_pos hin] at g
            have hm := hm.resolve_right fun z => z hin
            refine ⟨qt, _, rfl, g, _, rfl, _, _, rfl, rfl, _, rfl, iteNo (decide_eq_false ?_) ?_⟩
            · show ¬ ((prodL (cs.map (·.n)) : Int) * ((c.n : Int) - 1) < _)
              have e5 : (prodL (cs.map (·.n)) : Int) * ((c.n : Int) - 1) = ((boundS cs * (c.n - 1) : Nat) : Int) := by
                rw [hbound, Int.natCast_mul]
                congr 1
                have := okc.n0
                omega
              rw [e5]
              omega
            · exact ⟨_, _, _, rfl, sY2⟩
          · rw [if_neg hin]
            refine ⟨_, rfl, iteNo rfl (iteNo rfl ?_)⟩
            exact ⟨_, _, _, rfl, sY1⟩
      · obtain ⟨x9, x10, x11, rfl, sY⟩ := h
        exact ⟨_, _, _, _, _, _, _, rfl, sY⟩
    · obtain ⟨_, _, _, _, _, _, _, rfl, sZ⟩ := h
      exact q Z (kH4.trans (But.of sZ)) (b4.mono sZ)
end
end Kb
namespace Kb
open PySem PySem.Spec PyProof.Rows L2
/-! ### the error Refused -/
section
variable {P : Program} {w : World} {K : PySem.W.Frag} {mg : Str → Option Value} {base : Heap}
/-- what the written part says of the class -/
structure RefC (K : PySem.W.Frag) (mg : Str → Option Value) (C fI : Addr) (fd : FuncData) : Prop where
  oex : OexC K C
  iC : PySem.W.findIn K (.ref C) "__init__" = some (some (.ref fI))
  tI : PySem.W.typeIn K (.ref fI) = some (.type "function")
  no : PySem.W.findIn K (.ref C) "word" = some none
  gC : mg "Refused" = some (.ref C)
  F : Fun K "__init__" "Refused.__init__" sRefusedInit fI fd
  b : Binds K fd ["self", "word"] []
theorem scRInit : FnScope ["self", "word"] ["self", "word"] (defScope sRefusedInit) := ⟨rfl, rfl, rfl, by decide +kernel, rfl, by decide +kernel, by decide +kernel⟩
def spRInit (C : Addr) : Sp := fun vs H Q _ => ∃ (a : Addr) (v : V), vs = [.ref a, v] ∧ H a = some (exo a C none) ∧ ∀ dx, H dx = none → dx ≠ a → Q .non (upd (upd H dx (exd dx [("word", v)])) a (exo a C (some dx)))
theorem ok_rinit {C f : Addr} {fd : FuncData} (R : RefC K mg C f fd) : FnOk P w K mg base CX0 1 f fd ["self", "word"] (spRInit C) := by
  refine R.F.ok scRInit (fun vs H Q E h => ?_) (fun cdv A outer s H vs Q E hr h => ?_)
  · obtain ⟨a, v, rfl, _⟩ := h
    rfl
  · obtain ⟨a, v, rfl, e, q⟩ := h
    refine ⟨_, pss_one (ps_ost (pv 0) (pv 1)), ?_⟩
    exact ⟨v, rfl, .ref a, rfl, a, C, rfl, R.oex, R.no, .inl ⟨e, fun dx n1 n2 => q dx n1 n2⟩⟩
/-- the error Refused(z) -/
def RefuseW (C : Addr) (E : XK) (H : Hp) (z : Str) : Prop := ∀ H' d, Same H H' → H d = none → H' d = some (.xd [("word", .str z)]) → E (.ref C) (some d) H'
theorem RefuseW.mono {C : Addr} {E : XK} {H H1 : Hp} {z : Str} (h : RefuseW C E H z) (s : Same H H1) : RefuseW C E H1 z := fun H' d s2 nd e => h H' d (s.trans s2) (s.free nd) e
theorem refuseW_mk {C : Addr} {E : XK} {H : Hp} {z : Str} (h : RefuseW C E H z) : [V.str z].length ≤ 1000 ∧ ∀ a, H a = none → spRInit C (.ref a :: ([.str z] ++ [])) (upd H a (exo a C none))
    (fun v H2 => v = .non ∧ ∃ (d : Addr) (fs : List (Str × V)), H2 a = some (exo a C (some d)) ∧ H2 d = some (exd d fs) ∧ H d = none ∧ E (.ref C) (some d) (upd (del H2 a) d (.xd fs))) (fun _ _ _ => False) := by
  refine ⟨by show 1 ≤ 1000; decide, fun a na => ⟨a, .str z, rfl, upd_same, fun dx n1 n2 => ?_⟩⟩
  have n1' : H dx = none := by
    rw [upd_ne n2] at n1
    exact n1
  refine ⟨rfl, dx, [("word", .str z)], upd_same, ?_, n1', h _ dx (fun c o e => ?_) n1' upd_same⟩
  · rw [upd_ne n2, upd_same]
  · have ca : c ≠ a := ne_of_none e na
    have cd : c ≠ dx := ne_of_none e n1'
    rw [upd_ne cd, del_ne ca, upd_ne ca, upd_ne cd, upd_ne ca]
    exact e
end
end Kb
/-! sum(t), t a tuple of numbers. -/
namespace Ka
open PySem PySem.Spec PyProof.Rows L2
section
variable {P : Program} {w : World} {A : Around} {E : Value → Shared → Prop} {s : Shared}
theorem sum_tup {l : Addr} {its : Array Value} {val : Nat → Int} {Q : Value → Shared → Prop} (cold : A.handled = none) (tl : s.heap.IsTuple l its) (hv : ∀ (i : Nat) (v : Value), its[i]? = some v → ∃ t, v = Value.int (val i) t)
    (fin : ∀ (h2 : Heap) (tk : Nat) (t' : Tok), (∀ b o, s.heap.get? b = some o → h2.get? b = some o) → Q (.int (preSum val its.size) t') { s with heap := h2, toks := tk }) :
    wpAny (model P w) A (call (.builtin "sum") [.ref l]) Q E s := by
  have lt0 : l < s.heap.objs.size := by
    obtain ⟨o, ho, _⟩ := tl
    exact Heap.lt_size ho
  have cold1 : A.in1.handled = none := by simp [cold]
  refine call_sum_walkAnyS ?_
  refine wpAny_pyIter_tuple tl ?_
  refine ⟨_, _, _, _, _, _, _, _, rfl, (Walks.tuple cold1 _ l (Nat.ne_of_lt lt0) its).toS, ⟨⟨_, Heap.get?_push_size _ rfl, rfl, rfl⟩, tl.push _⟩, fun b hb => ?_, hv, fun s' t' mv => ?_⟩
  · show b < (s.heap.push _).objs.size
    rw [Heap.size_push]
    rcases List.mem_cons.mp hb with rfl | hb
    · exact Nat.lt_succ_self _
    · rw [List.mem_singleton.mp hb]
      exact Nat.lt_succ_of_lt lt0
  · obtain ⟨h2, g2, d2, tk2, o2⟩ := s'
    obtain rfl : g2 = s.gens := mv.gens
    obtain rfl : d2 = s.drawn := mv.drawn
    obtain rfl : o2 = s.os := mv.os
    refine fin h2 tk2 t' fun b o e => ?_
    have lt := Heap.lt_size e
    refine mv.heap b o (fun z => ?_) (Heap.get?_push_of_some _ e)
    rw [List.mem_singleton.mp z] at lt
    exact Nat.lt_irrefl _ lt
end
def rSumT (K : PySem.W.Frag) : List V → Hp → VK → Prop := fun vs H Q => ∃ (a : Addr) (ns : List Int), vs = [V.ref a] ∧ SqT K H a (ns.map V.int) ∧ Q (.int (preSum (fun i => ns.getD i 0) ns.length)) H
theorem cr_sumT {X : Cx} (hc : X.calm = true) : CallR X (.builtin "sum") (rSumT X.K) := by
  intro pins s σ H vs us Q I r h
  obtain ⟨a, ns, rfl, hs, q⟩ := h
  rw [Vals.ref1 r]
  obtain ⟨its, rv, ht, _⟩ := I.tuple hs
  have hl := rv.length
  rw [List.length_map] at hl
  obtain ⟨o, ho, hc', n, hd⟩ := ht
  refine sum_tup (val := fun i => ns.getD i 0) (I.ok.hd hc) ⟨o, ho, hc', n, hd⟩ (fun i v hv => ?_) fun h2 tk t' k => ?_
  · have hv : its[i]? = some v := by
      rw [← hv]
      simp
    have hi : i < ns.length := by
      rw [hl]
      exact (List.getElem?_eq_some_iff.mp hv).1
    obtain ⟨u, hu, ru⟩ := rv.get (i := i) (x := .int ns[i]) (by rw [List.getElem?_map, List.getElem?_eq_getElem hi]; rfl)
    rw [hv] at hu
    obtain rfl := Option.some.inj hu
    obtain ⟨t, rfl⟩ := ru
    refine ⟨t, ?_⟩
    show _ = Value.int (ns.getD i 0) t
    rw [List.getD_eq_getElem?_getD, List.getElem?_eq_getElem hi]
    rfl
  · have e : its.toArray.size = ns.length := by
      rw [List.size_toArray]
      exact hl.symm
    rw [e]
    exact ⟨.int _, H, I.kept (t' := tk) k, ⟨t', rfl⟩, q⟩
end Ka
namespace Kb
open PySem PySem.Spec PyProof.Rows L2
/-! ### line: a course of the tallest book -/
def namesL : List Str := ["a", "b", "c", "d", "e", "f", "g", "h"]
def lineStp (l : List Nat) (i j : Nat) : Stp := if i + 1 = l.length then ⟨j, false, "x", j + 1⟩ else ⟨j, true, namesL.getD (i + 1) "", j + 1⟩
def lineSteps (l : List Nat) (i : Nat) : List Stp := (List.range (l.getD i 0 - 1)).map (lineStp l i)
structure LineC (l : List Nat) (i : Nat) (c : CA) : Prop where
  nm : c.nm = namesL.getD i ""
  n : c.n = l.getD i 0
  es : c.es = [l.getD i 0 - 1]
  ss : c.ss.map (·.2) = lineSteps l i
def Fits (l : List Nat) : Prop := 1 ≤ l.length ∧ l.length ≤ 8 ∧ l.sum ≤ 60 ∧ ∀ n ∈ l, 2 ≤ n ∧ n ≤ 20
theorem Fits.at {l : List Nat} (h : Fits l) {i : Nat} (hi : i < l.length) : l[i]? = some (l.getD i 0) ∧ 2 ≤ l.getD i 0 ∧ l.getD i 0 ≤ 20 := by
  have e : l[i]? = some (l.getD i 0) := by
    rw [List.getD_eq_getElem?_getD, List.getElem?_eq_getElem hi]
    rfl
  exact ⟨e, h.2.2.2 _ (List.mem_of_getElem? e)⟩
theorem names_at {i : Nat} (h : i < 8) : namesL[i]? = some (namesL.getD i "") := by
  rw [List.getD_eq_getElem?_getD, List.getElem?_eq_getElem (show i < namesL.length from h)]
  rfl
theorem namesV_at {i : Nat} (h : i < 8) : (namesL.map V.str)[i]? = some (V.str (namesL.getD i "")) := by rw [List.getElem?_map, names_at h]; rfl
section
variable {P : Program} {w : World} {K : PySem.W.Frag} {mg : Str → Option Value} {base : Heap}
abbrev NamesG (K : PySem.W.Frag) (mg : Str → Option Value) (aN : Addr) : Prop := mg "NAMES" = some (.ref aN) ∧ KTup K aN (namesL.map V.str)
def spLine (K : PySem.W.Frag) : Sp := fun vs H Q _ => ∃ (a : Addr) (l : List Nat) (i : Nat), vs = [.int (i : Int), .ref a] ∧ SqT K H a (natV l) ∧ Fits l ∧ i < l.length ∧ ∀ H' q c, Same H H' → H q = none → c.a = q → DrawC H' c → LineC l i c → Q (.ref q) H'
abbrev nLn : List Str := ["at", "counts", "last", "steps", "number"]
theorem scLn : FnScope nLn ["at", "counts"] (defScope sLine) := ⟨rfl, rfl, rfl, by decide +kernel, rfl, by decide +kernel, by decide +kernel⟩
theorem ok_line {f aN : Addr} {fd : FuncData} (F : Fun K "line" "line" sLine f fd) (N : Nones mg) (g_N : NamesG K mg aN) : FnOk P w K mg base CX0 1 f fd ["at", "counts"] (spLine K) := by
  obtain ⟨gN, kN⟩ := g_N
  refine F.ok scLn (fun vs H Q E h => ?_) (fun cdv A outer s0 H vs Q E hr h => ?_)
  · obtain ⟨a, l, i, rfl, _⟩ := h
    rfl
  · obtain ⟨a, l, i, rfl, hA, ft, hi, q⟩ := h
    obtain ⟨hn, n2, n20⟩ := ft.at hi
    obtain ⟨l1, l8, _⟩ := id ft
    refine split_tail (fun σ Z => σ = [some (.int (i : Int)), some (.ref a), some (.int ((l.getD i 0 - 1 : Nat) : Int)), none, none] ∧ Z = H) ?_ ?_
    · refine split_next _ (fun σ Z => ∃ (D : Addr) (L : List (Addr × Stp)), σ = [some (.int (i : Int)), some (.ref a), some (.int ((l.getD i 0 - 1 : Nat) : Int)), some (.ref D), none] ∧ Same H Z ∧ H D = none ∧ Z D = some (.lst (L.map fun p => V.ref p.1)) ∧ L.map (·.2) = lineSteps l i ∧ ∀ p ∈ L, Z p.1 = some (.tup (stpV p.2))) ?_ ?_
      · refine ⟨_, pss_one (ps_ret (pe_tup (pa_cons (pe_ix ix_tup (pe_glob (v := .ref aN) rfl gN rfl) (pv 0) (fun _ _ => rfl)) (pa_cons (pe_ix ix_tup (pv 1) (pv 0) (fun _ _ => rfl)) (pa_cons (pe_tup (pa_cons (pv 2) pa_nil)) (pa_cons (pe_callTy call_tuple_of (by rfl) N.tuple (by decide +kernel) (pa_cons (pv 3) pa_nil)) pa_nil)))))), fun σ Z h => ?_⟩
        obtain ⟨D, L, rfl, sZ, nD, eD, kL, tL⟩ := h
        refine ⟨_, rfl, aN, _, _, V.str (namesL.getD i ""), rfl, rfl, .inr kN, atI_nat (namesV_at (by omega)), _, rfl, _, rfl, a, _, _, V.int (l.getD i 0 : Int), rfl, rfl, Same.sqT sZ hA, atI_nat (natV_get hn), _, rfl, smallE (by show 1 ≤ 1000000; decide), fun te nte => ?_⟩
        have se := same_new (o := .tup [V.int ((l.getD i 0 - 1 : Nat) : Int)]) nte
        have ee : upd Z te (.tup [V.int ((l.getD i 0 - 1 : Nat) : Int)]) te = some (.tup (natV [l.getD i 0 - 1])) := upd_same
        have eD := se _ _ eD
        have tL : ∀ p ∈ L, upd Z te (.tup [V.int ((l.getD i 0 - 1 : Nat) : Int)]) p.1 = some (.tup (stpV p.2)) := fun p hp => se _ _ (tL p hp)
        have sZ := sZ.trans se
        generalize upd Z te (.tup [V.int ((l.getD i 0 - 1 : Nat) : Int)]) = Z1 at se ee eD tL sZ
        refine ⟨_, rfl, D, _, rfl, .inl ⟨sqL_new eD, fun ts nts => ?_⟩⟩
        have ss := same_new (o := .tup (L.map fun p => V.ref p.1)) nts
        have es : upd Z1 ts (.tup (L.map fun p => V.ref p.1)) ts = some (.tup (L.map fun p => V.ref p.1)) := upd_same
        have ee := ss _ _ ee
        have tL : ∀ p ∈ L, upd Z1 ts (.tup (L.map fun p => V.ref p.1)) p.1 = some (.tup (stpV p.2)) := fun p hp => ss _ _ (tL p hp)
        have sZ := sZ.trans ss
        generalize upd Z1 ts (.tup (L.map fun p => V.ref p.1)) = Z2 at ss es ee tL sZ
        refine ⟨smallE (by show 4 ≤ 1000000; decide), fun qq nqq => ?_⟩
        have sq := same_new (o := .tup [V.str (namesL.getD i ""), V.int (l.getD i 0 : Int), V.ref te, V.ref ts]) nqq
        exact q _ qq ⟨qq, namesL.getD i "", l.getD i 0, te, [l.getD i 0 - 1], ts, L⟩ (sZ.trans sq) (sZ.free nqq) rfl ⟨upd_same, sq _ _ ee, sq _ _ es, fun p hp => sq _ _ (tL p hp)⟩ ⟨rfl, rfl, rfl, kL⟩
      · refine ⟨_, (ps_if (pt_cmpR op_eq (pv 0) (pe_op op_sub (pe_callB call_len_seq (by rfl) N.len PySem.boot_len (pa_cons (pv 1) pa_nil)) pe_int) (nomark _)) (pss_one (ps_setLc (i := 3) (own := [("number", 4)]) (g := gName 4) (tt := tYes) rfl scLn.nd rfl rfl (sw_true rfl rfl rfl rfl) (pi_range1 (by rfl) N.range (pa_cons (pv 2) pa_nil)) (blkOk_by (own := [("number", 4)]) (N := nLn) (sc := defScope sLine) (by decide +kernel)) (fun _ _ _ _ _ => (pg_name (i := 4) scLn.nd rfl (Or.inl rfl))) (fun _ _ _ _ _ => pts_nil) (fun _ _ _ _ _ => (pe_tup (pa_cons (pv 4) (pa_cons pe_str (pa_cons pe_str (pa_cons (pe_op op_add (pv 4) pe_int) pa_nil)))))))) (pss_one (ps_setLc (i := 3) (own := [("number", 4)]) (g := gName 4) (tt := tYes) rfl scLn.nd rfl rfl (sw_true rfl rfl rfl rfl) (pi_range1 (by rfl) N.range (pa_cons (pv 2) pa_nil)) (blkOk_by (own := [("number", 4)]) (N := nLn) (sc := defScope sLine) (by decide +kernel)) (fun _ _ _ _ _ => (pg_name (i := 4) scLn.nd rfl (Or.inl rfl))) (fun _ _ _ _ _ => pts_nil) (fun _ _ _ _ _ => (pe_tup (pa_cons (pv 4) (pa_cons pe_str (pa_cons (pe_ix (ixT_at (K := K) rfl) (pe_glob (v := .ref aN) rfl gN rfl) (pe_op op_add (pv 0) pe_int) (fun _ _ => rfl)) (pa_cons (pe_op op_add (pv 4) pe_int) pa_nil))))))))), fun N' hN σ Z h => ?_⟩
        obtain ⟨rfl, rfl⟩ := h
        have step : ∀ {c : Bool} {nm : Str} {Z : Hp} {D : Addr} {L : List (Addr × Stp)} {j : Nat} {G' : Hp} {t : Addr}, Z D = none → j < l.getD i 0 - 1 → (lineStp l i j = ⟨j, c, nm, j + 1⟩) → Same Z G' ∧ G' D = some (.lst (L.map fun p => V.ref p.1)) ∧ L.map (·.2) = (lineSteps l i).take j ∧ (∀ p ∈ L, G' p.1 = some (.tup (stpV p.2))) → G' t = none → ∃ acc, upd G' t (.tup [.int (j : Int), .str (kindS c), .str nm, .int ((j : Int) + 1)]) D = some (.lst acc) ∧ acc.length < sizeLine ∧ ∃ L' : List (Addr × Stp), Same Z (upd (upd G' t (.tup [.int (j : Int), .str (kindS c), .str nm, .int ((j : Int) + 1)])) D (.lst (acc ++ [.ref t]))) ∧ upd (upd G' t (.tup [.int (j : Int), .str (kindS c), .str nm, .int ((j : Int) + 1)])) D (.lst (acc ++ [.ref t])) D = some (.lst (L'.map fun p => V.ref p.1)) ∧ L'.map (·.2) = (lineSteps l i).take (j + 1) ∧ ∀ p ∈ L', upd (upd G' t (.tup [.int (j : Int), .str (kindS c), .str nm, .int ((j : Int) + 1)])) D (.lst (acc ++ [.ref t])) p.1 = some (.tup (stpV p.2)) := fun {c nm Z D L j G' t} nD hj es ⟨sG, eD, kL, tL⟩ nt => by
          have st := same_new (o := .tup [V.int (j : Int), V.str (kindS c), V.str nm, V.int ((j : Int) + 1)]) nt
          have et : upd G' t (.tup [V.int (j : Int), V.str (kindS c), V.str nm, V.int ((j : Int) + 1)]) t = some (.tup (stpV ⟨j, c, nm, j + 1⟩)) := upd_same
          have eD := st _ _ eD
          have tL : ∀ p ∈ L, upd G' t (.tup [V.int (j : Int), V.str (kindS c), V.str nm, V.int ((j : Int) + 1)]) p.1 = some (.tup (stpV p.2)) := fun p hp => st _ _ (tL p hp)
          have sG := sG.trans st
          generalize upd G' t (.tup [V.int (j : Int), V.str (kindS c), V.str nm, V.int ((j : Int) + 1)]) = G2 at st et eD tL sG
          have lL : L.length ≤ 20 := by
            have := congrArg List.length kL
            rw [List.length_map, List.length_take] at this
            omega
          have tk : TS G2 (upd G2 D (.lst ((L.map fun p => V.ref p.1) ++ [.ref t]))) := fun c xs e => by
            rw [upd_ne]
            · exact e
            · intro z
              rw [z, eD] at e
              cases e
          have hs : (lineSteps l i)[j]? = some ⟨j, c, nm, j + 1⟩ := by
            unfold lineSteps
            rw [List.getElem?_map, List.getElem?_range hj, ← es]
            rfl
          refine ⟨_, eD, by rw [List.length_map]; exact small (by omega), L ++ [(t, ⟨j, c, nm, j + 1⟩)], fun b o e => ?_, ?_, ?_, fun p hp => ?_⟩
          · rw [upd_ne (ne_of_none e nD)]
            exact sG _ _ e
          · rw [upd_same, List.map_append]
            rfl
          · rw [List.map_append, kL, take_of_get hs]
            rfl
          · rcases List.mem_append.mp hp with z | z
            · exact tk _ _ (tL p z)
            · rw [List.mem_singleton.mp z]
              exact tk _ _ et
        have len : (lineSteps l i).length = l.getD i 0 - 1 := by
          unfold lineSteps
          rw [List.length_map, List.length_range]
        refine ⟨_, rfl, _, rfl, a, _, rfl, .inr hA, _, _, rfl, rfl, rfl, _, rfl, ite2 (fun c0 => ?_) (fun c0 => ?_)⟩
        · have hl : i + 1 = l.length := by
            have := of_decide_eq_true c0
            injection this with this
            rw [natV_len] at this
            omega
          have es : ∀ j, lineStp l i j = ⟨j, false, "x", j + 1⟩ := fun j => if_pos hl
          refine ⟨_, rfl, _, rfl, by omega, by omega, fun D nD => ?_⟩
          rw [show (((l.getD i 0 - 1 : Nat) : Int)).toNat = l.getD i 0 - 1 by omega]
          refine lc_it (walk_r0 (n := l.getD i 0 - 1)) (fun j G => ∃ L : List (Addr × Stp), Same Z G ∧ G D = some (.lst (L.map fun p => V.ref p.1)) ∧ L.map (·.2) = (lineSteps l i).take j ∧ ∀ p ∈ L, G p.1 = some (.tup (stpV p.2))) ⟨[], same_new nD, upd_same, rfl, fun p hp => nomatch hp⟩ (fun _ _ _ _ => True.intro) (fun j x G G' hj h y => ?_) (fun G h => ?_)
          · obtain ⟨rfl, rfl⟩ := y
            obtain ⟨L, h⟩ := h
            refine ⟨rfl, _, rfl, _, rfl, _, _, rfl, rfl, smallE (by show 4 ≤ 1000000; decide), fun t nt => ?_⟩
            exact step nD hj (es j) h nt
          · obtain ⟨L, sG, eD, kL, tL⟩ := h
            rw [← len, List.take_length] at kL
            exact hN _ _ ⟨D, L, rfl, sG, nD, eD, kL, tL⟩
        · have hl : ¬ i + 1 = l.length := fun z => c0 (decide_eq_true (by
            congr 1
            rw [natV_len]
            omega))
          have es : ∀ j, lineStp l i j = ⟨j, true, namesL.getD (i + 1) "", j + 1⟩ := fun j => if_neg hl
          refine ⟨_, rfl, _, rfl, by omega, by omega, fun D nD => ?_⟩
          rw [show (((l.getD i 0 - 1 : Nat) : Int)).toNat = l.getD i 0 - 1 by omega]
          refine lc_it (walk_r0 (n := l.getD i 0 - 1)) (fun j G => ∃ L : List (Addr × Stp), Same Z G ∧ G D = some (.lst (L.map fun p => V.ref p.1)) ∧ L.map (·.2) = (lineSteps l i).take j ∧ ∀ p ∈ L, G p.1 = some (.tup (stpV p.2))) ⟨[], same_new nD, upd_same, rfl, fun p hp => nomatch hp⟩ (fun _ _ _ _ => True.intro) (fun j x G G' hj h y => ?_) (fun G h => ?_)
          · obtain ⟨rfl, rfl⟩ := y
            obtain ⟨L, h⟩ := h
            refine ⟨rfl, _, rfl, _, rfl, _, _, rfl, rfl, aN, _, _, V.str (namesL.getD (i + 1) ""), rfl, rfl, .inr kN, ?_, _, rfl, _, _, rfl, rfl, smallE (by show 4 ≤ 1000000; decide), fun t nt => ?_⟩
            · exact atI_nat (j := i + 1) (namesV_at (by omega))
            · exact step nD hj (es j) h nt
          · obtain ⟨L, sG, eD, kL, tL⟩ := h
            rw [← len, List.take_length] at kL
            exact hN _ _ ⟨D, L, rfl, sG, nD, eD, kL, tL⟩
    · refine ⟨_, ps_set (i := 2) scLn.nd rfl (Or.inl rfl) (pe_op op_sub (pe_ix ix_tup (pv 1) (pv 0) (fun _ _ => rfl)) pe_int), fun N' hN => ?_⟩
      refine ⟨_, rfl, _, rfl, a, _, _, V.int (l.getD i 0 : Int), rfl, rfl, hA, atI_nat (natV_get hn), _, _, rfl, rfl, hN _ _ ⟨?_, rfl⟩⟩
      have : (l.getD i 0 : Int) - 1 = ((l.getD i 0 - 1 : Nat) : Int) := by omega
      rw [← this]
      rfl
end
end Kb
namespace Kb
open PySem PySem.Spec PyProof.Rows L2
/-! ### tallest -/
theorem namesL_ok : ∀ d ∈ namesL, isName d = true := by decide +kernel
theorem namesL_nd : namesL.Nodup := by decide +kernel
theorem preSum_nat (l : List Nat) : PySem.preSum (fun i => (l.map fun n : Nat => (n : Int)).getD i 0) (l.map fun n : Nat => (n : Int)).length = (l.sum : Int) := by
  have : ∀ k, k ≤ l.length → PySem.preSum (fun i => (l.map fun n : Nat => (n : Int)).getD i 0) k = ((l.take k).sum : Int) := by
    intro k
    induction k with
    | zero => intro _; rfl
    | succ k ih =>
      intro hk
      have hg : l[k]? = some (l[k]'(by omega)) := List.getElem?_eq_getElem _
      have e : PySem.preSum (fun i => (l.map fun n : Nat => (n : Int)).getD i 0) (k + 1) = PySem.preSum (fun i => (l.map fun n : Nat => (n : Int)).getD i 0) k + (l.map fun n : Nat => (n : Int)).getD k 0 := rfl
      have e2 : (l.take (k + 1)).sum = (l.take k).sum + l[k]'(by omega) := by rw [take_of_get hg, List.sum_append, List.sum_singleton]
      rw [e, ih (by omega), e2, Int.natCast_add]
      congr 1
      rw [List.getD_eq_getElem?_getD, List.getElem?_map, hg]
      rfl
  rw [List.length_map, this _ (Nat.le_refl _), List.take_length]
structure TallC (H : Hp) (q : Addr) (l : List Nat) (cs : List CA) : Prop where
  t : H q = some (.tup (cs.map fun c => V.ref c.a))
  c : ∀ c ∈ cs, DrawC H c
  len : cs.length = l.length
  ln : ∀ (i : Nat) (c : CA), cs[i]? = some c → LineC l i c
theorem TallC.ts {H H' : Hp} {q : Addr} {l : List Nat} {cs : List CA} (s : TS H H') (h : TallC H q l cs) : TallC H' q l cs := ⟨s _ _ h.t, fun c hc => (h.c c hc).ts s, h.len, h.ln⟩
theorem TallC.at (K : PySem.W.Frag) {H : Hp} {q : Addr} {l : List Nat} {cs : List CA} (h : TallC H q l cs) : CsAt K H q cs := ⟨sqT_new h.t, fun c hc => (h.c c hc).at K⟩
theorem TallC.nms {H : Hp} {q : Addr} {l : List Nat} {cs : List CA} (ft : Fits l) (h : TallC H q l cs) : cs.map (·.nm) = namesL.take l.length := by
  have l8 := ft.2.1
  have h8 : namesL.length = 8 := rfl
  refine List.ext_getElem? fun i => ?_
  rw [List.getElem?_map]
  by_cases hi : i < cs.length
  · have hc : cs[i]? = some (cs[i]'hi) := List.getElem?_eq_getElem _
    rw [hc, List.getElem?_take_of_lt (by rw [← h.len]; exact hi), names_at (by have := h.len; omega)]
    show some (cs[i]'hi).nm = _
    rw [(h.ln i _ hc).nm]
  · rw [List.getElem?_eq_none (by omega), List.getElem?_eq_none (by rw [List.length_take]; have := h.len; omega)]
    rfl
theorem TallC.ns {H : Hp} {q : Addr} {l : List Nat} {cs : List CA} (ft : Fits l) (h : TallC H q l cs) : cs.map (·.n) = l := by
  refine List.ext_getElem? fun i => ?_
  rw [List.getElem?_map]
  by_cases hi : i < cs.length
  · have hc : cs[i]? = some (cs[i]'hi) := List.getElem?_eq_getElem _
    rw [hc, (ft.at (i := i) (by rw [← h.len]; exact hi)).1]
    show some (cs[i]'hi).n = _
    rw [(h.ln i _ hc).n]
  · rw [List.getElem?_eq_none (by omega), List.getElem?_eq_none (by rw [← h.len]; omega)]
    rfl
theorem line_mem {l : List Nat} {i : Nat} {c : CA} (h : LineC l i c) {p : Addr × Stp} (hp : p ∈ c.ss) : ∃ j, j < l.getD i 0 - 1 ∧ p.2 = lineStp l i j := by
  have : p.2 ∈ lineSteps l i := by
    rw [← h.ss]
    exact List.mem_map.mpr ⟨p, hp, rfl⟩
  obtain ⟨j, hj, e⟩ := List.mem_map.mp this
  exact ⟨j, List.mem_range.mp hj, e.symm⟩
theorem lineStp_n (l : List Nat) (i j : Nat) : (lineStp l i j).n = j ∧ (lineStp l i j).o = j + 1 := by
  unfold lineStp
  split <;> exact ⟨rfl, rfl⟩
theorem line_len {l : List Nat} {i : Nat} {c : CA} (h : LineC l i c) : c.ss.length = l.getD i 0 - 1 := by
  have := congrArg List.length h.ss
  unfold lineSteps at this
  rwa [List.length_map, List.length_map, List.length_range] at this
theorem csOk_tall {H : Hp} {q : Addr} {l : List Nat} {cs : List CA} (ft : Fits l) (h : TallC H q l cs) : CsOk cs := by
  obtain ⟨l1, l8, s60, n20⟩ := id ft
  have hl := h.len
  have idx : ∀ c ∈ cs, ∃ i, i < l.length ∧ cs[i]? = some c := fun c hc => by
    obtain ⟨i, hi⟩ := List.getElem?_of_mem hc
    exact ⟨i, by rw [← hl]; exact lt_of_get hi, hi⟩
  have nmi : ∀ {i}, i < 8 → isName (namesL.getD i "") = true := fun hi => namesL_ok _ (List.mem_of_getElem? (names_at hi))
  refine ⟨by omega, fun z => by rw [z] at hl; have : (0 : Nat) = l.length := hl; omega, fun c hc => ?_, ?_, fun c hc x hx => ?_, ?_, ?_, ?_⟩
  · obtain ⟨i, hi, hci⟩ := idx c hc
    have ln := h.ln i c hci
    obtain ⟨e, n2, n20⟩ := ft.at hi
    have cl := line_len ln
    refine ⟨by rw [ln.nm]; exact nmi (by omega), by rw [ln.n]; omega, by rw [ln.n]; exact n20, fun e he => ?_, by rw [ln.es]; exact List.pairwise_singleton _ _, fun p hp => ?_, ?_, by omega, by rw [ln.es]; exact Nat.le_trans (Nat.le_refl 1) (by decide)⟩
    · rw [ln.es] at he
      rw [List.mem_singleton.mp he, ln.n]
      omega
    · obtain ⟨j, hj, e⟩ := line_mem ln hp
      have h2 := lineStp_n l i j
      refine ⟨by rw [e, h2.1, ln.n]; omega, by rw [e, h2.2, ln.n]; omega, ?_⟩
      rw [e]
      unfold lineStp
      split
      · show isName "x" = true
        decide +kernel
      · exact nmi (by omega)
    · rw [ln.ss]
      unfold lineSteps List.Nodup
      rw [List.pairwise_map]
      refine List.nodup_range.imp fun ne e => ne ?_
      have e := congrArg Stp.n e
      rwa [(lineStp_n _ _ _).1, (lineStp_n _ _ _).1] at e
  · rw [h.nms ft]
    exact namesL_nd.sublist (List.take_sublist _ _)
  · obtain ⟨p, hp, rfl⟩ := List.mem_map.mp hx
    obtain ⟨hp, hcall⟩ := List.mem_filter.mp hp
    obtain ⟨i, hi, hci⟩ := idx c hc
    obtain ⟨j, hj, e⟩ := line_mem (h.ln i c hci) hp
    rw [e] at hcall ⊢
    unfold lineStp at hcall ⊢
    by_cases hl2 : i + 1 = l.length
    · rw [if_pos hl2] at hcall
      cases hcall
    · rw [if_neg hl2, h.nms ft]
      refine List.mem_of_getElem? (i := i + 1) ?_
      rw [List.getElem?_take_of_lt (by omega)]
      exact names_at (by omega)
  · have : nStages cs = (cs.map (·.n)).sum := by
      unfold nStages
      rw [List.sum_eq_foldr]
    rw [this, h.ns ft]
    exact s60
  · have := dns_small (m := 20) (cs := cs) fun c hc => by
      obtain ⟨i, hi, hci⟩ := idx c hc
      have := line_len (h.ln i c hci)
      have := (ft.at hi).2.2
      omega
    omega
  · have : (uniq (dns cs)).length ≤ ([("x" : Str)] : List Str).length := nd_le (uniq_nd _) fun x hx => by
      obtain ⟨c, hc, hx⟩ := List.mem_flatMap.mp ((mem_uniq _ _).mp hx)
      obtain ⟨p, hp, rfl⟩ := List.mem_map.mp hx
      obtain ⟨hp, hcall⟩ := List.mem_filter.mp hp
      obtain ⟨i, hi, hci⟩ := idx c hc
      obtain ⟨j, hj, e⟩ := line_mem (h.ln i c hci) hp
      rw [e] at hcall ⊢
      unfold lineStp at hcall ⊢
      by_cases hl2 : i + 1 = l.length
      · rw [if_pos hl2]
        exact List.mem_cons_self
      · rw [if_neg hl2] at hcall
        cases hcall
    have h1 : ([("x" : Str)] : List Str).length = 1 := rfl
    omega
section
variable {P : Program} {w : World} {K : PySem.W.Frag} {mg : Str → Option Value} {base : Heap}
def spTallest (K : PySem.W.Frag) (C CR : Addr) : Sp := fun vs H Q E => ∃ (a : Addr) (l : List Nat), vs = [.ref a] ∧ SqT K H a (natV l) ∧ l.length ≤ 1000 ∧ (¬ Fits l → RefuseW CR E H "counts") ∧ (Fits l → ∀ H' p q cs, Same H H' → H p = none → BookAt K C H' p q cs → TallC H' q l cs → Q (.ref p) H')
abbrev nTa : List Str := ["counts", "count", "at"]
theorem scTa : FnScope nTa ["counts"] (defScope sTallest) := ⟨rfl, rfl, rfl, by decide +kernel, rfl, by decide +kernel, by decide +kernel⟩
theorem ok_tallest {f C fI CR fE fL : Addr} {fd fdI fdE fdL : FuncData} {t8 t60 t20 : Nat} (F : Fun K "tallest" "tallest" sTallest f fd) (R : RefC K mg CR fE fdE) (N : Nones mg) (B : BkC K mg C) (M_Book : Mk K C fI) (G_Book : FnOk P w K mg base CX0 8 fI fdI ["self", "courses"] (spBkInit K C)) (b_Book : Binds K fdI ["self", "courses"] []) (g_MOST_COURSES : mg "MOST_COURSES" = some (.int 8 t8)) (g_MOST_STAGES_TOGETHER : mg "MOST_STAGES_TOGETHER" = some (.int 60 t60)) (g_MOST_STAGES : mg "MOST_STAGES" = some (.int 20 t20))
    (G_line : FnOk P w K mg base CX0 1 fL fdL ["at", "counts"] (spLine K)) (C_line : CallC K mg "line" ["at", "counts"] fL fdL) : FnOk P w K mg base (L2.CX P w) 10 f fd ["counts"] (spTallest K C CR) := by
  have GE : FnOk P w K mg base CX0 1 fE fdE ["self", "word"] (spRInit CR) := ok_rinit R
  refine F.okX scTa (fun vs H Q E h => ?_) (fun cdv A outer s0 H vs Q E hr h => ?_)
  · obtain ⟨a, l, rfl, _⟩ := h
    rfl
  · obtain ⟨a, l, rfl, hA, ll, qE, q⟩ := h
    refine ⟨_, pss_cons (ps_if (PW.pt (pw_or (pt_not (pt_chain op_le op_le pe_int (pe_callB call_len_seq (by rfl) N.len PySem.boot_len (pa_cons (pv 0) pa_nil)) (pe_glob (v := .int 8) rfl g_MOST_COURSES ⟨_, rfl⟩))) (pw_or1 (pt_cmpR op_gt (pe_callB (Ka.cr_sumT rfl) (by rfl) N.sum (by decide +kernel) (pa_cons (pv 0) pa_nil)) (pe_glob (v := .int 60) rfl g_MOST_STAGES_TOGETHER ⟨_, rfl⟩) (nomark _))))) (pss_one (ps_raise rfl (takes_of rfl rfl rfl rfl) (pmk_oex R.oex R.iC R.tI GE (hr.mono (by decide)) R.b .nil pass0 (by rfl) R.gC (pa_cons pe_str pa_nil)))) pss_nil)
      (pss_cons (ps_if (pt_not (pt_val (pe_callB (cr_all rfl) (by rfl) N.all (by decide +kernel) (pa_cons (pe_lc (own := [("count", 1)]) (g := gName 1) (tt := tYes) rfl scTa.nd (pi_tup (pv 0)) (blkOk_by (own := [("count", 1)]) (N := nTa) (sc := defScope sTallest) (by decide +kernel)) (fun _ _ _ _ _ => (pg_name (i := 1) scTa.nd rfl (Or.inl rfl))) (fun _ _ _ _ _ => pts_nil) (fun _ _ _ _ _ => (pe_chain op_le op_le pe_int (pv 1) (pe_glob (v := .int 20) rfl g_MOST_STAGES ⟨_, rfl⟩)))) pa_nil)))) (pss_one (ps_raise rfl (takes_of rfl rfl rfl rfl) (pmk_oex R.oex R.iC R.tI GE (hr.mono (by decide)) R.b .nil pass0 (by rfl) R.gC (pa_cons pe_str pa_nil)))) pss_nil)
      (pss_one (ps_ret (pe_make M_Book G_Book (hr.mono (by decide)) (by rfl) B.mgC b_Book .nil pass0 (pa_cons (pe_callTy call_tuple_of (by rfl) N.tuple (by decide +kernel) (pa_cons (pe_lc (own := [("at", 2)]) (g := gName 2) (tt := tYes) rfl scTa.nd (pi_range1 (by rfl) N.range (pa_cons (pe_callB call_len_seq (by rfl) N.len PySem.boot_len (pa_cons (pv 0) pa_nil)) pa_nil)) (blkOk_by (own := [("at", 2)]) (N := nTa) (sc := defScope sTallest) (by decide +kernel)) (fun _ _ _ _ _ => (pg_name (i := 2) scTa.nd rfl (Or.inl rfl))) (fun _ _ _ _ _ => pts_nil) (fun _ _ _ _ _ => (pe_call G_line (hr.mono (by decide)) (by rfl) C_line.g C_line.kp C_line.b .nil pass0 (pa_cons (pv 2) (pa_cons (pv 0) pa_nil))))) pa_nil)) pa_nil))))), ?_⟩
    have lv : (natV l).length = l.length := natV_len l
    refine ⟨_, rfl, a, _, rfl, .inr hA, _, _, rfl, rfl, _, rfl, ite2 (fun c1 => ?_) (fun c1 => ?_)⟩
    · have h1 : 1 ≤ l.length := by
        have := of_decide_eq_true c1
        omega
      refine ⟨_, _, rfl, rfl, _, rfl, ite2 (fun c2 => ?_) (fun c2 => ?_)⟩
      · have h2 : ¬ l.length ≤ 8 := by
          have : ¬ (((natV l).length : Nat) : Int) ≤ 8 := of_decide_eq_false (by simpa using c2)
          omega
        refine iteT ?_
        exact refuseW_mk (qE fun ft => h2 ft.2.1)
      · have h2 : l.length ≤ 8 := by
          have : (((natV l).length : Nat) : Int) ≤ 8 := by simpa using c2
          omega
        have hAm : SqT K H a ((l.map fun n : Nat => (n : Int)).map V.int) := by
          rw [List.map_map]
          exact hA
        refine ⟨_, rfl, a, _, rfl, hAm, _, _, rfl, rfl, _, rfl, ite2 (fun c3 => ?_) (fun c3 => ?_)⟩
        · have h3 : ¬ l.sum ≤ 60 := by
            have := of_decide_eq_true c3
            rw [preSum_nat] at this
            omega
          exact refuseW_mk (qE fun ft => h3 ft.2.2.1)
        · have h3 : l.sum ≤ 60 := by
            rw [preSum_nat] at c3
            have : ¬ (60 : Int) < (l.sum : Int) := fun z => c3 (decide_eq_true z)
            omega
          refine ⟨_, rfl, a, rfl, ⟨_, hA⟩, fun D nD => ?_⟩
          refine lc_pure (walk_tup (K := K) (a := a) (xs := natV l)) ((l.map fun n => decide (2 ≤ n ∧ n ≤ 20)).map V.bl) (by rw [List.length_map, List.length_map, natV_len]) nD (fun _ s => Same.sqT s hA) (fun i x H0 H' hi h0 y => ?_) (fun H4 s4 e4 => ?_)
          · obtain ⟨rfl, hy⟩ := y
            obtain ⟨n, hn, rfl⟩ := get_map (f := fun (i : Nat) => V.int (i : Int)) hy
            have val : ((l.map fun n => decide (2 ≤ n ∧ n ≤ 20)).map V.bl)[i]? = some (V.bl (decide (2 ≤ n ∧ n ≤ 20))) := by rw [List.getElem?_map, List.getElem?_map, hn]; rfl
            refine ⟨rfl, _, rfl, _, _, rfl, rfl, _, rfl, ite2 (fun c5 => ?_) (fun c5 => ?_)⟩
            · have c5 : 2 ≤ n := by
                have := of_decide_eq_true c5
                omega
              refine ⟨_, _, rfl, rfl, ?_⟩
              have e5 : decide ((n : Int) ≤ 20) = decide (2 ≤ n ∧ n ≤ 20) := decide_eq_decide.mpr ⟨fun h => ⟨c5, by omega⟩, fun h => by omega⟩
              dsimp only
              rw [e5]
              exact h0.put nD (fun _ _ e => e) val (by rw [List.length_map, List.length_map]; omega)
            · have c5 : ¬ 2 ≤ n := fun z => c5 (decide_eq_true (by omega))
              have e5 : false = decide (2 ≤ n ∧ n ≤ 20) := (decide_eq_false fun z => c5 z.1).symm
              rw [e5]
              exact h0.put nD (fun _ _ e => e) val (by rw [List.length_map, List.length_map]; omega)
          · refine ⟨D, _, rfl, sqL_new e4, ?_⟩
            have hall : (l.map fun n => decide (2 ≤ n ∧ n ≤ 20)).all id = decide (∀ n ∈ l, 2 ≤ n ∧ n ≤ 20) := by
              rw [List.all_map, Bool.eq_iff_iff, List.all_eq_true, decide_eq_true_iff]
              exact ⟨fun h n hn => of_decide_eq_true (h n hn), fun h n hn => decide_eq_true (h n hn)⟩
            rw [hall]
            by_cases h6 : ∀ n ∈ l, 2 ≤ n ∧ n ≤ 20
            · rw [decide_eq_true h6]
              have ft : Fits l := ⟨h1, h2, h3, h6⟩
              refine ⟨_, rfl, iteF ?_⟩
              refine ⟨_, rfl, a, _, rfl, .inr (Same.sqT s4 hA), _, rfl, by omega, by omega, fun D2 nD2 => ?_⟩
              rw [show (((natV l).length : Nat) : Int).toNat = l.length by omega]
              refine lc_it (walk_r0 (n := l.length)) (fun i G => ∃ L : List CA, Same H4 G ∧ G D2 = some (.lst (L.map fun c => V.ref c.a)) ∧ L.length = i ∧ (∀ c ∈ L, DrawC G c) ∧ ∀ (j : Nat) (c : CA), L[j]? = some c → LineC l j c) ⟨[], same_new nD2, upd_same, rfl, (fun c hc => nomatch hc), fun j c hc => by simp at hc⟩ (fun _ _ _ _ => True.intro) (fun i z G G' hi h y => ?_) (fun G h => ?_)
              · obtain ⟨rfl, rfl⟩ := y
                obtain ⟨L, sG, eD, kL, dL, lL⟩ := h
                refine ⟨rfl, _, rfl, _, rfl, a, l, i, rfl, Same.sqT (s4.trans sG) hA, ft, hi, fun H5 qc c s5 nqc ec dr lc => ?_⟩
                have eD5 := s5 _ _ eD
                have tk : TS H5 (upd H5 D2 (.lst ((L.map fun c => V.ref c.a) ++ [.ref qc]))) := fun c xs e => by
                  rw [upd_ne]
                  · exact e
                  · intro z
                    rw [z, eD5] at e
                    cases e
                refine ⟨_, eD5, by rw [List.length_map]; exact small (by omega), L ++ [c], fun b o e => ?_, ?_, by rw [List.length_append, kL]; rfl, fun c' hc' => ?_, fun j c' hj => ?_⟩
                · rw [upd_ne (ne_of_none e nD2)]
                  exact s5 _ _ (sG _ _ e)
                · rw [upd_same, List.map_append, ← ec]
                  rfl
                · rcases List.mem_append.mp hc' with z | z
                  · exact ((dL c' z).ts (TS.of s5)).ts tk
                  · rw [List.mem_singleton.mp z]
                    exact dr.ts tk
                · by_cases hjl : j < L.length
                  · rw [List.getElem?_append_left hjl] at hj
                    exact lL j c' hj
                  · rw [List.getElem?_append_right (by omega)] at hj
                    have : j - L.length = 0 := by
                      have := lt_of_get hj
                      rw [List.length_singleton] at this
                      omega
                    rw [this] at hj
                    cases hj
                    have : j = i := by omega
                    rw [this]
                    exact lc
              · obtain ⟨L, sG, eD, kL, dL, lL⟩ := h
                refine ⟨D2, _, rfl, .inl ⟨sqL_new eD, fun t nt => ?_⟩⟩
                have st := same_new (o := .tup (L.map fun c => V.ref c.a)) nt
                have ht : TallC (upd G t (.tup (L.map fun c => V.ref c.a))) t l L := ⟨upd_same, fun c hc => (dL c hc).ts (TS.of st), kL, lL⟩
                have sT := (s4.trans sG).trans st
                generalize upd G t (.tup (L.map fun c => V.ref c.a)) = G2 at st ht sT
                intro bk dx nbk ndx nex
                have s8 : Same G2 (upd (upd G2 dx (.own bk)) bk (.ins C dx [])) := fun b o e => by
                  rw [upd_ne (ne_of_none e nbk), upd_ne (ne_of_none e ndx)]
                  exact e
                have ex : upd (upd G2 dx (.own bk)) bk (.ins C dx []) bk = some (.ins C dx []) := upd_same
                generalize upd (upd G2 dx (.own bk)) bk (.ins C dx []) = HF at s8 ex
                refine ⟨bk, t, dx, L, rfl, ex, (ht.at K).mono s8, csOk_tall ft ht, fun HG kk hBk => ⟨rfl, ?_⟩⟩
                have sG : Same G2 HG := fun b o e => kk _ _ (ne_of_none e nbk) (s8 _ _ e)
                exact q ft HG bk t L (sT.trans sG) (sT.free nbk) hBk (ht.ts (TS.of sG))
            · rw [decide_eq_false h6]
              refine ⟨_, rfl, iteT ?_⟩
              exact refuseW_mk ((qE fun ft => h6 ft.2.2.2).mono s4)
    · have h1 : ¬ 1 ≤ l.length := fun z => c1 (decide_eq_true (by omega))
      refine ⟨_, rfl, iteT (iteT ?_)⟩
      exact refuseW_mk (qE fun ft => h1 ft.1)
end
end Kb
namespace Kb
open PySem PySem.Spec PyProof.Rows L2
/-! ### drawn counts, _law_fit -/
theorem ixN_nat {n j : Nat} (h : j < n) : ixN n (j : Int) = some j := by
  unfold ixN
  by_cases h0 : (0 : Int) ≤ (j : Int)
  · rw [if_pos h0]
    have : ((j : Int)).toNat = j := by omega
    rw [this, if_pos (by omega)]
  · omega
theorem natV_set (l : List Nat) (j n : Nat) : (natV l).set j (V.int (n : Int)) = natV (l.set j n) := by
  unfold natV
  rw [List.map_set]
theorem rep_two (k : Nat) : (List.replicate k [V.int 2]).flatten = natV (List.replicate k 2) := by
  induction k with
  | zero => rfl
  | succ k ih =>
    rw [List.replicate_succ, List.flatten_cons, ih, List.replicate_succ]
    rfl
section
variable {P : Program} {w : World} {K : PySem.W.Frag} {mg : Str → Option Value} {base : Heap}
def spCounts : Sp := fun vs H Q _ => ∃ (x : Addr), vs = [.ref x] ∧ Box H x ∧ ∀ H' q l, But x H H' → Box H' x → H q = none → H' q = some (.lst (natV l)) → l.length ≤ 40 → (∀ n ∈ l, n ≤ 100) → Q (.ref q) H'
abbrev nCn : List Str := ["box", "many", "counts", "kind", "at", "turn"]
theorem scCn : FnScope nCn ["box"] (defScope sLawCounts) := ⟨rfl, rfl, rfl, by decide +kernel, rfl, by decide +kernel, by decide +kernel⟩
theorem ok_counts {f fT : Addr} {fd fdT : FuncData} (F : Fun K "_law_counts" "_law_counts" sLawCounts f fd) (N : Nones mg) (G__law_take : FnOk P w K mg base CX0 1 fT fdT ["box", "many"] spTake) (C__law_take : CallC K mg "_law_take" ["box", "many"] fT fdT) : FnOk P w K mg base CX0 2 f fd ["box"] spCounts := by
  refine F.ok scCn (fun vs H Q E h => ?_) (fun cdv A outer s0 H vs Q E hr h => ?_)
  · obtain ⟨x, rfl, _⟩ := h
    rfl
  · obtain ⟨x, rfl, bx, q⟩ := h
    refine split_tail (fun σ Z => ∃ m : Nat, σ = [some (.ref x), some (.int (m : Int)), none, none, none, none] ∧ 1 ≤ m ∧ m ≤ 8 ∧ But x H Z ∧ Box Z x) ?_ ?_
    · refine split_next _ (fun σ Z => ∃ (m : Nat) (qc : Addr) (l : List Nat), σ = [some (.ref x), some (.int (m : Int)), some (.ref qc), none, none, none] ∧ 1 ≤ m ∧ m ≤ 8 ∧ But x H Z ∧ Box Z x ∧ qc ≠ x ∧ H qc = none ∧ Z qc = some (.lst (natV l)) ∧ l.length = m ∧ ∀ n ∈ l, n ≤ 100) ?_ ?_
      · refine split_next _ (fun σ Z => ∃ (m r i : Nat) (qc : Addr) (l : List Nat), σ = [some (.ref x), some (.int (m : Int)), some (.ref qc), some (.int (r : Int)), some (.int (i : Int)), none] ∧ 1 ≤ m ∧ m ≤ 8 ∧ i < m ∧ But x H Z ∧ Box Z x ∧ qc ≠ x ∧ H qc = none ∧ Z qc = some (.lst (natV l)) ∧ l.length = m ∧ ∀ n ∈ l, n ≤ 100) ?_ ?_
        · refine split_next _ (fun σ Z => ∃ (x1 x3 x4 x5 : Option V) (qc : Addr) (l : List Nat), σ = [some (.ref x), x1, some (.ref qc), x3, x4, x5] ∧ But x H Z ∧ Box Z x ∧ H qc = none ∧ Z qc = some (.lst (natV l)) ∧ l.length ≤ 40 ∧ ∀ n ∈ l, n ≤ 100) ?_ ?_
          · refine ⟨_, pss_one (ps_ret (pv 2)), fun σ Z h => ?_⟩
            obtain ⟨x1, x3, x4, x5, qc, l, rfl, kZ, bZ, nq, eq, ll, ln⟩ := h
            exact ⟨_, rfl, q Z qc l kZ bZ nq eq ll ln⟩
          · refine ⟨_, (ps_if (pt_cmpR op_eq (pv 3) pe_int (nomark _)) (pss_one (ps_asg (pe_call G__law_take (hr.mono (by decide)) (by rfl) C__law_take.g C__law_take.kp C__law_take.b .nil pass0 (pa_cons (pv 0) (pa_cons pe_int pa_nil))) (pg_sub (pv 2) (pv 4) set_list))) (pss_one (ps_if (pt_cmpR op_eq (pv 3) pe_int (nomark _)) (pss_one (ps_asg (pe_op op_add pe_int (pe_call G__law_take (hr.mono (by decide)) (by rfl) C__law_take.g C__law_take.kp C__law_take.b .nil pass0 (pa_cons (pv 0) (pa_cons pe_int pa_nil)))) (pg_sub (pv 2) (pv 4) set_list))) (pss_one (ps_if (pt_cmpR op_eq (pv 3) pe_int (nomark _)) (pss_one (ps_set (i := 2) scCn.nd rfl (Or.inl rfl) (pe_op op_cat (pv 2) (pe_op op_rep (pe_lst (pa_cons pe_int pa_nil)) (pe_op op_add (pe_op op_sub pe_int (pv 1)) (pe_call G__law_take (hr.mono (by decide)) (by rfl) C__law_take.g C__law_take.kp C__law_take.b .nil pass0 (pa_cons (pv 0) (pa_cons pe_int pa_nil)))))))) (pss_one (ps_if (pt_cmpR op_eq (pv 3) pe_int (nomark _)) (pss_one (ps_set (i := 2) scCn.nd rfl (Or.inl rfl) (pe_op op_cat (pe_lst (pa_cons pe_int (pa_cons pe_int (pa_cons (pe_op op_add pe_int (pe_call G__law_take (hr.mono (by decide)) (by rfl) C__law_take.g C__law_take.kp C__law_take.b .nil pass0 (pa_cons (pv 0) (pa_cons pe_int pa_nil)))) pa_nil)))) (pe_op op_rep (pe_lst (pa_cons pe_int pa_nil)) (pe_call G__law_take (hr.mono (by decide)) (by rfl) C__law_take.g C__law_take.kp C__law_take.b .nil pass0 (pa_cons (pv 0) (pa_cons pe_int pa_nil))))))) (pss_one (ps_if (PW.pt (pw_and (pt_cmpR op_eq (pv 3) pe_int (nomark _)) (pw_and1 (pt_cmpR op_eq (pe_call G__law_take (hr.mono (by decide)) (by rfl) C__law_take.g C__law_take.kp C__law_take.b .nil pass0 (pa_cons (pv 0) (pa_cons pe_int pa_nil))) pe_int (nomark _))))) (pss_one (ps_set (i := 2) scCn.nd rfl (Or.inl rfl) (pe_lst pa_nil))) pss_nil))))))))), fun N' hN σ Z h => ?_⟩
            obtain ⟨m, r, i, qc, l, rfl, m1, m8, im, kZ, bZ, nqx, nq, eq, ll, ln⟩ := h
            have setl : ∀ {Z1 : Hp} {r2 : Nat}, But x Z Z1 → Box Z1 x → r2 ≤ 100 → But x H (upd Z1 qc (.lst ((natV l).set i (V.int (r2 : Int))))) ∧ Box (upd Z1 qc (.lst ((natV l).set i (V.int (r2 : Int))))) x ∧ H qc = none ∧ upd Z1 qc (.lst ((natV l).set i (V.int (r2 : Int)))) qc = some (.lst (natV (l.set i r2))) ∧ (l.set i r2).length ≤ 40 ∧ ∀ n ∈ l.set i r2, n ≤ 100 := fun {Z1 r2} k1 b1 hr2 => by
              refine ⟨fun c o hc e => ?_, Box.upd b1 nqx, nq, by rw [upd_same, natV_set], by rw [List.length_set]; omega, fun n hn => ?_⟩
              · rw [upd_ne (ne_of_none e nq)]
                exact k1 _ _ hc (kZ _ _ hc e)
              · rcases List.mem_or_eq_of_mem_set hn with z | z
                · exact ln n z
                · rw [z]
                  exact hr2
            refine ⟨_, rfl, rfl, _, rfl, ite2 (fun c0 => ?_) (fun c0 => ?_)⟩
            · refine ⟨_, rfl, x, 2, rfl, bZ, by decide, by decide, fun r2 Z1 hr2 k1 b1 => ?_⟩
              have e1 := k1 _ _ nqx eq
              refine ⟨_, rfl, _, rfl, qc, _, (i : Int), i, rfl, rfl, e1, ixN_nat (by rw [natV_len]; omega), ?_⟩
              exact hN _ _ ⟨_, _, _, _, qc, _, rfl, setl k1 b1 (by omega)⟩
            · refine ⟨_, rfl, rfl, _, rfl, ite2 (fun c1 => ?_) (fun c1 => ?_)⟩
              · refine ⟨_, rfl, x, 3, rfl, bZ, by decide, by decide, fun r2 Z1 hr2 k1 b1 => ?_⟩
                have e1 := k1 _ _ nqx eq
                refine ⟨_, _, rfl, rfl, _, rfl, _, rfl, qc, _, (i : Int), i, rfl, rfl, e1, ixN_nat (by rw [natV_len]; omega), ?_⟩
                exact hN _ _ ⟨_, _, _, _, qc, _, rfl, setl (r2 := 20 + r2) k1 b1 (by omega)⟩
              · refine ⟨_, rfl, rfl, _, rfl, ite2 (fun c2 => ?_) (fun c2 => ?_)⟩
                · refine ⟨_, rfl, smallE (by show 1 ≤ 1000000; decide), fun q1 n1 => ?_⟩
                  have s1 := same_new (o := .lst [V.int 2]) n1
                  have e1 : upd Z q1 (.lst [V.int 2]) q1 = some (.lst [V.int 2]) := upd_same
                  have b1 := Box.upd (o := .lst [V.int 2]) bZ (Box.ne bZ n1)
                  have n1x := Box.ne bZ n1
                  have k1 := kZ.trans (But.of s1)
                  have eq1 := s1 _ _ eq
                  generalize upd Z q1 (.lst [V.int 2]) = Z1 at s1 e1 b1 k1 eq1
                  refine ⟨_, rfl, _, _, rfl, rfl, _, rfl, x, 2, rfl, b1, by decide, by decide, fun r2 Z2 hr2 k2 b2 => ?_⟩
                  have e2 := k2 _ _ n1x e1
                  have eq2 := k2 _ _ nqx eq1
                  have kk := k1.trans k2
                  obtain ⟨k, hk⟩ : ∃ k : Nat, (8 : Int) - (m : Int) + (r2 : Int) = (k : Int) ∧ k ≤ 9 := ⟨8 - m + r2, by omega, by omega⟩
                  refine ⟨_, _, rfl, rfl, q1, (k : Int), _, rfl, ?_, e2, by omega, by omega, ?_, fun q2 n2 => ?_⟩
                  · show V.int ((8 : Int) - (m : Int) + (r2 : Int)) = _
                    rw [hk.1]
                  · show 1 * ((k : Int)).toNat ≤ sizeLine
                    exact smallE (by omega)
                  have ek : ((k : Int)).toNat = k := by omega
                  rw [ek, rep_two]
                  have s2 := same_new (o := .lst (natV (List.replicate k 2))) n2
                  have e3 : upd Z2 q2 (.lst (natV (List.replicate k 2))) q2 = some (.lst (natV (List.replicate k 2))) := upd_same
                  have b3 := Box.upd (o := .lst (natV (List.replicate k 2))) b2 (Box.ne b2 n2)
                  have k3 := kk.trans (But.of s2)
                  have eq3 := s2 _ _ eq2
                  generalize upd Z2 q2 (.lst (natV (List.replicate k 2))) = Z3 at s2 e3 b3 k3 eq3
                  refine ⟨qc, q2, _, _, rfl, rfl, eq3, e3, by rw [natV_len, natV_len, List.length_replicate]; exact smallE (by omega), fun q4 n4 => ?_⟩
                  have e5 : natV l ++ natV (List.replicate k 2) = natV (l ++ List.replicate k 2) := by unfold natV; rw [List.map_append]
                  rw [e5]
                  have s4 := same_new (o := .lst (natV (l ++ List.replicate k 2))) n4
                  refine hN _ _ ⟨_, _, _, _, q4, _, rfl, k3.trans (But.of s4), Box.upd b3 (Box.ne b3 n4), k3.free b3 n4, upd_same, by rw [List.length_append, List.length_replicate]; omega, fun n hn => ?_⟩
                  rcases List.mem_append.mp hn with z | z
                  · exact ln n z
                  · rw [List.eq_of_mem_replicate z]
                    decide
                · refine ⟨_, rfl, rfl, _, rfl, ite2 (fun c3 => ?_) (fun c3 => ?_)⟩
                  · refine ⟨_, rfl, x, 3, rfl, bZ, by decide, by decide, fun r2 Z1 hr2 k1 b1 => ?_⟩
                    have k1 := kZ.trans k1
                    refine ⟨_, _, rfl, rfl, smallE (by show 3 ≤ 1000000; decide), fun q1 n1 => ?_⟩
                    have s1 := same_new (o := .lst (natV [20, 20, 18 + r2])) n1
                    have e1 : upd Z1 q1 (.lst (natV [20, 20, 18 + r2])) q1 = some (.lst (natV [20, 20, 18 + r2])) := upd_same
                    have b2 := Box.upd (o := .lst (natV [20, 20, 18 + r2])) b1 (Box.ne b1 n1)
                    have n1x := Box.ne b1 n1
                    have k2 := k1.trans (But.of s1)
                    have hG1 : upd Z1 q1 (.lst (natV [20, 20, 18 + r2])) = upd Z1 q1 (.lst [V.int 20, V.int 20, V.int (18 + (r2 : Int))]) := rfl
                    rw [hG1] at e1 s1 b2 k2
                    generalize upd Z1 q1 (.lst [V.int 20, V.int 20, V.int (18 + (r2 : Int))]) = Z2 at s1 e1 b2 k2
                    refine ⟨smallE (by show 1 ≤ 1000000; decide), fun q2 n2 => ?_⟩
                    have s2 := same_new (o := .lst [V.int 2]) n2
                    have e2 : upd Z2 q2 (.lst [V.int 2]) q2 = some (.lst [V.int 2]) := upd_same
                    have b3 := Box.upd (o := .lst [V.int 2]) b2 (Box.ne b2 n2)
                    have n2x := Box.ne b2 n2
                    have k3 := k2.trans (But.of s2)
                    have e1 := s2 _ _ e1
                    generalize upd Z2 q2 (.lst [V.int 2]) = Z3 at s2 e2 b3 k3 e1
                    refine ⟨_, rfl, x, 2, rfl, b3, by decide, by decide, fun k Z4 hk k4 b4 => ?_⟩
                    have e1 := k4 _ _ n1x e1
                    have e2 := k4 _ _ n2x e2
                    have k5 := k3.trans k4
                    refine ⟨q2, (k : Int), _, rfl, rfl, e2, by omega, by omega, ?_, fun q3 n3 => ?_⟩
                    · show 1 * ((k : Int)).toNat ≤ sizeLine
                      exact smallE (by omega)
                    have ek : ((k : Int)).toNat = k := by omega
                    rw [ek, rep_two]
                    have s3 := same_new (o := .lst (natV (List.replicate k 2))) n3
                    have e3 : upd Z4 q3 (.lst (natV (List.replicate k 2))) q3 = some (.lst (natV (List.replicate k 2))) := upd_same
                    have b5 := Box.upd (o := .lst (natV (List.replicate k 2))) b4 (Box.ne b4 n3)
                    have k6 := k5.trans (But.of s3)
                    have e1 := s3 _ _ e1
                    generalize upd Z4 q3 (.lst (natV (List.replicate k 2))) = Z5 at s3 e3 b5 k6 e1
                    refine ⟨q1, q3, _, _, rfl, rfl, e1, e3, by rw [natV_len, natV_len, List.length_replicate]; exact smallE (by show 3 + k ≤ 1000000; omega), fun q4 n4 => ?_⟩
                    have e5 : natV [20, 20, 18 + r2] ++ natV (List.replicate k 2) = natV ([20, 20, 18 + r2] ++ List.replicate k 2) := by unfold natV; rw [List.map_append]
                    rw [e5]
                    have s4 := same_new (o := .lst (natV ([20, 20, 18 + r2] ++ List.replicate k 2))) n4
                    refine hN _ _ ⟨_, _, _, _, q4, _, rfl, k6.trans (But.of s4), Box.upd b5 (Box.ne b5 n4), k6.free b5 n4, upd_same, by rw [List.length_append, List.length_replicate]; show 3 + k ≤ 40; omega, fun n hn => ?_⟩
                    rcases List.mem_append.mp hn with z | z
                    · simp at z
                      omega
                    · rw [List.eq_of_mem_replicate z]
                      decide
                  · refine ⟨_, rfl, rfl, _, rfl, ite2 (fun c4 => ?_) (fun c4 => ?_)⟩
                    · refine ⟨_, rfl, x, 4, rfl, bZ, by decide, by decide, fun r2 Z1 hr2 k1 b1 => ?_⟩
                      have e1 := k1 _ _ nqx eq
                      have k1 := kZ.trans k1
                      refine ⟨rfl, _, rfl, ite2 (fun c5 => ?_) (fun c5 => ?_)⟩
                      · refine ⟨smallE (by show 0 ≤ 1000000; decide), fun q1 n1 => ?_⟩
                        have s1 := same_new (o := .lst []) n1
                        exact hN _ _ ⟨_, _, _, _, q1, [], rfl, k1.trans (But.of s1), Box.upd b1 (Box.ne b1 n1), k1.free b1 n1, upd_same, Nat.zero_le _, fun n hn => nomatch hn⟩
                      · exact hN _ _ ⟨_, _, _, _, qc, l, rfl, k1, b1, nq, e1, by omega, ln⟩
                    · refine iteNo rfl ?_
                      exact hN _ _ ⟨_, _, _, _, qc, l, rfl, kZ, bZ, nq, eq, by omega, ln⟩
        · refine ⟨_, ps_par (i := 3) (j := 4) rfl scCn.nd rfl rfl (by decide) rfl rfl (pa_cons (pe_call G__law_take (hr.mono (by decide)) (by rfl) C__law_take.g C__law_take.kp C__law_take.b .nil pass0 (pa_cons (pv 0) (pa_cons pe_int pa_nil))) (pa_cons (pe_call G__law_take (hr.mono (by decide)) (by rfl) C__law_take.g C__law_take.kp C__law_take.b .nil pass0 (pa_cons (pv 0) (pa_cons (pv 1) pa_nil))) pa_nil)) (by rfl), fun N' hN σ Z h => ?_⟩
          obtain ⟨m, qc, l, rfl, m1, m8, kZ, bZ, nqx, nq, eq, ll, ln⟩ := h
          refine ⟨_, rfl, x, 8, rfl, bZ, by decide, by decide, fun r Z1 hr1 k1 b1 => ?_⟩
          refine ⟨_, rfl, _, rfl, x, m, rfl, b1, by omega, by omega, fun i Z2 hi k2 b2 => ⟨_, _, rfl, ?_⟩⟩
          exact hN _ _ ⟨m, r, i, qc, l, rfl, m1, m8, hi, (kZ.trans k1).trans k2, b2, nqx, nq, k2 _ _ nqx (k1 _ _ nqx eq), ll, ln⟩
      · refine ⟨_, ps_setLc (i := 2) (own := [("turn", 5)]) (g := gName 5) (tt := tYes) rfl scCn.nd rfl rfl (sw_true rfl rfl rfl rfl) (pi_range1 (by rfl) N.range (pa_cons (pv 1) pa_nil)) (blkOk_by (own := [("turn", 5)]) (N := nCn) (sc := defScope sLawCounts) (by decide +kernel)) (fun _ _ _ _ _ => (pg_name (i := 5) scCn.nd rfl (Or.inl rfl))) (fun _ _ _ _ _ => pts_nil) (fun _ _ _ _ _ => (pe_op op_add pe_int (pe_call G__law_take (hr.mono (by decide)) (by rfl) C__law_take.g C__law_take.kp C__law_take.b .nil pass0 (pa_cons (pv 0) (pa_cons pe_int pa_nil))))), fun N' hN σ Z h => ?_⟩
        obtain ⟨m, rfl, m1, m8, kZ, bZ⟩ := h
        refine ⟨_, rfl, _, rfl, by omega, by omega, fun D nD => ?_⟩
        have nDx := Box.ne bZ nD
        have nDH := kZ.free bZ nD
        have em : ((m : Int)).toNat = m := by omega
        rw [em]
        refine lc_it (walk_r0 (n := m)) (fun j G => ∃ l : List Nat, But x H G ∧ Box G x ∧ G D = some (.lst (natV l)) ∧ l.length = j ∧ ∀ n ∈ l, n ≤ 100) ⟨[], kZ.trans (But.of (same_new nD)), Box.upd bZ nDx, upd_same, rfl, fun n hn => nomatch hn⟩ (fun _ _ _ _ => True.intro) (fun j z G G' hj h y => ?_) (fun G h => ?_)
        · obtain ⟨rfl, rfl⟩ := y
          obtain ⟨l, kG, bG, eG, ll, ln⟩ := h
          refine ⟨rfl, _, rfl, x, 4, rfl, bG, by decide, by decide, fun r Z1 hr1 k1 b1 => ?_⟩
          have e1 := k1 _ _ nDx eG
          refine ⟨_, _, rfl, rfl, _, e1, by rw [natV_len]; exact small (by omega), l ++ [2 + r], fun c o hc e => ?_, Box.upd b1 nDx, ?_, by rw [List.length_append, ll]; rfl, fun n hn => ?_⟩
          · rw [upd_ne (ne_of_none e nDH)]
            exact k1 _ _ hc (kG _ _ hc e)
          · rw [upd_same]
            unfold natV
            rw [List.map_append]
            rfl
          · rcases List.mem_append.mp hn with z | z
            · exact ln n z
            · rw [List.mem_singleton.mp z]
              omega
        · obtain ⟨l, kG, bG, eG, ll, ln⟩ := h
          exact hN _ _ ⟨m, D, l, rfl, m1, m8, kG, bG, nDx, nDH, eG, ll, ln⟩
    · refine ⟨_, ps_set (i := 1) scCn.nd rfl (Or.inl rfl) (pe_op op_add pe_int (pe_call G__law_take (hr.mono (by decide)) (by rfl) C__law_take.g C__law_take.kp C__law_take.b .nil pass0 (pa_cons (pv 0) (pa_cons pe_int pa_nil)))), fun N' hN => ?_⟩
      refine ⟨_, rfl, x, 8, rfl, bx, by decide, by decide, fun r H1 hr1 k1 b1 => ⟨_, _, rfl, rfl, hN _ _ ⟨1 + r, rfl, by omega, by omega, k1, b1⟩⟩⟩
end
end Kb
namespace Ka
open PySem PySem.Spec PyProof.Rows L2
/-! a call by keywords alone, within a try -/
section
variable {X : Cx} {CX : CXT} {k : Nat} {f : Addr} {fd : FuncData} {ps ks : List Str} {sp : Sp} {E : L2.St → XK} {x : Str} {p pos : Pos} {kws : List Keyword} {tk : TA} {g : List Value → List Value → List Value} {gV : List V → List V → List V}
theorem run_fnkS {pins : List (Addr × Obj)} {σ : L2.St} {H : Hp} {s : Shared} {Q : VK} {us ws : List Value} {vs zs : List V} (F : FnOk X.prog X.w X.K X.mg X.base CX k f fd ps sp) (hr : Room k X.A) (hb : KBinds X.K fd ps ks g gV) (hx : PassesAt CX X σ (E σ))
    (I : Inv X pins σ H s) (r : Vals vs us) (rz : Vals zs ws) (h : sp (gV vs zs) H Q (E σ)) : wpAny (model X.prog X.w) X.A (call (.ref f) us (ks.zip ws)) (EP X pins σ Q) X.xe s := by
  have r2 := hb.rel r rz
  have hl : (g us ws).length = ps.length := by rw [← r2.length]; exact F.len _ _ _ _ h
  refine wpAny_call (codeAny_mono (F.run X.A X.stack s H ⟨us, ks.zip ws⟩ (g us ws) (gV vs zs) Q (E σ) hr I.env0 (hb.to s us ws I.kIn hl) r2 h) fun r s' hq => ?_)
  cases r with
  | error e => exact hx pins H s e s' I hq
  | ok fl =>
    cases fl with
    | ret u => exact I.after hq
    | next => exact False.elim hq
    | brk => exact False.elim hq
    | cont => exact False.elim hq
def tCallKS0 (sp : Sp) (gV : List V → List V → List V) (E : L2.St → XK) (tk : TA) : TE := fun σ H Q => tk σ H fun zs H2 => sp (gV [] zs) H2 Q (E σ)
theorem pe_callKS0 (F : FnOk X.prog X.w X.K X.mg X.base CX k f fd ps sp) (hr : Room k X.A) (hg : Gl X x) (hm : X.mg x = some (.ref f)) (hk : PySem.W.keepIn X.K (.ref f) = true) (hb : KBinds X.K fd ps ks g gV) (hx : ∀ σ, PassesAt CX X σ (E σ)) (hkw : PK X kws tk)
    (hall : (backToKw pos (keywordEach kws X.env)).all (·.1.isSome) = true := by rfl) (hks : (backToKw pos (keywordEach kws X.env)).filterMap (·.1) = ks := by rfl) (hdb : (x == ("__debug__" : Str)) = false := by decide)
    (hpl : ((backTo pos (starEach [] X.env)).any (·.1) || (backToKw pos (keywordEach kws X.env)).any (·.1.isNone)) = false := by rfl) : PE X (.Call (.Name x p) [] kws pos) (tCallKS0 sp gV E tk) := by
  constructor
  intro pins s σ H Q I h
  apply wpAny_Call_Name_kw
  apply ld_glob I hg hm ?_ hdb
  apply PySem.W.callWith_KW0 (h₀ := X.base) I.ok.mod.kin hk hall ?_ hpl
  apply thn (hkw.run pos pins s σ H _ I h)
  rintro ws s2 ⟨zs, H2, I2, rz, q2⟩
  rw [hks]
  exact ⟨I2.kIn, run_fnkS F hr hb (hx σ) I2 .nil rz q2⟩
end
/-- three parameters, the first given last -/
def roG {α : Type} (us ws : List α) : List α := match us, ws with
  | [], [a, b, c] => [c, a, b]
  | _, _ => []
/-- three parameters in their order -/
def inG {α : Type} (us ws : List α) : List α := match us, ws with
  | [], [a, b, c] => [a, b, c]
  | _, _ => []
theorem kb_rot3 {K : PySem.W.Frag} {fd : FuncData} {a b c : Str} (h : ∀ x y z : Value, bindArgs fd ⟨[], [(b, x), (c, y), (a, z)]⟩ = pure [(a, z), (b, x), (c, y)]) : KBinds K fd [a, b, c] [b, c, a] roG roG := by
  constructor
  · intro s us ws _ hl
    match us, ws, hl with
    | [], [x, y, z], _ => exact BindsTo.of_eq (h x y z)
    | [], [], hl => exact absurd hl (by simp [roG])
    | [], [_], hl => exact absurd hl (by simp [roG])
    | [], [_, _], hl => exact absurd hl (by simp [roG])
    | [], _ :: _ :: _ :: _ :: _, hl => exact absurd hl (by simp [roG])
    | _ :: _, _, hl => exact absurd hl (by simp [roG])
  · intro vs us zs ws r rz
    cases r with
    | cons _ _ => exact .nil
    | nil =>
      cases rz with
      | nil => exact .nil
      | cons a r =>
        cases r with
        | nil => exact .nil
        | cons b r =>
          cases r with
          | nil => exact .nil
          | cons c r =>
            cases r with
            | nil => exact .cons c (.cons a (.cons b .nil))
            | cons _ _ => exact .nil
theorem kb_in3 {K : PySem.W.Frag} {fd : FuncData} {a b c : Str} (h : ∀ x y z : Value, bindArgs fd ⟨[], [(a, x), (b, y), (c, z)]⟩ = pure [(a, x), (b, y), (c, z)]) : KBinds K fd [a, b, c] [a, b, c] inG inG := by
  constructor
  · intro s us ws _ hl
    match us, ws, hl with
    | [], [x, y, z], _ => exact BindsTo.of_eq (h x y z)
    | [], [], hl => exact absurd hl (by simp [inG])
    | [], [_], hl => exact absurd hl (by simp [inG])
    | [], [_, _], hl => exact absurd hl (by simp [inG])
    | [], _ :: _ :: _ :: _ :: _, hl => exact absurd hl (by simp [inG])
    | _ :: _, _, hl => exact absurd hl (by simp [inG])
  · intro vs us zs ws r rz
    cases r with
    | cons _ _ => exact .nil
    | nil =>
      cases rz with
      | nil => exact .nil
      | cons a r =>
        cases r with
        | nil => exact .nil
        | cons b r =>
          cases r with
          | nil => exact .nil
          | cons c r =>
            cases r with
            | nil => exact .cons a (.cons b (.cons c .nil))
            | cons _ _ => exact .nil
end Ka
namespace Kb
open PySem PySem.Spec PyProof.Rows L2
/-! ### _law_fit, _law_told -/
instance (l : List Nat) : Decidable (Fits l) := by
  unfold Fits
  exact inferInstance
theorem sum_ints (l : List Nat) : (l.map fun n : Nat => (n : Int)).sum = (l.sum : Int) := by
  induction l with
  | nil => rfl
  | cons n l ih => rw [List.map_cons, List.sum_cons, List.sum_cons, ih, Int.natCast_add]
structure CatchC (K : PySem.W.Frag) (C : Addr) : Prop where
  te : PySem.W.exmOne K (.ref C) (.ref C) = some true
  xf : XfC K C
theorem word_field (z : Str) : List.lookup ("word" : Str) [(("word" : Str), V.str z)] = some (V.str z) := by
  rw [List.lookup_cons]
  have : ((("word" : Str)) == ("word" : Str)) = true := by decide +kernel
  rw [this]
section
variable {P : Program} {w : World} {K : PySem.W.Frag} {mg : Str → Option Value} {base : Heap}
def spFit : Sp := fun vs H Q _ => ∃ (a : Addr) (l : List Nat), vs = [.ref a] ∧ H a = some (.lst (natV l)) ∧ l.length ≤ 1000 ∧ ∀ H', Same H H' → Q (.bl (decide (Fits l))) H'
abbrev nFi : List Str := ["counts", "count"]
theorem scFi : FnScope nFi ["counts"] (defScope sLawFit) := ⟨rfl, rfl, rfl, by decide +kernel, rfl, by decide +kernel, by decide +kernel⟩
theorem ok_fit {f : Addr} {fd : FuncData} (F : Fun K "_law_fit" "_law_fit" sLawFit f fd) (N : Nones mg) : FnOk P w K mg base CX0 1 f fd ["counts"] spFit := by
  refine F.ok scFi (fun vs H Q E h => ?_) (fun cdv A outer s0 H vs Q E hr h => ?_)
  · obtain ⟨a, l, rfl, _⟩ := h
    rfl
  · obtain ⟨a, l, rfl, hA, ll, q⟩ := h
    refine ⟨_, pss_one (ps_ret (pe_and (pe_chain op_le op_le pe_int (pe_callB call_len_seq (by rfl) N.len PySem.boot_len (pa_cons (pv 0) pa_nil)) pe_int) (pe_and (pe_cmpR op_le (pe_callB (cr_sum rfl) (by rfl) N.sum (by decide +kernel) (pa_cons (pv 0) pa_nil)) pe_int (nomark _)) (pe_one (pe_callB (cr_all rfl) (by rfl) N.all (by decide +kernel) (pa_cons (pe_lc (own := [("count", 1)]) (g := gName 1) (tt := tYes) rfl scFi.nd (pi_list (pv 0)) (blkOk_by (own := [("count", 1)]) (N := nFi) (sc := defScope sLawFit) (by decide +kernel)) (fun _ _ _ _ _ => (pg_name (i := 1) scFi.nd rfl (Or.inl rfl))) (fun _ _ _ _ _ => pts_nil) (fun _ _ _ _ _ => (pe_chain op_le op_le pe_int (pv 1) pe_int))) pa_nil)))))), ?_⟩
    have lv : (natV l).length = l.length := natV_len l
    have no : ¬ Fits l → ∀ {H'}, Same H H' → Q (.bl false) H' := fun h H' s => by
      have := q H' s
      rwa [decide_eq_false h] at this
    refine ⟨_, rfl, a, _, rfl, .inl (sqL_new hA), _, _, rfl, rfl, _, rfl, ite2 (fun c1 => ?_) (fun c1 => ?_)⟩
    · have h1 : 1 ≤ l.length := by
        have := of_decide_eq_true c1
        omega
      refine ⟨_, _, rfl, rfl, _, rfl, ite2 (fun c2 => ?_) (fun c2 => ?_)⟩
      · have h2 : l.length ≤ 8 := by
          have := of_decide_eq_true c2
          omega
        have hAm : SqL K H a ((l.map fun n : Nat => (n : Int)).map V.int) := by
          rw [List.map_map]
          exact sqL_new hA
        refine ⟨_, rfl, a, _, rfl, hAm, _, _, rfl, rfl, _, rfl, ite2 (fun c3 => ?_) (fun c3 => ?_)⟩
        · have h3 : l.sum ≤ 60 := by
            have := of_decide_eq_true c3
            rw [sum_ints] at this
            omega
          refine ⟨_, rfl, a, rfl, ⟨_, sqL_new hA⟩, fun D nD => ?_⟩
          refine lc_pure (walk_list (K := K) (a := a) (xs := natV l)) ((l.map fun n => decide (2 ≤ n ∧ n ≤ 20)).map V.bl) (by rw [List.length_map, List.length_map, natV_len]) nD (fun _ s => sqL_new (s _ _ hA)) (fun i x H0 H' hi h0 y => ?_) (fun H4 s4 e4 => ?_)
          · obtain ⟨rfl, hy⟩ := y
            obtain ⟨n, hn, rfl⟩ := get_map (f := fun (i : Nat) => V.int (i : Int)) hy
            have val : ((l.map fun n => decide (2 ≤ n ∧ n ≤ 20)).map V.bl)[i]? = some (V.bl (decide (2 ≤ n ∧ n ≤ 20))) := by rw [List.getElem?_map, List.getElem?_map, hn]; rfl
            refine ⟨rfl, _, rfl, _, _, rfl, rfl, _, rfl, ite2 (fun c5 => ?_) (fun c5 => ?_)⟩
            · have c5 : 2 ≤ n := by
                have := of_decide_eq_true c5
                omega
              refine ⟨_, _, rfl, rfl, ?_⟩
              have e5 : decide ((n : Int) ≤ 20) = decide (2 ≤ n ∧ n ≤ 20) := decide_eq_decide.mpr ⟨fun h => ⟨c5, by omega⟩, fun h => by omega⟩
              dsimp only
              rw [e5]
              exact h0.put nD (fun _ _ e => e) val (by rw [List.length_map, List.length_map]; omega)
            · have c5 : ¬ 2 ≤ n := fun z => c5 (decide_eq_true (by omega))
              have e5 : false = decide (2 ≤ n ∧ n ≤ 20) := (decide_eq_false fun z => c5 z.1).symm
              rw [e5]
              exact h0.put nD (fun _ _ e => e) val (by rw [List.length_map, List.length_map]; omega)
          · refine ⟨D, _, rfl, sqL_new e4, ?_⟩
            have hall : (l.map fun n => decide (2 ≤ n ∧ n ≤ 20)).all id = decide (Fits l) := by
              rw [List.all_map, Bool.eq_iff_iff, List.all_eq_true, decide_eq_true_iff]
              exact ⟨fun h => ⟨h1, h2, h3, fun n hn => of_decide_eq_true (h n hn)⟩, fun h n hn => decide_eq_true (h.2.2.2 n hn)⟩
            rw [hall]
            exact q H4 s4
        · refine no (fun ft => c3 (decide_eq_true ?_)) (fun _ _ e => e)
          rw [sum_ints]
          have := ft.2.2.1
          omega
      · exact no (fun ft => c2 (decide_eq_true (by have := ft.2.1; omega))) (fun _ _ e => e)
    · refine ⟨_, rfl, iteF ?_⟩
      exact no (fun ft => c1 (decide_eq_true (by have := ft.1; omega))) (fun _ _ e => e)
def spTold (K : PySem.W.Frag) (C : Addr) : Sp := fun vs H Q _ => ∃ (a : Addr) (l : List Nat), vs = [.ref a] ∧ H a = some (.lst (natV l)) ∧ l.length ≤ 1000 ∧ (¬ Fits l → ∀ H', Same H H' → Q .non H') ∧ (Fits l → ∀ H' p q cs, Same H H' → BookAt K C H' p q cs → TallC H' q l cs → Q (.ref p) H')
abbrev nTd : List Str := ["counts", "error"]
theorem scTd : FnScope nTd ["counts"] (defScope sLawTold) := ⟨rfl, rfl, rfl, by decide +kernel, rfl, by decide +kernel, by decide +kernel⟩
theorem ok_told {f C CR fE fT : Addr} {fd fdE fdT : FuncData} (F : Fun K "_law_told" "_law_told" sLawTold f fd) (R : RefC K mg CR fE fdE) (Z : CatchC K CR) (N : Nones mg) (G_tallest : FnOk P w K mg base (L2.CX P w) 10 fT fdT ["counts"] (spTallest K C CR)) (C_tallest : CallC K mg "tallest" ["counts"] fT fdT) (kb : KBinds K fdT ["counts"] ["counts"] Ka.snG Ka.snG) : FnOk P w K mg base CX0 11 f fd ["counts"] (spTold K C) := by
  refine F.ok scTd (fun vs H Q E h => ?_) (fun cdv A outer s0 H vs Q E hr h => ?_)
  · obtain ⟨a, l, rfl, _⟩ := h
    rfl
  · obtain ⟨a, l, rfl, hA, ll, q0, q1⟩ := h
    refine ⟨_, pss_one (ps_try_as (i := 1) (tb := fun W => tRet (Ka.tCallKS0 (spTallest K C CR) Ka.snG (WE W) (tCons (tCB (rTupOf K) (tCons (tVar 0) tNil)) tNil)))
        (ts := fun a cls d => tRet (tIf (tTest (tOp rEq (tXf a cls d CR "word" (tVar 1)) (tC (.str (Str.ofString "counts"))))) (tC .non) (tC (.int 0)))) (Wout := fun _ _ _ _ => False) rfl rfl scTd.nd rfl rfl ⟨rfl, by decide, .inl R.gC⟩ takes0
        (fun W pn xe tk _ => pss_one (ps_ret (by exact (Ka.pe_callKS0 G_tallest (hr.mono (by decide)) rfl C_tallest.g C_tallest.kp kb (fun σ => passAt tk σ) (by exact (pk_cons (pe_callTy (tupOf_at (K := K) rfl) (by rfl) N.tuple (by decide +kernel) (pa_cons (pv 0) pa_nil)) pk_nil))))))
        (fun a oe cls d pn hz hf => pss_one (ps_ret (pe_ifExp (pt_cmpR op_eq (pe_xf Z.xf R.no hz hf (pv 1)) pe_str (nomark _)) pe_non pe_int)))), ?_⟩
    refine ⟨_, rfl, a, _, rfl, .inl ⟨sqL_new hA, fun t nt => ?_⟩⟩
    have st := same_new (o := .tup (natV l)) nt
    have et : upd H t (.tup (natV l)) t = some (.tup (natV l)) := upd_same
    generalize upd H t (.tup (natV l)) = H1 at st et
    dsimp only [tNil]
    refine ⟨t, l, rfl, sqT_new et, ll, fun nf => ?_, fun ft H' p q cs s' np hB hT => ?_⟩
    · intro H' d s' nd ed
      refine ⟨true, Z.te, fun _ a2 na => ?_, fun w => Bool.noConfusion w⟩
      refine ⟨.ref a2, rfl, rfl, rfl, d, _, .str _, rfl, ed, word_field _, rfl, _, rfl, iteYes (by decide +kernel) ?_⟩
      exact q0 nf _ (st.trans s')
    · exact q1 ft H' p q cs (st.trans s') hB hT
end
end Kb
namespace Kb
open PySem PySem.Spec PyProof.Rows L2
/-! ### the law's own lines: _law_leaving, _law_ends -/
structure EL where
  e : Addr
  m : Addr
  pa : Addr
  k : Nat
  s : Stp
def labV (s : Stp) : V := if s.call = true then .non else .str s.nm
def ELAt (H : Hp) (nm : Str) (x : EL) : Prop := H x.e = some (.tup [.ref x.m, .ref x.pa, labV x.s]) ∧ H x.m = some (.tup [.str (kindS x.s.call), .int (x.k : Int)]) ∧ PtsAt H x.pa (partsS nm x.s)
theorem ELAt.ts {H H' : Hp} {nm : Str} {x : EL} (k : TS H H') (h : ELAt H nm x) : ELAt H' nm x := by
  obtain ⟨h1, h2, L, h4, h5, h6⟩ := h
  exact ⟨k _ _ h1, k _ _ h2, L, k _ _ h4, h5, fun t ht => k _ _ (h6 t ht)⟩
abbrev ML := Stg × Addr × List EL
def trL (M : List ML) : List TR := M.map fun t => (stK t.1, t.2.1, t.2.2.map fun x => V.ref x.e)
theorem trL_keys (M : List ML) : (trL M).map (·.1) = (M.map (·.1)).map stK := by
  unfold trL
  rw [List.map_map, List.map_map]
  rfl
def pushL (M : List ML) (k : Stg) (x : EL) : List ML := M.map fun t => if t.1 = k then (t.1, t.2.1, t.2.2 ++ [x]) else t
theorem trL_push (M : List ML) (k : Stg) (x : EL) : trL (pushL M k x) = pushT (trL M) (stK k) (.ref x.e) := by
  unfold trL pushL pushT
  rw [List.map_map, List.map_map]
  refine List.map_congr_left fun t _ => ?_
  show _ = if stK t.1 = stK k then _ else _
  by_cases e : t.1 = k
  · rw [if_pos (by rw [e])]
    simp only [Function.comp_apply, if_pos e, List.map_append]
    rfl
  · rw [if_neg (fun z => e (stK_inj z))]
    simp only [Function.comp_apply, if_neg e]
theorem pushL_keys (M : List ML) (k : Stg) (x : EL) : (pushL M k x).map (·.1) = M.map (·.1) := by
  unfold pushL
  rw [List.map_map]
  refine List.map_congr_left fun t _ => ?_
  show (if t.1 = k then (t.1, t.2.1, t.2.2 ++ [x]) else t).1 = t.1
  split <;> rfl
/-- the first m steps that leave the stage j, with their places -/
def leavTo (ss : List (Addr × Stp)) : Nat → Nat → List (Nat × Stp)
  | 0, _ => []
  | m + 1, j => leavTo ss m j ++ (match ss[m]? with
    | some p => if p.2.n = j then [(m, p.2)] else []
    | none => [])
theorem leavTo_succ {ss : List (Addr × Stp)} {m : Nat} {p : Addr × Stp} (h : ss[m]? = some p) (j : Nat) : leavTo ss (m + 1) j = leavTo ss m j ++ (if p.2.n = j then [(m, p.2)] else []) := by
  rw [leavTo, h]
def ksL (t : ML) : List (Nat × Stp) := t.2.2.map fun x => (x.k, x.s)
structure HeldL (cs : List CA) (G : Hp) (i m : Nat) (M : List ML) : Prop where
  sound : ∀ t ∈ M, ∀ x ∈ t.2.2, ELAt G t.1.1 x
  full : ∀ t ∈ M, ∀ (ci : Nat) (c : CA), cs[ci]? = some c → t.1.1 = c.nm → ksL t = leavTo c.ss (if ci < i then c.ss.length else if ci = i then m else 0) t.1.2
theorem HeldL.ts {cs : List CA} {G G' : Hp} {i m : Nat} {M : List ML} (k : TS G G') (h : HeldL cs G i m M) : HeldL cs G' i m M := ⟨fun t ht x hx => (h.sound t ht x hx).ts k, h.full⟩
theorem HeldL.next {cs : List CA} {G : Hp} {i : Nat} {c : CA} {M : List ML} (hc : cs[i]? = some c) (h : HeldL cs G i c.ss.length M) : HeldL cs G (i + 1) 0 M := ⟨h.sound, fun t ht ci c' hci e => by
  rw [h.full t ht ci c' hci e]
  by_cases h1 : ci < i
  · rw [if_pos h1, if_pos (by omega)]
  · rw [if_neg h1]
    by_cases h2 : ci = i
    · subst h2
      rw [hc] at hci
      cases hci
      rw [if_pos rfl, if_pos (by omega)]
    · rw [if_neg h2, if_neg (by omega)]
      by_cases h3 : ci = i + 1
      · rw [if_pos h3]
      · rw [if_neg h3]⟩
theorem HeldL.snoc {cs : List CA} (nd : (cs.map (·.nm)).Nodup) {G : Hp} {i : Nat} {c : CA} {M : List ML} (hc : cs[i]? = some c) (h : HeldL cs G i 0 M) (j : Nat) (l : Addr) : HeldL cs G i 0 (M ++ [((c.nm, j), l, [])]) := by
  refine ⟨fun t ht x hx => ?_, fun t ht ci c' hci e => ?_⟩
  · rcases List.mem_append.mp ht with z | z
    · exact h.sound t z x hx
    · rw [List.mem_singleton.mp z] at hx
      exact nomatch hx
  · rcases List.mem_append.mp ht with z | z
    · exact h.full t z ci c' hci e
    · rw [List.mem_singleton.mp z] at e ⊢
      have e1 : (cs.map (·.nm))[ci]? = some c.nm := by rw [List.getElem?_map, hci]; show some c'.nm = _; rw [← e]
      have e2 : (cs.map (·.nm))[i]? = some c.nm := by rw [List.getElem?_map, hc]; rfl
      have : ci = i := (List.getElem?_inj (lt_of_get e1) nd).mp (e1.trans e2.symm)
      rw [this, if_neg (Nat.lt_irrefl _), if_pos rfl]
      rfl
theorem HeldL.push {cs : List CA} (nd : (cs.map (·.nm)).Nodup) {G : Hp} {i m : Nat} {c : CA} {p : Addr × Stp} {M : List ML} {x : EL} (hc : cs[i]? = some c) (hp : c.ss[m]? = some p) (h : HeldL cs G i m M) (hx : ELAt G c.nm x) (xk : x.k = m) (xs : x.s = p.2) : HeldL cs G i (m + 1) (pushL M (c.nm, p.2.n) x) := by
  have same : ∀ {ci c'}, cs[ci]? = some c' → c'.nm = c.nm → ci = i := fun {ci c'} hci en => by
    have e1 : (cs.map (·.nm))[ci]? = some c.nm := by rw [List.getElem?_map, hci, ← en]; rfl
    have e2 : (cs.map (·.nm))[i]? = some c.nm := by rw [List.getElem?_map, hc]; rfl
    exact (List.getElem?_inj (lt_of_get e1) nd).mp (e1.trans e2.symm)
  refine ⟨fun t ht y hy => ?_, fun t ht ci c' hci e => ?_⟩
  · obtain ⟨t0, ht0, rfl⟩ := List.mem_map.mp ht
    by_cases w : t0.1 = (c.nm, p.2.n)
    · rw [if_pos w] at hy ⊢
      rcases List.mem_append.mp hy with z | z
      · exact h.sound t0 ht0 y z
      · rw [List.mem_singleton.mp z]
        show ELAt G t0.1.1 x
        rw [w]
        exact hx
    · rw [if_neg w] at hy ⊢
      exact h.sound t0 ht0 y hy
  · obtain ⟨t0, ht0, rfl⟩ := List.mem_map.mp ht
    by_cases w : t0.1 = (c.nm, p.2.n)
    · rw [if_pos w] at e ⊢
      have e : t0.1.1 = c'.nm := e
      rw [w] at e
      obtain rfl := same hci e.symm
      rw [hc] at hci
      cases hci
      have h0 := h.full t0 ht0 ci c hc (by rw [w])
      rw [if_neg (Nat.lt_irrefl _), if_pos rfl] at h0 ⊢
      show (t0.2.2 ++ [x]).map (fun x => (x.k, x.s)) = leavTo c.ss (m + 1) t0.1.2
      have h0 : t0.2.2.map (fun x => (x.k, x.s)) = leavTo c.ss m t0.1.2 := h0
      rw [List.map_append, h0, leavTo_succ hp, w, if_pos rfl, List.map_singleton, xk, xs]
    · rw [if_neg w] at e ⊢
      rw [h.full t0 ht0 ci c' hci e]
      by_cases h1 : ci < i
      · rw [if_pos h1, if_pos h1]
      · rw [if_neg h1, if_neg h1]
        by_cases h2 : ci = i
        · subst h2
          rw [hc] at hci
          cases hci
          rw [if_pos rfl, if_pos rfl, leavTo_succ hp, if_neg fun z => w (Prod.ext e z.symm), List.append_nil]
        · rw [if_neg h2, if_neg h2]
/-- the law's table of the lines that leave each stage -/
def LeavAt (H : Hp) (q : Addr) (cs : List CA) : Prop := ∃ M : List ML, H q = some (.dT (kvT (trL M))) ∧ M.map (·.1) = stagesOf cs ∧ (∀ t ∈ M, H t.2.1 = some (.lst (t.2.2.map fun x => V.ref x.e))) ∧ HeldL cs H cs.length 0 M
theorem LeavAt.mono {H H' : Hp} {q : Addr} {cs : List CA} (s : Same H H') (h : LeavAt H q cs) : LeavAt H' q cs := by
  obtain ⟨M, h1, h2, h3, h4⟩ := h
  exact ⟨M, s _ _ h1, h2, fun t ht => s _ _ (h3 t ht), h4.ts (TS.of s)⟩
theorem stagesOf_nd {cs : List CA} (nd : (cs.map (·.nm)).Nodup) : (stagesOf cs).Nodup := (List.mergeSort_perm _ stLe).nodup_iff.mp (stagesS_nd nd)
section
variable {P : Program} {w : World} {K : PySem.W.Frag} {mg : Str → Option Value} {base : Heap}
def spLawLeav (K : PySem.W.Frag) : Sp := fun vs H Q _ => ∃ (a : Addr) (cs : List CA), vs = [.ref a] ∧ CsAt K H a cs ∧ CsOk cs ∧ ∀ H' q, Same H H' → H q = none → LeavAt H' q cs → Q (.ref q) H'
abbrev nLv : List Str := ["courses", "leaving", "name", "stages", "ends", "steps", "number", "k", "step", "row"]
theorem scLv : FnScope nLv ["courses"] (defScope sLawLeaving) := ⟨rfl, rfl, rfl, by decide +kernel, rfl, by decide +kernel, by decide +kernel⟩
theorem ok_lawleav {f : Addr} {fd : FuncData} (F : Fun K "_law_leaving" "_law_leaving" sLawLeaving f fd) (N : Nones mg) : FnOk P w K mg base CX0 1 f fd ["courses"] (spLawLeav K) := by
  refine F.ok scLv (fun vs H Q E h => ?_) (fun cdv A outer s0 H vs Q E hr h => ?_)
  · obtain ⟨a, cs, rfl, _⟩ := h
    rfl
  · obtain ⟨a, cs, rfl, hC, ok, q⟩ := h
    refine ⟨_, pss_cons (ps_set (i := 1) scLv.nd rfl (Or.inl rfl) pe_dnewT)
      (pss_cons (ps_for PassesOwn.never rfl (pi_tup (pv 0)) (pg_tup rfl (pgs_cons (pg_name (i := 2) scLv.nd rfl (Or.inl rfl)) (pgs_cons (pg_name (i := 3) scLv.nd rfl (Or.inl rfl)) (pgs_cons (pg_name (i := 4) scLv.nd rfl (Or.inl rfl)) (pgs_cons (pg_name (i := 5) scLv.nd rfl (Or.inl rfl)) pgs_nil)))))
        (pss_cons (ps_for PassesOwn.never rfl (pi_range1 (by rfl) N.range (pa_cons (pv 3) pa_nil)) (pg_name (i := 6) scLv.nd rfl (Or.inl rfl))
          (pss_one (ps_dput (hu_of hr) (pv 1) (pe_tup (pa_cons (pv 2) (pa_cons (pv 6) pa_nil))) (pe_lst pa_nil) rfl)))
        (pss_one (ps_for PassesOwn.never rfl (Ka.pi_enumT (by rfl) N.enumerate (pa_cons (pv 5) pa_nil)) (pg_tup rfl (pgs_cons (pg_name (i := 7) scLv.nd rfl (Or.inl rfl)) (pgs_cons (pg_name (i := 8) scLv.nd rfl (Or.inl rfl)) pgs_nil)))
          (pss_cons (ps_set (i := 9) scLv.nd rfl (Or.inl rfl) (pe_dget (hu_of hr) (pv 1) (pe_tup (pa_cons (pv 2) (pa_cons (pe_ix ix_tup (pv 8) pe_int (fun _ _ => rfl)) pa_nil))) (fun _ _ => rfl)))
          (pss_one (ps_if (pt_cmpR op_eq (pe_ix ix_tup (pv 8) pe_int (fun _ _ => rfl)) pe_str (nomark _)) (pss_one (ps_expr (pe_bm PySem.F.plainAttrs_list PySem.F.slot_list_append PySem.F.type_list_append mt_append (pv 9) (pa_cons (pe_tup (pa_cons (pe_tup (pa_cons pe_str (pa_cons (pv 7) pa_nil))) (pa_cons (pe_tup (pa_cons (pe_tup (pa_cons (pv 2) (pa_cons (pe_ix ix_tup (pv 8) pe_int (fun _ _ => rfl)) pa_nil))) pa_nil)) (pa_cons (pe_ix ix_tup (pv 8) pe_int (fun _ _ => rfl)) pa_nil)))) pa_nil)))) (pss_one (ps_expr (pe_bm PySem.F.plainAttrs_list PySem.F.slot_list_append PySem.F.type_list_append mt_append (pv 9) (pa_cons (pe_tup (pa_cons (pe_tup (pa_cons pe_str (pa_cons (pv 7) pa_nil))) (pa_cons (pe_tup (pa_cons (pe_tup (pa_cons (pe_ix ix_tup (pv 8) pe_int (fun _ _ => rfl)) (pa_cons pe_int pa_nil))) (pa_cons (pe_tup (pa_cons (pv 2) (pa_cons (pe_ix ix_tup (pv 8) pe_int (fun _ _ => rfl)) pa_nil))) pa_nil))) (pa_cons pe_non pa_nil)))) pa_nil)))))))))))
      (pss_one (ps_ret (pv 1)))), ?_⟩
    have st60 := ok.st
    have n8 := ok.n8
    intro D nD
    have sD := same_new (o := .dT []) nD
    have eD : upd H D (.dT []) D = some (.dT []) := upd_same
    generalize upd H D (.dT []) = HD at sD eD
    refine ⟨_, rfl, a, rfl, ⟨_, Same.sqT sD hC.1⟩, ?_⟩
    refine for_it (walk_tup (K := K) (a := a) (xs := cs.map fun c => V.ref c.a)) (fun i σ Z => ∃ (x2 x3 x4 x5 x6 x7 x8 x9 : Option V) (M : List ML), σ = [some (.ref a), some (.ref D), x2, x3, x4, x5, x6, x7, x8, x9] ∧ Same H Z ∧ Z D = some (.dT (kvT (trL M))) ∧ M.map (·.1) = stagesOf (cs.take i) ∧ LsAt H Z D (1000 * i) (trL M) ∧ HeldL cs Z i 0 M) ⟨none, none, none, none, none, none, none, none, [], rfl, sD, eD, rfl, ⟨(fun t ht => nomatch ht), List.nodup_nil⟩, ⟨(fun t ht => nomatch ht), fun t ht => nomatch ht⟩⟩ (fun i σ Z _ h => ?_) (fun i y σ Z Z' hi h yy => ?_) (fun σ Z h => ?_)
    · obtain ⟨_, _, _, _, _, _, _, _, _, _, sZ, _⟩ := h
      exact Same.sqT sZ hC.1
    · obtain ⟨rfl, hy⟩ := yy
      obtain ⟨c, hc, rfl⟩ := get_map hy
      obtain ⟨x2, x3, x4, x5, x6, x7, x8, x9, M, rfl, sZ, eZ, kM, lM, hM⟩ := h
      have mc := List.mem_of_getElem? hc
      have okc := ok.ok c mc
      have n1 := okc.n1
      have osz := okc.sz
      have hi8 := lt_of_get hc
      have hCc := (hC.2 c mc).mono sZ
      refine ⟨c.a, _, rfl, hCc.t, rfl, _, _, rfl, _, _, rfl, _, _, rfl, _, _, rfl, rfl, ?_⟩
      refine ⟨_, rfl, _, rfl, by omega, by omega, ?_⟩
      have en : ((c.n : Int)).toNat = c.n := by omega
      rw [en]
      have ndS := stagesOf_nd ok.nd
      have stt : stagesOf (cs.take (i + 1)) = stagesOf (cs.take i) ++ (List.range c.n).map fun k => (c.nm, k) := stagesOf_snoc hc
      have newk : ∀ j, (c.nm, j) ∉ stagesOf (cs.take i) ++ (List.range j).map fun k => (c.nm, k) := fun j z => by
        have := key_new ok.nd hc j
        apply this
        have e1 : keysOf (cs.take i) = (stagesOf (cs.take i)).map stK := (stagesOf_keys _).symm
        have e2 : keysC c j = ((List.range j).map fun k => (c.nm, k)).map stK := by unfold keysC; rw [List.map_map]; rfl
        rw [e1, e2, ← List.map_append]
        exact List.mem_map.mpr ⟨_, z, rfl⟩
      refine for_it (walk_r0 (n := c.n)) (fun j σ Y => ∃ (x6 x7 x8 x9 : Option V) (M : List ML), σ = [some (.ref a), some (.ref D), some (.str c.nm), some (.int (c.n : Int)), some (.ref c.ea), some (.ref c.sa), x6, x7, x8, x9] ∧ Same H Y ∧ Y D = some (.dT (kvT (trL M))) ∧ M.map (·.1) = stagesOf (cs.take i) ++ ((List.range j).map fun k => (c.nm, k)) ∧ LsAt H Y D (1000 * i) (trL M) ∧ HeldL cs Y i 0 M) ⟨_, _, _, _, M, rfl, sZ, eZ, by rw [kM]; simp, lM, hM⟩ (fun _ _ _ _ _ => True.intro) (fun j y σ Y Y' hj h yy => ?_) (fun σ Y h => ?_)
      · obtain ⟨rfl, rfl⟩ := yy
        obtain ⟨x6, x7, x8, x9, M, rfl, sY, eY, kM, lM, hM⟩ := h
        refine ⟨smallE (by show 0 ≤ 1000000; decide), fun l nl => ?_⟩
        have sl := same_new (o := .lst []) nl
        have el : upd Y' l (.lst []) l = some (.lst []) := upd_same
        have nT : ∀ t ∈ trL M, t.2.1 ≠ l := fun t ht => ne_of_none (lM.st t ht).1 nl
        have lM := lM.mono fun t _ o e => sl _ _ e
        have lD : l ≠ D := fun z => by
          rw [z, eY] at nl
          cases nl
        have nlH := sY.free nl
        have eY := sl _ _ eY
        have sY := sY.trans sl
        have hM := hM.ts (TS.of sl)
        generalize upd Y' l (.lst []) = Y1 at sl el lM eY sY hM
        refine ⟨_, rfl, _, rfl, _, rfl, smallE (by show 2 ≤ 1000000; decide), fun b nb => ?_⟩
        have sb := same_new (o := .tup [V.str c.nm, V.int (j : Int)]) nb
        have eb : upd Y1 b (.tup [V.str c.nm, V.int (j : Int)]) b = some (.tup ((stK (c.nm, j)).map kV)) := upd_same
        have lM := lM.mono fun t _ o e => sb _ _ e
        have eY := sb _ _ eY
        have el := sb _ _ el
        have sY := sY.trans sb
        have hM := hM.ts (TS.of sb)
        generalize upd Y1 b (.tup [V.str c.nm, V.int (j : Int)]) = Y2 at sb eb lM eY el sY hM
        have len : (kvT (trL M)).length ≤ 60 := by
          have h1 : (kvT (trL M)).length = (M.map (·.1)).length := by unfold kvT trL; rw [List.length_map, List.length_map, List.length_map]
          have h2 := nStages_le cs (i + 1)
          have h3 := nStages_snoc hc
          rw [h1, kM, List.length_append, stagesOf_len, List.length_map, List.length_range]
          omega
        refine ⟨D, _, rfl, DPut.t eY eb (small (by omega)), x6 |> fun _ => some (.int (j : Int)), x7, x8, x9, M ++ [((c.nm, j), l, [])], rfl, fun b2 o e => ?_, ?_, ?_, ?_, ?_⟩
        · rw [upd_ne (ne_of_none e nD)]
          exact sY _ _ e
        · rw [upd_same, putK_new]
          · unfold kvT trL
            rw [List.map_append, List.map_append]
            rfl
          · rw [kvT_keys, trL_keys, kM]
            intro z
            obtain ⟨y, hy, e⟩ := List.mem_map.mp z
            rw [stK_inj e] at hy
            exact newk j hy
        · rw [List.map_append, kM, List.append_assoc, List.range_succ, List.map_append]
          rfl
        · have e5 : trL (M ++ [((c.nm, j), l, [])]) = trL M ++ [(stK (c.nm, j), l, [])] := by unfold trL; rw [List.map_append]; rfl
          rw [e5]
          refine (lM.snoc el nlH lD nT).mono fun t ht o e => ?_
          rw [upd_ne]
          · exact e
          · rcases List.mem_append.mp ht with z | z
            · exact (lM.st t z).2.2.1
            · rw [List.mem_singleton.mp z]
              exact lD
        · refine (hM.snoc ok.nd hc j l).ts fun c2 xs e => ?_
          rw [upd_ne]
          · exact e
          · intro z
            rw [z, eY] at e
            cases e
      · obtain ⟨x6, x7, x8, x9, M, rfl, sY, eY, kM, lM, hM⟩ := h
        rw [← stt] at kM
        have hCy := (hC.2 c mc).mono sY
        refine ⟨_, rfl, c.sa, _, rfl, hCy.s, ?_⟩
        refine for_it (walk_enumT (K := K) (a := c.sa) (xs := c.ss.map fun p => V.ref p.1)) (fun m σ X => ∃ (x7 x8 x9 : Option V) (M : List ML), σ = [some (.ref a), some (.ref D), some (.str c.nm), some (.int (c.n : Int)), some (.ref c.ea), some (.ref c.sa), x6, x7, x8, x9] ∧ Same H X ∧ X D = some (.dT (kvT (trL M))) ∧ M.map (·.1) = stagesOf (cs.take (i + 1)) ∧ LsAt H X D (1000 * i + m) (trL M) ∧ HeldL cs X i m M) ⟨x7, x8, x9, M, rfl, sY, eY, kM, lM, hM⟩ (fun m σ X _ h => ?_) (fun m y σ X X' hm h yy => ?_) (fun σ X h => ?_)
        · obtain ⟨_, _, _, _, _, sX, _⟩ := h
          exact Same.sqT sX (hC.2 c mc).s
        · obtain ⟨U, z, v, rfl, nU, rfl, hz, hv⟩ := yy
          obtain ⟨x7, x8, x9, M, rfl, sX, eX, kM, lM, hM⟩ := h
          cases hz
          obtain ⟨p, hp, rfl⟩ := get_map hv
          have mp := List.mem_of_getElem? hp
          have hml := lt_of_get hp
          have sU := same_new (o := .tup [V.int (m : Nat), V.ref p.1]) nU
          have hU : upd X U (.tup [V.int (m : Nat), V.ref p.1]) U = some (.tup [V.int (m : Nat), V.ref p.1]) := upd_same
          have lM := lM.mono fun t _ o e => sU _ _ e
          have eX := sU _ _ eX
          have sX := sX.trans sU
          have hM := hM.ts (TS.of sU)
          generalize upd X U (.tup [V.int (m : Nat), V.ref p.1]) = X1 at sU hU eX lM sX hM
          have ep := ((hC.2 c mc).mono sX).p p mp
          refine ⟨U, _, rfl, sqT_new hU, rfl, _, _, rfl, _, _, rfl, rfl, ?_⟩
          refine ⟨_, rfl, _, rfl, _, rfl, p.1, _, _, .int (p.2.n : Nat), rfl, rfl, sqT_new ep, rfl, smallE (by show 2 ≤ 1000000; decide), fun b nb => ?_⟩
          have sb := same_new (o := .tup [V.str c.nm, V.int (p.2.n : Nat)]) nb
          have eb : upd X1 b (.tup [V.str c.nm, V.int (p.2.n : Nat)]) b = some (.tup ((stK (c.nm, p.2.n)).map kV)) := upd_same
          have lM := lM.mono fun t _ o e => sb _ _ e
          have eX := sb _ _ eX
          have ep := sb _ _ ep
          have sX := sX.trans sb
          have hM := hM.ts (TS.of sb)
          generalize upd X1 b (.tup [V.str c.nm, V.int (p.2.n : Nat)]) = X2 at sb eb eX lM sX hM ep
          have mst : (c.nm, p.2.n) ∈ M.map (·.1) := by
            rw [kM, stt]
            exact List.mem_append_right _ (List.mem_map.mpr ⟨_, List.mem_range.mpr (okc.sl p mp).1, rfl⟩)
          obtain ⟨t, ht, et⟩ := List.mem_map.mp mst
          have htr : (stK t.1, t.2.1, t.2.2.map fun x => V.ref x.e) ∈ trL M := List.mem_map.mpr ⟨t, ht, rfl⟩
          have kn : ((trL M).map (·.1)).Nodup := by
            rw [trL_keys, kM]
            refine stK_nd ?_
            have := keys_nd ok.nd (i + 1) (by omega)
            rw [← stagesOf_keys] at this
            unfold List.Nodup at this ⊢
            rw [List.pairwise_map] at this
            exact this.imp fun ne e => ne (by rw [e])
          have hv : valV (kvT (trL M)) (stK (c.nm, p.2.n)) = some (.ref t.2.1) := valV_mem (by rw [kvT_keys]; exact kn) (List.mem_map.mpr ⟨_, htr, by rw [et]⟩)
          obtain ⟨a1, a2, a3, a4⟩ := lM.st _ htr
          rw [List.length_map] at a4
          refine ⟨D, .ref t.2.1, rfl, hv ▸ DGet.t eX eb, ?_⟩
          refine ⟨_, rfl, p.1, _, _, .str (kindS p.2.call), rfl, rfl, sqT_new ep, rfl, rfl, _, rfl, ?_⟩
          rw [kind_do]
          have fin : ∀ {Z : Hp} {e mv pa : Addr}, Same X2 Z → Z e = some (.tup [.ref mv, .ref pa, labV p.2]) → Z mv = some (.tup [.str (kindS p.2.call), .int (m : Int)]) → PtsAt Z pa (partsS c.nm p.2) → (Same H (upd Z t.2.1 (.lst ((t.2.2.map fun x => V.ref x.e) ++ [.ref e]))) ∧ upd Z t.2.1 (.lst ((t.2.2.map fun x => V.ref x.e) ++ [.ref e])) D = some (.dT (kvT (trL (pushL M (c.nm, p.2.n) ⟨e, mv, pa, m, p.2⟩)))) ∧ (pushL M (c.nm, p.2.n) ⟨e, mv, pa, m, p.2⟩).map (·.1) = stagesOf (cs.take (i + 1)) ∧ LsAt H (upd Z t.2.1 (.lst ((t.2.2.map fun x => V.ref x.e) ++ [.ref e]))) D (1000 * i + (m + 1)) (trL (pushL M (c.nm, p.2.n) ⟨e, mv, pa, m, p.2⟩)) ∧ HeldL cs (upd Z t.2.1 (.lst ((t.2.2.map fun x => V.ref x.e) ++ [.ref e]))) i (m + 1) (pushL M (c.nm, p.2.n) ⟨e, mv, pa, m, p.2⟩)) := fun {Z e mv pa} sZ h1 h2 h3 => by
            have lM := lM.mono fun t _ o e => sZ _ _ e
            have a1 := sZ _ _ a1
            have eX := sZ _ _ eX
            have hM := hM.ts (TS.of sZ)
            have tk : TS Z (upd Z t.2.1 (.lst ((t.2.2.map fun x => V.ref x.e) ++ [.ref e]))) := fun c2 xs e2 => by
              rw [upd_ne]
              · exact e2
              · intro z
                rw [z, a1] at e2
                cases e2
            refine ⟨fun b2 o z => ?_, ?_, by rw [pushL_keys]; exact kM, ?_, ?_⟩
            · rw [upd_ne (ne_of_none z a2)]
              exact sZ _ _ (sX _ _ z)
            · rw [upd_ne a3.symm, trL_push, pushT_kv]
              exact eX
            · rw [trL_push, ← et]
              exact lM.push kn htr
            · exact (hM.push ok.nd hc hp (x := ⟨e, mv, pa, m, p.2⟩) ⟨h1, h2, h3⟩ rfl rfl).ts tk
          cases hcall : p.2.call with
          | false =>
            refine iteYes rfl ?_
            refine ⟨_, rfl, .inl ⟨rfl, _, sqL_new a1⟩, _, rfl, smallE (by show 2 ≤ 1000000; decide), fun mv nmv => ?_⟩
            have s1 := same_new (o := .tup [V.str "do", V.int (m : Int)]) nmv
            have e1 : upd X2 mv (.tup [V.str "do", V.int (m : Int)]) mv = some (.tup [V.str (kindS p.2.call), V.int (m : Int)]) := by rw [hcall]; exact upd_same
            have ep1 := s1 _ _ ep
            generalize upd X2 mv (.tup [V.str "do", V.int (m : Int)]) = W1 at s1 e1 ep1
            refine ⟨_, rfl, _, rfl, p.1, _, _, .int (p.2.o : Nat), rfl, rfl, sqT_new ep1, rfl, smallE (by show 2 ≤ 1000000; decide), fun g1 ng1 => ?_⟩
            have s2 := same_new (o := .tup [V.str c.nm, V.int (p.2.o : Nat)]) ng1
            have e2 : upd W1 g1 (.tup [V.str c.nm, V.int (p.2.o : Nat)]) g1 = some (.tup (stV (c.nm, p.2.o))) := upd_same
            have e1 := s2 _ _ e1
            have ep1 := s2 _ _ ep1
            have s12 := s1.trans s2
            generalize upd W1 g1 (.tup [V.str c.nm, V.int (p.2.o : Nat)]) = W2 at s2 e2 e1 ep1 s12
            refine ⟨smallE (by show 1 ≤ 1000000; decide), fun pa npa => ?_⟩
            have s3 := same_new (o := .tup [V.ref g1]) npa
            have e3 : upd W2 pa (.tup [V.ref g1]) pa = some (.tup [V.ref g1]) := upd_same
            have e1 := s3 _ _ e1
            have e2 := s3 _ _ e2
            have ep1 := s3 _ _ ep1
            have s13 := s12.trans s3
            generalize upd W2 pa (.tup [V.ref g1]) = W3 at s3 e3 e2 e1 ep1 s13
            refine ⟨_, rfl, p.1, _, _, .str p.2.nm, rfl, rfl, sqT_new ep1, rfl, smallE (by show 3 ≤ 1000000; decide), fun e ne => ?_⟩
            have s4 := same_new (o := .tup [V.ref mv, V.ref pa, V.str p.2.nm]) ne
            have e4 : upd W3 e (.tup [V.ref mv, V.ref pa, V.str p.2.nm]) e = some (.tup [V.ref mv, V.ref pa, labV p.2]) := by unfold labV; rw [hcall]; exact upd_same
            have s14 := s13.trans s4
            have r := fin s14 e4 (s4 _ _ e1) ⟨[(g1, (c.nm, p.2.o))], s4 _ _ e3, by unfold partsS; rw [hcall]; rfl, fun u hu => by rw [List.mem_singleton.mp hu]; exact s4 _ _ e2⟩
            exact ⟨t.2.1, _, _, rfl, rfl, s14 _ _ a1, by rw [List.length_map]; exact small (by omega), _, _, _, _, rfl, r⟩
          | true =>
            refine iteNo rfl ?_
            refine ⟨_, rfl, .inl ⟨rfl, _, sqL_new a1⟩, _, rfl, smallE (by show 2 ≤ 1000000; decide), fun mv nmv => ?_⟩
            have s1 := same_new (o := .tup [V.str "call", V.int (m : Int)]) nmv
            have e1 : upd X2 mv (.tup [V.str "call", V.int (m : Int)]) mv = some (.tup [V.str (kindS p.2.call), V.int (m : Int)]) := by rw [hcall]; exact upd_same
            have ep1 := s1 _ _ ep
            generalize upd X2 mv (.tup [V.str "call", V.int (m : Int)]) = W1 at s1 e1 ep1
            refine ⟨_, rfl, p.1, _, _, .str p.2.nm, rfl, rfl, sqT_new ep1, rfl, smallE (by show 2 ≤ 1000000; decide), fun g0 ng0 => ?_⟩
            have s0' := same_new (o := .tup [V.str p.2.nm, V.int 0]) ng0
            have e0 : upd W1 g0 (.tup [V.str p.2.nm, V.int 0]) g0 = some (.tup (stV (p.2.nm, 0))) := upd_same
            have e1 := s0' _ _ e1
            have ep1 := s0' _ _ ep1
            have s01 := s1.trans s0'
            generalize upd W1 g0 (.tup [V.str p.2.nm, V.int 0]) = W0 at s0' e0 e1 ep1 s01
            refine ⟨_, rfl, _, rfl, p.1, _, _, .int (p.2.o : Nat), rfl, rfl, sqT_new ep1, rfl, smallE (by show 2 ≤ 1000000; decide), fun g1 ng1 => ?_⟩
            have s2 := same_new (o := .tup [V.str c.nm, V.int (p.2.o : Nat)]) ng1
            have e2 : upd W0 g1 (.tup [V.str c.nm, V.int (p.2.o : Nat)]) g1 = some (.tup (stV (c.nm, p.2.o))) := upd_same
            have e1 := s2 _ _ e1
            have e0 := s2 _ _ e0
            have s12 := s01.trans s2
            generalize upd W0 g1 (.tup [V.str c.nm, V.int (p.2.o : Nat)]) = W2 at s2 e2 e1 e0 s12
            refine ⟨smallE (by show 2 ≤ 1000000; decide), fun pa npa => ?_⟩
            have s3 := same_new (o := .tup [V.ref g0, V.ref g1]) npa
            have e3 : upd W2 pa (.tup [V.ref g0, V.ref g1]) pa = some (.tup [V.ref g0, V.ref g1]) := upd_same
            have e1 := s3 _ _ e1
            have e2 := s3 _ _ e2
            have e0 := s3 _ _ e0
            have s13 := s12.trans s3
            generalize upd W2 pa (.tup [V.ref g0, V.ref g1]) = W3 at s3 e3 e2 e1 e0 s13
            refine ⟨smallE (by show 3 ≤ 1000000; decide), fun e ne => ?_⟩
            have s4 := same_new (o := .tup [V.ref mv, V.ref pa, V.non]) ne
            have e4 : upd W3 e (.tup [V.ref mv, V.ref pa, V.non]) e = some (.tup [V.ref mv, V.ref pa, labV p.2]) := by unfold labV; rw [hcall]; exact upd_same
            have s14 := s13.trans s4
            have r := fin s14 e4 (s4 _ _ e1) ⟨[(g0, (p.2.nm, 0)), (g1, (c.nm, p.2.o))], s4 _ _ e3, by unfold partsS; rw [hcall]; rfl, fun u hu => by
              rcases List.mem_cons.mp hu with z | z
              · rw [z]
                exact s4 _ _ e0
              · rw [List.mem_singleton.mp z]
                exact s4 _ _ e2⟩
            exact ⟨t.2.1, _, _, rfl, rfl, s14 _ _ a1, by rw [List.length_map]; exact small (by omega), _, _, _, _, rfl, r⟩
        · obtain ⟨x7, x8, x9, M, rfl, sX, eX, kM, lM, hM⟩ := h
          rw [List.length_map] at lM hM
          exact ⟨_, _, _, _, _, _, _, _, M, rfl, sX, eX, kM, lM.le (by omega), hM.next hc⟩
    · obtain ⟨x2, x3, x4, x5, x6, x7, x8, x9, M, rfl, sZ, eZ, kM, lM, hM⟩ := h
      rw [List.length_map] at hM
      rw [List.length_map, List.take_length] at kM
      refine ⟨_, rfl, q Z D sZ nD ⟨M, eZ, kM, fun t ht => ?_, hM⟩⟩
      have htr : (stK t.1, t.2.1, t.2.2.map fun x => V.ref x.e) ∈ trL M := List.mem_map.mpr ⟨t, ht, rfl⟩
      exact (lM.st _ htr).1
end
end Kb
namespace Kb
open PySem PySem.Spec PyProof.Rows L2
/-! ### the law's list of ends -/
/-- stages in a list -/
def StLs (H : Hp) (q : Addr) (xs : List Stg) : Prop := ∃ L : List (Addr × Stg), H q = some (.lst (L.map fun t => V.ref t.1)) ∧ L.map (·.2) = xs ∧ ∀ t ∈ L, H t.1 = some (.tup (stV t.2))
theorem StLs.mono {H H' : Hp} {q : Addr} {xs : List Stg} (s : Same H H') (h : StLs H q xs) : StLs H' q xs := by
  obtain ⟨L, h1, h2, h3⟩ := h
  exact ⟨L, s _ _ h1, h2, fun t ht => s _ _ (h3 t ht)⟩
theorem ends_len {cs : List CA} (ok : CsOk cs) : ∀ i, (endsS (cs.take i)).length ≤ 20 * (cs.take i).length := by
  intro i
  have : ∀ l : List CA, (∀ c ∈ l, c ∈ cs) → (endsS l).length ≤ 20 * l.length := by
    intro l
    induction l with
    | nil => intro _; exact Nat.zero_le _
    | cons c l ih =>
      intro h
      have h1 := ih fun d hd => h d (List.mem_cons_of_mem _ hd)
      have okc := ok.ok c (h c List.mem_cons_self)
      have h2 : c.es.length ≤ c.n := by
        have nd : c.es.Nodup := List.Pairwise.imp (fun {a b} (h : a < b) (e : a = b) => by omega) okc.asc
        have := nd_le nd (m := List.range c.n) fun x hx => List.mem_range.mpr (okc.el x hx)
        rwa [List.length_range] at this
      have := okc.n1
      have e : endsS (c :: l) = (c.es.map fun e => (c.nm, e)) ++ endsS l := by unfold endsS; rw [List.flatMap_cons]
      rw [e, List.length_append, List.length_map, List.length_cons]
      omega
  exact this _ fun c hc => List.mem_of_mem_take hc
section
variable {P : Program} {w : World} {K : PySem.W.Frag} {mg : Str → Option Value} {base : Heap}
def spLawEnds (K : PySem.W.Frag) : Sp := fun vs H Q _ => ∃ (a : Addr) (cs : List CA), vs = [.ref a] ∧ CsAt K H a cs ∧ CsOk cs ∧ ∀ H' q, Same H H' → H q = none → StLs H' q (endsS cs) → Q (.ref q) H'
abbrev nLe2 : List Str := ["courses", "found", "name", "stages", "ends", "steps", "number"]
theorem scLe2 : FnScope nLe2 ["courses"] (defScope sLawEnds) := ⟨rfl, rfl, rfl, by decide +kernel, rfl, by decide +kernel, by decide +kernel⟩
theorem ok_lawends {f : Addr} {fd : FuncData} (F : Fun K "_law_ends" "_law_ends" sLawEnds f fd) (N : Nones mg) : FnOk P w K mg base CX0 1 f fd ["courses"] (spLawEnds K) := by
  refine F.ok scLe2 (fun vs H Q E h => ?_) (fun cdv A outer s0 H vs Q E hr h => ?_)
  · obtain ⟨a, cs, rfl, _⟩ := h
    rfl
  · obtain ⟨a, cs, rfl, hC, ok, q⟩ := h
    refine ⟨_, pss_cons (ps_set (i := 1) scLe2.nd rfl (Or.inl rfl) (pe_lst pa_nil))
      (pss_cons (ps_for PassesOwn.never rfl (pi_tup (pv 0)) (pg_tup rfl (pgs_cons (pg_name (i := 2) scLe2.nd rfl (Or.inr rfl)) (pgs_cons (pg_name (i := 3) scLe2.nd rfl (Or.inl rfl)) (pgs_cons (pg_name (i := 4) scLe2.nd rfl (Or.inl rfl)) (pgs_cons (pg_name (i := 5) scLe2.nd rfl (Or.inl rfl)) pgs_nil)))))
        (pss_one (ps_set (i := 1) scLe2.nd rfl (Or.inl rfl) (pe_op op_cat (pv 1) (pe_lc (own := [("number", 6)]) (g := gName 6) (tt := tYes) rfl scLe2.nd (pi_tup (pv 4)) (blkOk_by (own := [("number", 6)]) (N := nLe2) (sc := defScope sLawEnds) (by decide +kernel)) (fun _ _ _ _ _ => (pg_name (i := 6) scLe2.nd rfl (Or.inl rfl))) (fun _ _ _ _ _ => pts_nil) (fun _ _ _ _ _ => (pe_tup (pa_cons (pv 2) (pa_cons (pv 6) pa_nil)))))))))
      (pss_one (ps_ret (pv 1)))), ?_⟩
    have n8 := ok.n8
    refine ⟨smallE (by show 0 ≤ 1000000; decide), fun q0 n0 => ?_⟩
    have s0' := same_new (o := .lst []) n0
    refine ⟨_, rfl, a, rfl, ⟨_, Same.sqT s0' hC.1⟩, ?_⟩
    refine for_it (walk_tup (K := K) (a := a) (xs := cs.map fun c => V.ref c.a)) (fun i σ Z => ∃ (q1 : Addr) (x2 x3 x4 x5 x6 : Option V), σ = [some (.ref a), some (.ref q1), x2, x3, x4, x5, x6] ∧ Same H Z ∧ H q1 = none ∧ StLs Z q1 (endsS (cs.take i))) ⟨q0, none, none, none, none, none, rfl, s0', n0, [], upd_same, rfl, fun t ht => nomatch ht⟩ (fun i σ Z _ h => ?_) (fun i y σ Z Z' hi h yy => ?_) (fun σ Z h => ?_)
    · obtain ⟨_, _, _, _, _, _, _, sZ, _⟩ := h
      exact Same.sqT sZ hC.1
    · obtain ⟨rfl, hy⟩ := yy
      obtain ⟨c, hc, rfl⟩ := get_map hy
      obtain ⟨q1, x2, x3, x4, x5, x6, rfl, sZ, n1, hL⟩ := h
      have mc := List.mem_of_getElem? hc
      have okc := ok.ok c mc
      have hCc := (hC.2 c mc).mono sZ
      have ez := okc.ez
      refine ⟨c.a, _, rfl, hCc.t, rfl, _, _, rfl, _, _, rfl, _, _, rfl, _, _, rfl, rfl, ?_⟩
      refine ⟨_, rfl, _, rfl, c.ea, rfl, ⟨_, hCc.e⟩, fun D nD => ?_⟩
      refine lc_it (walk_tup (K := K) (a := c.ea) (xs := natV c.es)) (fun j G => Same Z' G ∧ StLs G D ((c.es.take j).map fun e => (c.nm, e))) ⟨same_new nD, [], upd_same, rfl, fun t ht => nomatch ht⟩ (fun _ _ _ h => Same.sqT h.1 hCc.e) (fun j y G G' hj h y2 => ?_) (fun G h => ?_)
      · obtain ⟨rfl, hy2⟩ := y2
        obtain ⟨e, he, rfl⟩ := get_map (f := fun (i : Nat) => V.int (i : Int)) hy2
        obtain ⟨sG, L, h1, h2, h3⟩ := h
        refine ⟨rfl, _, rfl, _, rfl, smallE (by show 2 ≤ 1000000; decide), fun t nt => ?_⟩
        have st := same_new (o := .tup [V.str c.nm, V.int (e : Int)]) nt
        have et : upd G' t (.tup [V.str c.nm, V.int (e : Int)]) t = some (.tup (stV (c.nm, e))) := upd_same
        have eD := st _ _ h1
        have h3 : ∀ u ∈ L, upd G' t (.tup [V.str c.nm, V.int (e : Int)]) u.1 = some (.tup (stV u.2)) := fun u hu => st _ _ (h3 u hu)
        have sG := sG.trans st
        generalize upd G' t (.tup [V.str c.nm, V.int (e : Int)]) = G2 at st et eD h3 sG
        have lL : L.length ≤ 10000 := by
          have := congrArg List.length h2
          rw [List.length_map, List.length_map, List.length_take] at this
          omega
        have tk : TS G2 (upd G2 D (.lst ((L.map fun t => V.ref t.1) ++ [.ref t]))) := fun c xs e => by
          rw [upd_ne]
          · exact e
          · intro z
            rw [z, eD] at e
            cases e
        refine ⟨_, eD, by rw [List.length_map]; exact small (by omega), fun b o e => ?_, L ++ [(t, (c.nm, e))], ?_, ?_, fun u hu => ?_⟩
        · rw [upd_ne (ne_of_none e nD)]
          exact sG _ _ e
        · rw [upd_same, List.map_append]
          rfl
        · rw [List.map_append, h2, take_of_get he, List.map_append]
          rfl
        · rcases List.mem_append.mp hu with z | z
          · exact tk _ _ (h3 u z)
          · rw [List.mem_singleton.mp z]
            exact tk _ _ et
      · obtain ⟨sG, L, h1, h2, h3⟩ := h
        rw [natV_len, List.take_length] at h2
        obtain ⟨L0, g1, g2, g3⟩ := hL.mono sG
        have l0 : L0.length ≤ 200 := by
          have := congrArg List.length g2
          rw [List.length_map] at this
          have h5 := ends_len ok i
          rw [List.length_take] at h5
          omega
        have l1 : L.length ≤ 10000 := by
          have := congrArg List.length h2
          rw [List.length_map, List.length_map] at this
          omega
        refine ⟨q1, D, _, _, rfl, rfl, g1, h1, by rw [List.length_map, List.length_map]; exact smallE (by omega), fun p np => ?_⟩
        have sp := same_new (o := .lst ((L0.map fun t => V.ref t.1) ++ (L.map fun t => V.ref t.1))) np
        refine ⟨p, _, _, _, _, _, rfl, (sZ.trans sG).trans sp, (sZ.trans sG).free np, L0 ++ L, ?_, ?_, fun u hu => ?_⟩
        · rw [upd_same, List.map_append]
        · rw [List.map_append, g2, h2, take_of_get hc]
          unfold endsS
          rw [List.flatMap_append]
          simp
        · rcases List.mem_append.mp hu with z | z
          · exact sp _ _ (g3 u z)
          · exact sp _ _ (h3 u z)
    · obtain ⟨q1, x2, x3, x4, x5, x6, rfl, sZ, n1, hL⟩ := h
      rw [List.length_map, List.take_length] at hL
      exact ⟨_, rfl, q Z q1 sZ n1 hL⟩
end
end Kb
namespace Kb
open PySem PySem.Spec PyProof.Rows L2
/-! ### the tallest book's only ending -/
def prodR : List Nat → Nat
  | [] => 1
  | n :: r => (n - 1) * prodR r
def turnR : List Nat → Nat
  | [] => 0
  | n :: r => 1 + (n - 1) * (1 + turnR r)
theorem prodR_pos : ∀ {l : List Nat}, (∀ n ∈ l, 2 ≤ n) → 1 ≤ prodR l
  | [], _ => Nat.le_refl _
  | n :: r, h => by
    have h1 := h n List.mem_cons_self
    have h2 := prodR_pos fun m hm => h m (List.mem_cons_of_mem _ hm)
    unfold prodR
    exact Nat.mul_le_mul (show 1 ≤ n - 1 by omega) h2
theorem prodL_R {l : List Nat} (h : ∀ n ∈ l, 2 ≤ n) : prodL l = prodR l := by
  have : ∀ (l : List Nat) (a : Nat), (∀ n ∈ l, 2 ≤ n) → l.foldl stepP a = a * prodR l := by
    intro l
    induction l with
    | nil =>
      intro a _
      exact (Nat.mul_one a).symm
    | cons n l ih =>
      intro a h
      have h1 := h n List.mem_cons_self
      rw [List.foldl_cons, ih _ fun m hm => h m (List.mem_cons_of_mem _ hm), stepP, if_pos (by omega), prodR, Nat.mul_assoc]
  rw [prodL, this l 1 h, Nat.one_mul]
theorem turnR_le : ∀ {l : List Nat}, (∀ n ∈ l, 2 ≤ n) → turnR l ≤ 2 * (l.length * prodR l)
  | [], _ => Nat.zero_le _
  | n :: r, h => by
    have h1 := h n List.mem_cons_self
    have hr : ∀ m ∈ r, 2 ≤ m := fun m hm => h m (List.mem_cons_of_mem _ hm)
    have ih := turnR_le hr
    have hp := prodR_pos hr
    obtain ⟨a, ha⟩ : ∃ a, n - 1 = a + 1 := ⟨n - 2, by omega⟩
    unfold turnR prodR
    rw [ha, List.length_cons]
    have e1 : (a + 1) * (1 + turnR r) = (a + 1) + (a + 1) * turnR r := by rw [Nat.mul_add, Nat.mul_one]
    have e2 : (r.length + 1) * ((a + 1) * prodR r) = (a + 1) * (r.length * prodR r) + (a + 1) * prodR r := by
      rw [Nat.add_mul, Nat.one_mul, Nat.mul_left_comm]
    have e3 : (a + 1) * turnR r ≤ (a + 1) * (2 * (r.length * prodR r)) := Nat.mul_le_mul (Nat.le_refl _) ih
    have e4 : (a + 1) * (2 * (r.length * prodR r)) = 2 * ((a + 1) * (r.length * prodR r)) := Nat.mul_left_comm _ _ _
    have e5 : a + 1 ≤ (a + 1) * prodR r := Nat.le_mul_of_pos_right _ hp
    rw [e1, e2]
    omega
/-- what a stage takes: deeds, turns -/
def valS (l : List Nat) (x : Nat × Nat) : Nat := (l.getD x.1 0 - 1 - x.2) * prodR (l.drop (x.1 + 1))
def turnS (l : List Nat) (x : Nat × Nat) : Nat := 1 + (l.getD x.1 0 - 1 - x.2) * (1 + turnR (l.drop (x.1 + 1)))
def stOf (x : Nat × Nat) : Stg := (namesL.getD x.1 "", x.2)
def valP (l : List Nat) (xs : List (Nat × Nat)) : Nat := (xs.map (valS l)).sum
def turnP (l : List Nat) (xs : List (Nat × Nat)) : Nat := (xs.map (turnS l)).sum
theorem drop_at {l : List Nat} {i : Nat} (hi : i < l.length) : l.drop i = l.getD i 0 :: l.drop (i + 1) := by
  have e : l[i]? = some (l.getD i 0) := by
    rw [List.getD_eq_getElem?_getD, List.getElem?_eq_getElem hi]
    rfl
  exact drop_of_get e
theorem val_start {l : List Nat} {i : Nat} (hi : i < l.length) : valS l (i, 0) = prodR (l.drop i) := by
  rw [drop_at hi]
  rfl
theorem turn_start {l : List Nat} {i : Nat} (hi : i < l.length) : turnS l (i, 0) = turnR (l.drop i) := by
  rw [drop_at hi]
  rfl
theorem val_end {l : List Nat} {i j : Nat} (h : l.getD i 0 - 1 ≤ j) : valS l (i, j) = 0 ∧ turnS l (i, j) = 1 := by
  have : l.getD i 0 - 1 - j = 0 := by omega
  unfold valS turnS
  dsimp only
  rw [this]
  simp
theorem val_last {l : List Nat} {i j : Nat} (hl : i + 1 = l.length) (h : j < l.getD i 0 - 1) : valS l (i, j) = 1 + valS l (i, j + 1) ∧ turnS l (i, j) = 1 + turnS l (i, j + 1) := by
  obtain ⟨d, hd⟩ : ∃ d, l.getD i 0 - 1 - j = d + 1 := ⟨l.getD i 0 - 1 - j - 1, by omega⟩
  have hd2 : l.getD i 0 - 1 - (j + 1) = d := by omega
  have hdr : l.drop (i + 1) = [] := by rw [hl, List.drop_length]
  unfold valS turnS
  dsimp only
  rw [hd, hd2, hdr]
  simp only [prodR, turnR]
  omega
theorem val_call {l : List Nat} {i j : Nat} (hl : i + 1 < l.length) (h : j < l.getD i 0 - 1) : valS l (i, j) = valS l (i + 1, 0) + valS l (i, j + 1) ∧ turnS l (i, j) = 1 + turnS l (i + 1, 0) + turnS l (i, j + 1) := by
  obtain ⟨d, hd⟩ : ∃ d, l.getD i 0 - 1 - j = d + 1 := ⟨l.getD i 0 - 1 - j - 1, by omega⟩
  have hd2 : l.getD i 0 - 1 - (j + 1) = d := by omega
  rw [val_start hl, turn_start hl]
  unfold valS turnS
  dsimp only
  rw [hd, hd2, Nat.succ_mul, Nat.succ_mul]
  omega
/-- the steps that leave a stage of the tallest book -/
theorem leav_tall {l : List Nat} {i : Nat} {c : CA} (h : LineC l i c) (j : Nat) : ∀ m, m ≤ c.ss.length → leavTo c.ss m j = if j < m then [(j, lineStp l i j)] else []
  | 0, _ => rfl
  | m + 1, hm => by
    have ih := leav_tall h j m (by omega)
    have hp : c.ss[m]? = some (c.ss[m]'(by omega)) := List.getElem?_eq_getElem _
    have e : (c.ss[m]'(by omega)).2 = lineStp l i m := by
      have h1 : (c.ss.map (·.2))[m]? = some (c.ss[m]'(by omega)).2 := by rw [List.getElem?_map, hp]; rfl
      rw [h.ss] at h1
      unfold lineSteps at h1
      have cl := line_len h
      rw [List.getElem?_map, List.getElem?_range (by omega)] at h1
      exact (Option.some.inj h1).symm
    rw [leavTo_succ hp, ih, e, (lineStp_n l i m).1]
    by_cases h1 : j < m
    · rw [if_pos h1, if_neg (by omega), if_pos (by omega), List.append_nil]
    · rw [if_neg h1]
      by_cases h2 : m = j
      · rw [if_pos h2, if_pos (by omega), h2]
        rfl
      · rw [if_neg h2, if_neg (by omega)]
        rfl
theorem names_inj {i i' : Nat} (h : i < 8) (h' : i' < 8) (e : namesL.getD i "" = namesL.getD i' "") : i = i' := by
  have e1 := names_at h
  have e2 := names_at h'
  rw [← e] at e2
  exact (List.getElem?_inj (show i < namesL.length from h) namesL_nd).mp (e1.trans e2.symm)
theorem tall_end {H : Hp} {q : Addr} {l : List Nat} {cs : List CA} (ft : Fits l) (h : TallC H q l cs) {i j : Nat} (hi : i < l.length) : stOf (i, j) ∈ endsS cs ↔ j = l.getD i 0 - 1 := by
  have l8 := ft.2.1
  rw [mem_endsS]
  constructor
  · rintro ⟨c, hc, e1, e2⟩
    obtain ⟨i', hi'⟩ := List.getElem?_of_mem hc
    have ln := h.ln i' c hi'
    have hl := lt_of_get hi'
    have : i = i' := names_inj (by omega) (by have := h.len; omega) (by rw [← ln.nm]; exact e1)
    subst this
    rw [ln.es] at e2
    exact List.mem_singleton.mp e2
  · intro e
    have hc : cs[i]? = some (cs[i]'(by rw [h.len]; exact hi)) := List.getElem?_eq_getElem _
    have ln := h.ln i _ hc
    refine ⟨_, List.mem_of_getElem? hc, ln.nm.symm, ?_⟩
    rw [ln.es, e]
    exact List.mem_cons_self
/-! data of stages -/
def stgD (x : Stg) : PyData := .tuple [.str x.1, .int (x.2 : Int)]
theorem eqStg (a b : Stg) : PyData.eqv (stgD a) (stgD b) = decide (a = b) := by
  unfold stgD
  simp only [PyData.eqv, PyData.eqvAll, str_beq, Bool.and_true]
  cases a with | mk a1 a2 => cases b with | mk b1 b2 =>
  by_cases h1 : a1 = b1 <;> by_cases h2 : a2 = b2 <;> simp [h1, h2]
  omega
theorem stg_shaped {x : Stg} (h : isName x.1 = true) : SeqAt.shaped (stgD x) = true := by
  unfold SeqAt.shaped stgD
  simp [PyData.canLay0, PyData.canLayAll0, PyData.depth, PyData.depthAll, name_ok h]
theorem stg_depth (xs : List Stg) : PyData.depthAll (xs.map stgD) ≤ 1 := dep_le (fun a => by simp [stgD, PyData.depth, PyData.depthAll]) xs
theorem stg_lay {xs : List Stg} (h : ∀ x ∈ xs, isName x.1 = true) : PyData.canLayAll0 (xs.map stgD) = true := lay_all xs fun x hx => SeqAt.canLay_of_shaped (stg_shaped (h x hx))
theorem stg_all {xs : List Stg} (h : ∀ x ∈ xs, isName x.1 = true) : SeqAt.shaped (.list (xs.map stgD)) = true := by
  have d := stg_depth xs
  have l := stg_lay h
  unfold SeqAt.shaped
  simp only [PyData.canLay0, PyData.depth, l, Bool.true_and]
  exact decide_eq_true (by omega)
theorem stg_allT {xs : List Stg} (h : ∀ x ∈ xs, isName x.1 = true) : SeqAt.shaped (.tuple (xs.map stgD)) = true := by
  have d := stg_depth xs
  have l := stg_lay h
  unfold SeqAt.shaped
  simp only [PyData.canLay0, PyData.depth, l, Bool.true_and]
  exact decide_eq_true (by omega)
theorem dp_stg {K : PySem.W.Frag} {H : Hp} {a : Addr} {x : Stg} (h : H a = some (.tup (stV x))) : Dp K H (.ref a) (stgD x) := .tup (sqT_new h) (.cons (.str _) (.cons (.int _) .nil))
theorem dp_stgs {K : PySem.W.Frag} {H : Hp} : ∀ {L : List (Addr × Stg)}, (∀ p ∈ L, H p.1 = some (.tup (stV p.2))) → DpAll K H (L.map fun p => V.ref p.1) ((L.map (·.2)).map stgD)
  | [], _ => .nil
  | p :: L, h => .cons (dp_stg (h p List.mem_cons_self)) (dp_stgs fun q hq => h q (List.mem_cons_of_mem _ hq))
theorem any_stg (xs : List Stg) (x : Stg) : ((xs.map stgD).any fun z => PyData.eqv z (stgD x)) = decide (x ∈ xs) := by
  rw [List.any_map, Bool.eq_iff_iff, List.any_eq_true, decide_eq_true_iff]
  constructor
  · rintro ⟨z, hz, e⟩
    have e : PyData.eqv (stgD z) (stgD x) = true := e
    rw [eqStg] at e
    rw [← of_decide_eq_true e]
    exact hz
  · intro hz
    refine ⟨x, hz, ?_⟩
    show PyData.eqv (stgD x) (stgD x) = true
    rw [eqStg]
    exact decide_eq_true rfl
/-- an entry of the law's table as data -/
def elD (nm : Str) (x : EL) : PyData := .tuple [.tuple [.str (kindS x.s.call), .int (x.k : Int)], .tuple ((partsS nm x.s).map stgD), if x.s.call = true then .none else .str x.s.nm]
theorem dp_el {K : PySem.W.Frag} {H : Hp} {nm : Str} {x : EL} (h : ELAt H nm x) : Dp K H (.ref x.e) (elD nm x) := by
  obtain ⟨h1, h2, L, h3, h4, h5⟩ := h
  refine .tup (sqT_new h1) (.cons (.tup (sqT_new h2) (.cons (.str _) (.cons (.int _) .nil))) (.cons (.tup (sqT_new h3) ?_) (.cons ?_ .nil)))
  · rw [← h4]
    exact dp_stgs h5
  · unfold labV
    split
    · exact .non
    · exact .str _
theorem el_lay {nm : Str} {x : EL} (hn : isName nm = true) (hs : isName x.s.nm = true) : (elD nm x).canLay0 = true ∧ (elD nm x).depth ≤ 5 := by
  have hp : ∀ y ∈ partsS nm x.s, isName y.1 = true := fun y hy => by
    unfold partsS at hy
    split at hy
    · rcases List.mem_cons.mp hy with z | z
      · rw [z]; exact hs
      · rw [List.mem_singleton.mp z]; exact hn
    · rw [List.mem_singleton.mp hy]; exact hn
  have h1 := stg_lay hp
  have h2 := stg_depth (partsS nm x.s)
  unfold elD
  split
  · simp [PyData.canLay0, PyData.canLayAll0, PyData.depth, PyData.depthAll, kind_ok, h1]
    omega
  · simp [PyData.canLay0, PyData.canLayAll0, PyData.depth, PyData.depthAll, kind_ok, h1, name_ok hs]
    omega
theorem dp_els {K : PySem.W.Frag} {H : Hp} {nm : Str} : ∀ {L : List EL}, (∀ x ∈ L, ELAt H nm x) → DpAll K H (L.map fun x => V.ref x.e) (L.map (elD nm))
  | [], _ => .nil
  | x :: L, h => .cons (dp_el (h x List.mem_cons_self)) (dp_els fun y hy => h y (List.mem_cons_of_mem _ hy))
theorem el_all {nm : Str} {L : List EL} (hn : isName nm = true) (h : ∀ x ∈ L, isName x.s.nm = true) : SeqAt.shaped (.list (L.map (elD nm))) = true := by
  have l : PyData.canLayAll0 (L.map (elD nm)) = true := lay_all L fun x hx => (el_lay hn (h x hx)).1
  have d : PyData.depthAll (L.map (elD nm)) ≤ 5 := by
    clear l
    induction L with
    | nil => simp [PyData.depthAll]
    | cons x L ih =>
      have h1 := (el_lay hn (h x List.mem_cons_self)).2
      have h2 := ih fun y hy => h y (List.mem_cons_of_mem _ hy)
      rw [List.map_cons]
      simp only [PyData.depthAll]
      omega
  unfold SeqAt.shaped
  simp only [PyData.canLay0, PyData.depth, l, Bool.true_and]
  exact decide_eq_true (by omega)
end Kb
namespace Kb
open PySem PySem.Spec PyProof.Rows L2
/-! ### _law_walked -/
section
variable {P : Program} {w : World} {K : PySem.W.Frag} {mg : Str → Option Value} {base : Heap}
abbrev PL := Addr × (Nat × Nat)
structure PileAt (K : PySem.W.Frag) (l : List Nat) (Z : Hp) (q : Addr) (L : List PL) : Prop where
  t : SqT K Z q (L.map fun t => V.ref t.1)
  s : ∀ t ∈ L, Z t.1 = some (.tup (stV (stOf t.2))) ∧ t.2.1 < l.length ∧ t.2.2 ≤ l.getD t.2.1 0 - 1
theorem PileAt.mono {K : PySem.W.Frag} {l : List Nat} {Z Z' : Hp} {q : Addr} {L : List PL} (s : Same Z Z') (h : PileAt K l Z q L) : PileAt K l Z' q L := ⟨Same.sqT s h.t, fun t ht => ⟨s _ _ (h.s t ht).1, (h.s t ht).2⟩⟩
theorem dp_pile {K : PySem.W.Frag} {l : List Nat} {Z : Hp} : ∀ {L : List PL}, (∀ t ∈ L, Z t.1 = some (.tup (stV (stOf t.2))) ∧ t.2.1 < l.length ∧ t.2.2 ≤ l.getD t.2.1 0 - 1) → DpAll K Z (L.map fun t => V.ref t.1) ((L.map fun t => stOf t.2).map stgD)
  | [], _ => .nil
  | p :: L, h => .cons (dp_stg (h p List.mem_cons_self).1) (dp_pile fun q hq => h q (List.mem_cons_of_mem _ hq))
def spWalked (K : PySem.W.Frag) : Sp := fun vs H Q _ => ∃ (a : Addr) (l : List Nat) (cs : List CA), vs = [.ref a] ∧ TallC H a l cs ∧ Fits l ∧ prodL l ≤ 130 ∧ ∀ H', Same H H' → Q (.int (prodL l : Int)) H'
abbrev nWk : List Str := ["courses", "leaving", "ends", "pile", "many", "turn", "entries"]
theorem scWk : FnScope nWk ["courses"] (defScope sLawWalked) := ⟨rfl, rfl, rfl, by decide +kernel, rfl, by decide +kernel, by decide +kernel⟩
theorem ok_walked {f fL fE : Addr} {fd fdL fdE : FuncData} (F : Fun K "_law_walked" "_law_walked" sLawWalked f fd) (N : Nones mg) (G__law_leaving : FnOk P w K mg base CX0 1 fL fdL ["courses"] (spLawLeav K)) (C__law_leaving : CallC K mg "_law_leaving" ["courses"] fL fdL) (G__law_ends : FnOk P w K mg base CX0 1 fE fdE ["courses"] (spLawEnds K)) (C__law_ends : CallC K mg "_law_ends" ["courses"] fE fdE) : FnOk P w K mg base CX0 2 f fd ["courses"] (spWalked K) := by
  refine F.ok scWk (fun vs H Q E h => ?_) (fun cdv A outer s0 H vs Q E hr h => ?_)
  · obtain ⟨a, l, cs, rfl, _⟩ := h
    rfl
  · obtain ⟨a, l, cs, rfl, hT, ft, p130, q⟩ := h
    have ok := csOk_tall ft hT
    have hC := hT.at K
    obtain ⟨l1, l8, _, n20⟩ := id ft
    have n2 : ∀ n ∈ l, 2 ≤ n := fun n hn => (n20 n hn).1
    have pR := prodL_R n2
    have tR : turnR l ≤ 2080 := by
      have h1 := turnR_le n2
      have h2 : l.length * prodR l ≤ 8 * 130 := Nat.mul_le_mul l8 (by omega)
      omega
    have hlen := hT.len
    obtain ⟨c0, hc0⟩ : ∃ c0, cs[0]? = some c0 := ⟨_, List.getElem?_eq_getElem (by omega)⟩
    have hcv : (cs.map fun c => V.ref c.a)[0]? = some (.ref c0.a) := by rw [List.getElem?_map, hc0]; rfl
    have ln0 := hT.ln 0 c0 hc0
    have mc0 := List.mem_of_getElem? hc0
    refine ⟨_, pss_cons (ps_par (i := 1) (j := 2) rfl scWk.nd rfl rfl (by decide) rfl rfl (pa_cons (pe_call G__law_leaving (hr.mono (by decide)) (by rfl) C__law_leaving.g C__law_leaving.kp C__law_leaving.b .nil pass0 (pa_cons (pv 0) pa_nil)) (pa_cons (pe_call G__law_ends (hr.mono (by decide)) (by rfl) C__law_ends.g C__law_ends.kp C__law_ends.b .nil pass0 (pa_cons (pv 0) pa_nil)) pa_nil)) (by rfl))
      (pss_cons (ps_par (i := 3) (j := 4) rfl scWk.nd rfl rfl (by decide) rfl rfl (pa_cons (pe_tup (pa_cons (pe_tup (pa_cons (pe_ix ix_tup (pe_ix ix_tup (pv 0) pe_int (fun _ _ => rfl)) pe_int (fun _ _ => rfl)) (pa_cons pe_int pa_nil))) pa_nil)) (pa_cons pe_int pa_nil)) (by rfl))
      (pss_cons (ps_for PassesOwn.never rfl (pi_range1 (by rfl) N.range (pa_cons pe_int pa_nil)) (pg_name (i := 5) scWk.nd rfl (Or.inl rfl))
        (pss_cons (ps_if (pt_cmpR (op_eqD hr.units) (pv 3) (pe_tup pa_nil) (nomark _)) (pss_one (ps_ret (pv 4))) pss_nil)
        (pss_cons (ps_set (i := 6) scWk.nd rfl (Or.inl rfl) (pe_dget (hu_of hr) (pv 1) (pe_ix ix_tup (pv 3) pe_int (fun _ _ => rfl)) (fun _ _ => rfl)))
        (pss_cons (ps_if (pt_cmpR op_ne (pe_op op_add (pe_callB call_len_seq (by rfl) N.len PySem.boot_len (pa_cons (pv 6) pa_nil)) (pe_callTy call_int1 (by rfl) N.int (by decide +kernel) (pa_cons (pe_cmpR (op_inD (room65 hr)) (pe_ix ix_tup (pv 3) pe_int (fun _ _ => rfl)) (pv 2) (by rfl)) pa_nil))) pe_int (nomark _)) (pss_one (ps_ret (pe_op op_sub pe_int pe_int))) pss_nil)
        (pss_one (ps_if (pt_cmpR (op_eqD hr.units) (pv 6) (pe_lst pa_nil) (nomark _)) (pss_one (ps_set (i := 3) scWk.nd rfl (Or.inl rfl) (pe_slice sl_tupA (pv 3) (po_some pe_int) po_none))) (pss_cons (ps_set (i := 4) scWk.nd rfl (Or.inl rfl) (pe_op op_add (pv 4) (pe_callTy call_int1 (by rfl) N.int (by decide +kernel) (pa_cons (pe_cmpR op_eq (pe_ix ix_tup (pe_ix ix_list (pv 6) pe_int (fun _ _ => rfl)) pe_int (fun _ _ => rfl)) pe_str (nomark _)) pa_nil))))
          (pss_one (ps_set (i := 3) scWk.nd rfl (Or.inl rfl) (pe_op op_catA (pe_ix ix_tup (pe_ix ix_list (pv 6) pe_int (fun _ _ => rfl)) pe_int (fun _ _ => rfl)) (pe_slice sl_tupA (pv 3) (po_some pe_int) po_none)))))))))))
      (pss_one (ps_ret (pe_op op_sub pe_int pe_int))))), ?_⟩
    refine ⟨_, rfl, a, cs, rfl, hC, ok, fun H1 q1 s1 nq1 hL1 => ?_⟩
    refine ⟨_, rfl, a, cs, rfl, hC.mono s1, ok, fun H2 q2 s2 nq2 hE2 => ⟨_, _, rfl, ?_⟩⟩
    have hL2 := hL1.mono s2
    have s12 := s1.trans s2
    refine ⟨_, rfl, a, _, _, .ref c0.a, rfl, rfl, Same.sqT s12 hC.1, atI_nat (j := 0) hcv, c0.a, _, _, .str c0.nm, rfl, rfl, Same.sqT s12 (hC.2 c0 mc0).t, rfl, smallE (by show 2 ≤ 1000000; decide), fun t0 nt0 => ?_⟩
    have s3 := same_new (o := .tup [V.str c0.nm, V.int 0]) nt0
    have e3 : upd H2 t0 (.tup [V.str c0.nm, V.int 0]) t0 = some (.tup (stV (stOf (0, 0)))) := by rw [upd_same, ln0.nm]; rfl
    have hL3 := hL2.mono s3
    have hE3 := hE2.mono s3
    have s13 := s12.trans s3
    generalize upd H2 t0 (.tup [V.str c0.nm, V.int 0]) = H3 at s3 e3 hL3 hE3 s13
    refine ⟨smallE (by show 1 ≤ 1000000; decide), fun p0 np0 => ⟨_, _, rfl, ?_⟩⟩
    have s4 := same_new (o := .tup [V.ref t0]) np0
    have e4 : upd H3 p0 (.tup [V.ref t0]) p0 = some (.tup [V.ref t0]) := upd_same
    have e3 := s4 _ _ e3
    have hL4 := hL3.mono s4
    have hE4 := hE3.mono s4
    have s14 := s13.trans s4
    generalize upd H3 p0 (.tup [V.ref t0]) = H4 at s4 e4 e3 hL4 hE4 s14
    refine ⟨3000, rfl, by decide, by decide, ?_⟩
    rw [show ((3000 : Int)).toNat = 3000 from rfl]
    have hv0 : valS l (0, 0) = prodL l := by rw [val_start (by omega), List.drop_zero, pR]
    have ht0 : turnS l (0, 0) = turnR l := by rw [turn_start (by omega), List.drop_zero]
    refine for_it (walk_r0 (n := 3000)) (fun i σ Z => ∃ (pl : Addr) (many : Nat) (x5 x6 : Option V) (L : List PL), σ = [some (.ref a), some (.ref q1), some (.ref q2), some (.ref pl), some (.int (many : Int)), x5, x6] ∧ Same H Z ∧ LeavAt Z q1 cs ∧ StLs Z q2 (endsS cs) ∧ PileAt K l Z pl L ∧ many + valP l (L.map (·.2)) = prodL l ∧ i + turnP l (L.map (·.2)) = turnR l ∧ L.length ≤ i + 1)
      ⟨p0, 0, none, none, [(t0, (0, 0))], rfl, s14, hL4, hE4, ⟨sqT_new e4, fun t ht => by rw [List.mem_singleton.mp ht]; exact ⟨e3, by show 0 < l.length; omega, Nat.zero_le _⟩⟩, by show 0 + (valS l (0, 0) + 0) = _; omega, by show 0 + (turnS l (0, 0) + 0) = _; omega, Nat.le_refl _⟩ (fun _ _ _ _ _ => True.intro) (fun i y σ Z Z' hi h yy => ?_) (fun σ Z h => ?_)
    · obtain ⟨rfl, rfl⟩ := yy
      obtain ⟨pl, many, x5, x6, L, rfl, sZ, hL, hE, hP, vP, tP, lP⟩ := h
      refine ⟨_, rfl, Nat.zero_le _, fun e ne => ?_⟩
      have se := same_new (o := .tup []) ne
      have ee : upd Z' e (.tup []) e = some (.tup []) := upd_same
      have hL := hL.mono se
      have hE := hE.mono se
      have hP := hP.mono se
      have sZ := sZ.trans se
      generalize upd Z' e (.tup []) = Y at se ee hL hE hP sZ
      have nmP : ∀ x ∈ L.map (fun t => stOf t.2), isName x.1 = true := fun x hx => by
        obtain ⟨t, ht, rfl⟩ := List.mem_map.mp hx
        exact namesL_ok _ (List.mem_of_getElem? (names_at (by have := (hP.s t ht).2.1; omega)))
      refine ⟨_, .tuple [], .tup hP.t (dp_pile hP.s), .tup (sqT_new ee) .nil, stg_allT nmP, by decide +kernel, ?_⟩
      cases L with
      | nil =>
        refine ⟨_, rfl, iteYes (by decide +kernel) ?_⟩
        have : many = prodL l := by
          have h0 : valP l (([] : List PL).map (·.2)) = 0 := rfl
          omega
        rw [this]
        exact ⟨_, rfl, q Y sZ⟩
      | cons t L =>
        refine ⟨_, rfl, iteNo rfl ?_⟩
        obtain ⟨h1, h2, h3⟩ := hP.s t List.mem_cons_self
        have hPs : ∀ u ∈ L, Y u.1 = some (.tup (stV (stOf u.2))) ∧ u.2.1 < l.length ∧ u.2.2 ≤ l.getD u.2.1 0 - 1 := fun u hu => hP.s u (List.mem_cons_of_mem _ hu)
        obtain ⟨c, hc⟩ : ∃ c, cs[t.2.1]? = some c := ⟨_, List.getElem?_eq_getElem (by omega)⟩
        have ln := hT.ln _ c hc
        have mc := List.mem_of_getElem? hc
        have cl := line_len ln
        obtain ⟨hn, hn2, hn20⟩ := ft.at h2
        obtain ⟨M, m1, m2, m3, m4⟩ := id hL
        have mst : stOf t.2 ∈ M.map (·.1) := by
          rw [m2]
          unfold stagesOf
          exact List.mem_flatMap.mpr ⟨c, mc, List.mem_map.mpr ⟨t.2.2, List.mem_range.mpr (by rw [ln.n]; omega), by rw [ln.nm]; rfl⟩⟩
        obtain ⟨u, hu, eu⟩ := List.mem_map.mp mst
        have htr : (stK u.1, u.2.1, u.2.2.map fun x => V.ref x.e) ∈ trL M := List.mem_map.mpr ⟨u, hu, rfl⟩
        have kn : ((trL M).map (·.1)).Nodup := by
          rw [trL_keys, m2]
          exact stK_nd (stagesOf_nd ok.nd)
        have hv : valV (kvT (trL M)) (stK (stOf t.2)) = some (.ref u.2.1) := valV_mem (by rw [kvT_keys]; exact kn) (List.mem_map.mpr ⟨_, htr, by rw [eu]⟩)
        have eks : ksL u = if t.2.2 < l.getD t.2.1 0 - 1 then [(t.2.2, lineStp l t.2.1 t.2.2)] else [] := by
          have := m4.full u hu _ c hc (by rw [eu, ln.nm]; rfl)
          rw [if_pos (lt_of_get hc), eu, leav_tall ln _ _ (Nat.le_refl _), cl] at this
          exact this
        have snd := m4.sound u hu
        rw [eu] at snd
        have el := m3 u hu
        have nmX : isName (stOf t.2).1 = true := nmP _ List.mem_cons_self
        have hnmE : ∀ z ∈ endsS cs, isName z.1 = true := fun z hz => by
          obtain ⟨c', hc', e1, _⟩ := mem_endsS.mp hz
          rw [e1]
          exact (ok.ok c' hc').nm
        obtain ⟨EL0, g1, g2, g3⟩ := id hE
        have at0 : atI ((t :: L).map fun t => V.ref t.1) 0 = some (.ref t.1) := atI_nat (j := 0) rfl
        refine ⟨_, rfl, _, rfl, pl, _, _, .ref t.1, rfl, rfl, hP.t, at0, q1, .ref u.2.1, rfl, hv ▸ DGet.t m1 (k := stK (stOf t.2)) h1, ?_⟩
        refine ⟨_, rfl, u.2.1, _, rfl, .inl (sqL_new el), _, rfl, pl, _, _, .ref t.1, rfl, rfl, hP.t, at0, _, rfl, stgD (stOf t.2), (EL0.map (·.2)).map stgD, dp_stg h1, .lst (sqL_new g1) (dp_stgs g3), stg_shaped nmX, stg_all (by rw [g2]; exact hnmE), .inr ⟨_, rfl, _, _, rfl, rfl, rfl, _, rfl, ?_⟩⟩
        rw [any_stg, g2]
        have hend := tall_end ft hT (i := t.2.1) (j := t.2.2) h2
        by_cases hj : t.2.2 < l.getD t.2.1 0 - 1
        · rw [if_pos hj] at eks
          have hne : stOf t.2 ∉ endsS cs := fun z => by
            have := hend.mp z
            omega
          rw [decide_eq_false hne]
          obtain ⟨x, hx, xk, xs⟩ : ∃ x, u.2.2 = [x] ∧ x.k = t.2.2 ∧ x.s = lineStp l t.2.1 t.2.2 := by
            unfold ksL at eks
            cases hu2 : u.2.2 with
            | nil =>
              rw [hu2] at eks
              exact nomatch eks
            | cons x r =>
              rw [hu2, List.map_cons] at eks
              injection eks with e1 e2
              cases r with
              | nil => exact ⟨x, rfl, congrArg Prod.fst e1, congrArg Prod.snd e1⟩
              | cons y r => exact nomatch e2
          rw [hx] at el snd ⊢
          refine iteNo (by show (!decide (V.int ((1 : Int) + 0) = V.int 1)) = false; decide +kernel) ?_
          have sx := snd x List.mem_cons_self
          obtain ⟨x1, x2, Lp, x3, x4, x5⟩ := id sx
          have nmS : isName x.s.nm = true := by
            rw [xs]
            unfold lineStp
            split
            · show isName "x" = true
              decide +kernel
            · exact namesL_ok _ (List.mem_of_getElem? (names_at (by omega)))
          refine ⟨_, rfl, Nat.zero_le _, fun e2 ne2 => ?_⟩
          have se2 := same_new (o := .lst []) ne2
          have ee2 : upd Y e2 (.lst []) e2 = some (.lst []) := upd_same
          have el2 := se2 _ _ el
          have sx2 := sx.ts (TS.of se2)
          have hL2' := hL.mono se2
          have hE2' := hE.mono se2
          have hP2 := hP.mono se2
          have sZ2 := sZ.trans se2
          have x1 := se2 _ _ x1
          have x3 := se2 _ _ x3
          have x5 : ∀ p ∈ Lp, upd Y e2 (.lst []) p.1 = some (.tup (stV p.2)) := fun p hp => se2 _ _ (x5 p hp)
          generalize upd Y e2 (.lst []) = W at se2 ee2 el2 sx2 hL2' hE2' hP2 sZ2 x1 x3 x5
          refine ⟨.list ([x].map (elD (stOf t.2).1)), .list [], .lst (sqL_new el2) (dp_els fun y hy => by rw [List.mem_singleton.mp hy]; exact sx2), .lst (sqL_new ee2) .nil, el_all nmX (fun y hy => by rw [List.mem_singleton.mp hy]; exact nmS), by decide +kernel, ?_⟩
          refine ⟨_, rfl, iteNo rfl ?_⟩
          have hP2s : ∀ u ∈ L, W u.1 = some (.tup (stV (stOf u.2))) ∧ u.2.1 < l.length ∧ u.2.2 ≤ l.getD u.2.1 0 - 1 := fun u hu => hP2.s u (List.mem_cons_of_mem _ hu)
          have ed : ((t :: L).map fun t => V.ref t.1).drop 1 = L.map fun t => V.ref t.1 := rfl
          have vt : valP l ((t :: L).map (·.2)) = valS l t.2 + valP l (L.map (·.2)) := rfl
          have tt : turnP l ((t :: L).map (·.2)) = turnS l t.2 + turnP l (L.map (·.2)) := rfl
          have lL : L.length ≤ i := by
            rw [List.length_cons] at lP
            omega
          by_cases hlast : t.2.1 + 1 = l.length
          · have es : x.s = ⟨t.2.2, false, "x", t.2.2 + 1⟩ := by rw [xs]; exact if_pos hlast
            have vl := val_last hlast hj
            have hlab : labV x.s = .str "x" := by rw [es]; rfl
            rw [hlab] at x1
            rw [es] at x4
            refine ⟨_, rfl, _, rfl, u.2.1, _, _, .ref x.e, rfl, rfl, sqL_new el2, rfl, x.e, _, _, .str "x", rfl, rfl, sqT_new x1, rfl, rfl, ?_⟩
            have x4 : Lp.map (·.2) = [stOf (t.2.1, t.2.2 + 1)] := x4
            obtain ⟨g, hg, eg⟩ : ∃ g, Lp = [g] ∧ g.2 = stOf (t.2.1, t.2.2 + 1) := by
              cases Lp with
              | nil => exact nomatch x4
              | cons g r =>
                rw [List.map_cons] at x4
                injection x4 with e1 e2
                cases r with
                | nil => exact ⟨g, rfl, e1⟩
                | cons y r => exact nomatch e2
            subst hg
            refine .inr ⟨_, rfl, _, _, rfl, rfl, ?_⟩
            refine ⟨_, rfl, u.2.1, _, _, .ref x.e, rfl, rfl, sqL_new el2, rfl, x.e, _, _, .ref x.pa, rfl, rfl, sqT_new x1, rfl, _, rfl, 1, rfl, ?_⟩
            dsimp only [tNoPart]
            refine slR_drop (j := 1) hP2.t fun W1 p1 sW1 hp1 => ?_
            rw [ed] at hp1
            refine catR (Same.sqT sW1 (sqT_new x3)) hp1 (by rw [List.length_map, List.length_map, List.length_singleton]; omega) fun W2 p2 sW2 hp2 => ?_
            have sW := sW1.trans sW2
            refine ⟨p2, many + 1, _, _, (g.1, (t.2.1, t.2.2 + 1)) :: L, rfl, sZ2.trans sW, hL2'.mono sW, hE2'.mono sW, ⟨hp2, fun v hv => ?_⟩, ?_, ?_, by rw [List.length_cons]; omega⟩
            · rcases List.mem_cons.mp hv with z | z
              · rw [z]
                refine ⟨?_, h2, by show t.2.2 + 1 ≤ l.getD t.2.1 0 - 1; omega⟩
                have := x5 g List.mem_cons_self
                rw [eg] at this
                exact sW _ _ this
              · exact ⟨sW _ _ (hP2s v z).1, (hP2s v z).2⟩
            · show many + 1 + (valS l (t.2.1, t.2.2 + 1) + valP l (L.map (·.2))) = prodL l
              have v2 : valS l t.2 = 1 + valS l (t.2.1, t.2.2 + 1) := vl.1
              omega
            · show i + 1 + (turnS l (t.2.1, t.2.2 + 1) + turnP l (L.map (·.2))) = turnR l
              have v2 : turnS l t.2 = 1 + turnS l (t.2.1, t.2.2 + 1) := vl.2
              omega
          · have es : x.s = ⟨t.2.2, true, namesL.getD (t.2.1 + 1) "", t.2.2 + 1⟩ := by rw [xs]; exact if_neg hlast
            have vl := val_call (show t.2.1 + 1 < l.length by omega) hj
            have hlab : labV x.s = .non := by rw [es]; rfl
            rw [hlab] at x1
            rw [es] at x4
            refine ⟨_, rfl, _, rfl, u.2.1, _, _, .ref x.e, rfl, rfl, sqL_new el2, rfl, x.e, _, _, .non, rfl, rfl, sqT_new x1, rfl, rfl, ?_⟩
            have x4 : Lp.map (·.2) = [stOf (t.2.1 + 1, 0), stOf (t.2.1, t.2.2 + 1)] := x4
            obtain ⟨g, g', hg, eg, eg'⟩ : ∃ g g', Lp = [g, g'] ∧ g.2 = stOf (t.2.1 + 1, 0) ∧ g'.2 = stOf (t.2.1, t.2.2 + 1) := by
              cases Lp with
              | nil => exact nomatch x4
              | cons g r =>
                rw [List.map_cons] at x4
                injection x4 with e1 e2
                cases r with
                | nil => exact nomatch e2
                | cons y r =>
                  rw [List.map_cons] at e2
                  injection e2 with e2 e3
                  cases r with
                  | nil => exact ⟨g, y, rfl, e1, e2⟩
                  | cons z r => exact nomatch e3
            subst hg
            refine .inr ⟨_, rfl, _, _, rfl, rfl, ?_⟩
            refine ⟨_, rfl, u.2.1, _, _, .ref x.e, rfl, rfl, sqL_new el2, rfl, x.e, _, _, .ref x.pa, rfl, rfl, sqT_new x1, rfl, _, rfl, 1, rfl, ?_⟩
            dsimp only [tNoPart]
            refine slR_drop (j := 1) hP2.t fun W1 p1 sW1 hp1 => ?_
            rw [ed] at hp1
            refine catR (Same.sqT sW1 (sqT_new x3)) hp1 (by rw [List.length_map, List.length_map]; show 2 + _ ≤ _; omega) fun W2 p2 sW2 hp2 => ?_
            have sW := sW1.trans sW2
            refine ⟨p2, many, _, _, (g.1, (t.2.1 + 1, 0)) :: (g'.1, (t.2.1, t.2.2 + 1)) :: L, rfl, sZ2.trans sW, hL2'.mono sW, hE2'.mono sW, ⟨hp2, fun v hv => ?_⟩, ?_, ?_, by rw [List.length_cons, List.length_cons]; omega⟩
            · rcases List.mem_cons.mp hv with z | hv
              · rw [z]
                refine ⟨?_, by show t.2.1 + 1 < _; omega, Nat.zero_le _⟩
                have := x5 g List.mem_cons_self
                rw [eg] at this
                exact sW _ _ this
              · rcases List.mem_cons.mp hv with z | z
                · rw [z]
                  refine ⟨?_, h2, by show t.2.2 + 1 ≤ l.getD t.2.1 0 - 1; omega⟩
                  have := x5 g' (List.mem_cons_of_mem _ List.mem_cons_self)
                  rw [eg'] at this
                  exact sW _ _ this
                · exact ⟨sW _ _ (hP2s v z).1, (hP2s v z).2⟩
            · show many + (valS l (t.2.1 + 1, 0) + (valS l (t.2.1, t.2.2 + 1) + valP l (L.map (·.2)))) = prodL l
              have v2 : valS l t.2 = valS l (t.2.1 + 1, 0) + valS l (t.2.1, t.2.2 + 1) := vl.1
              omega
            · show i + 1 + (turnS l (t.2.1 + 1, 0) + (turnS l (t.2.1, t.2.2 + 1) + turnP l (L.map (·.2)))) = turnR l
              have v2 : turnS l t.2 = 1 + turnS l (t.2.1 + 1, 0) + turnS l (t.2.1, t.2.2 + 1) := vl.2
              omega
        · rw [if_neg hj] at eks
          have hje : t.2.2 = l.getD t.2.1 0 - 1 := by omega
          rw [decide_eq_true (hend.mpr hje)]
          have hx : u.2.2 = [] := by
            unfold ksL at eks
            exact List.map_eq_nil_iff.mp eks
          rw [hx] at el ⊢
          refine iteNo (by decide +kernel) ?_
          refine ⟨_, rfl, Nat.zero_le _, fun e2 ne2 => ?_⟩
          have se2 := same_new (o := .lst []) ne2
          have ee2 : upd Y e2 (.lst []) e2 = some (.lst []) := upd_same
          have el2 := se2 _ _ el
          have hL2' := hL.mono se2
          have hE2' := hE.mono se2
          have hP2 := hP.mono se2
          have sZ2 := sZ.trans se2
          generalize upd Y e2 (.lst []) = W at se2 ee2 el2 hL2' hE2' hP2 sZ2
          refine ⟨.list [], .list [], .lst (sqL_new el2) .nil, .lst (sqL_new ee2) .nil, by decide +kernel, by decide +kernel, ?_⟩
          refine ⟨_, rfl, iteYes (by decide +kernel) ?_⟩
          refine ⟨_, rfl, 1, rfl, ?_⟩
          dsimp only [tNoPart]
          refine slR_drop (j := 1) hP2.t fun W1 p1 sW1 hp1 => ?_
          have ve := val_end (l := l) (i := t.2.1) (j := t.2.2) (by omega)
          have vt : valP l ((t :: L).map (·.2)) = valS l t.2 + valP l (L.map (·.2)) := rfl
          have tt : turnP l ((t :: L).map (·.2)) = turnS l t.2 + turnP l (L.map (·.2)) := rfl
          have v1 : valS l t.2 = 0 := ve.1
          have v2 : turnS l t.2 = 1 := ve.2
          exact ⟨p1, many, _, _, L, rfl, sZ2.trans sW1, hL2'.mono sW1, hE2'.mono sW1, ⟨hp1, fun v hv => ⟨sW1 _ _ (hP2.s v (List.mem_cons_of_mem _ hv)).1, (hP2.s v (List.mem_cons_of_mem _ hv)).2⟩⟩, by omega, by omega, by rw [List.length_cons] at lP; omega⟩
    · obtain ⟨pl, many, x5, x6, L, rfl, sZ, hL, hE, hP, vP, tP, lP⟩ := h
      exfalso
      omega
end
end Kb
namespace Kb
open PySem PySem.Spec PyProof.Rows L2
/-! ### the tallest book's lengths, exactly -/
theorem settled_at {dn : List (Stg × Cost)} {E : List Stg} {LN : List (Kz.Ln Stg)} {e0 : Cost} (S : Kz.Settled E LN e0 dn) {x : Stg} (h : x ∈ Kz.keys dn) : (x ∈ E ∧ Kz.vf dn x = e0) ∨ ∃ ln ∈ LN, ln.user = x ∧ (∀ p ∈ ln.parts, p ∈ Kz.keys dn) ∧ Kz.vf dn x = Kz.lc dn ln := by
  obtain ⟨k, hk⟩ := List.getElem?_of_mem (Kz.mem_vf h)
  rcases S.just k _ _ hk with ⟨h1, h2⟩ | ⟨ln, h1, h2, h3, h4⟩
  · exact .inl ⟨h1, h2⟩
  · refine .inr ⟨ln, h1, h2, fun p hp => ?_, ?_⟩
    · have := h3 p hp
      rw [keys_take] at this
      exact List.mem_of_mem_take this
    · rw [h4]
      have := Kz.lc_app (dn.drop k) h3
      rw [List.take_append_drop] at this
      exact this.symm
theorem tall_vals {H : Hp} {q : Addr} {l : List Nat} {cs : List CA} (ft : Fits l) (hT : TallC H q l cs) {dn : List (Stg × Cost)} (S : Kz.Settled (endsS cs) (linesK (0, 1) (wf2 fun _ => 1) cs) (0, 0) dn) : ∀ (t i j : Nat), turnS l (i, j) = t → i < l.length → j ≤ l.getD i 0 - 1 → stOf (i, j) ∈ Kz.keys dn ∧ (Kz.vf dn (stOf (i, j))).1 = valS l (i, j) := by
  intro t
  have ok := csOk_tall ft hT
  have l8 := ft.2.1
  have hlen := hT.len
  induction t using Nat.strongRecOn with
  | ind t ih =>
    intro i j ht hi hj
    obtain ⟨hn, hn2, hn20⟩ := ft.at hi
    obtain ⟨c, hc⟩ : ∃ c, cs[i]? = some c := ⟨_, List.getElem?_eq_getElem (by omega)⟩
    have ln := hT.ln i c hc
    have mc := List.mem_of_getElem? hc
    have cl := line_len ln
    have hend := tall_end ft hT (i := i) (j := j) hi
    by_cases he : j = l.getD i 0 - 1
    · obtain ⟨h1, h2⟩ := S.ends _ (hend.mpr he)
      have h3 := Kz.cle_fst h2
      have h4 := (val_end (l := l) (i := i) (j := j) (by omega)).1
      exact ⟨h1, by rw [h4]; have : (Kz.vf dn (stOf (i, j))).1 ≤ 0 := h3; omega⟩
    · have hj2 : j < l.getD i 0 - 1 := by omega
      -- its line
      have hs : (c.ss.map (·.2))[j]? = some (lineStp l i j) := by
        rw [ln.ss]
        unfold lineSteps
        rw [List.getElem?_map, List.getElem?_range hj2]
        rfl
      obtain ⟨p, hp, ep⟩ := get_map hs
      have mp := List.mem_of_getElem? hp
      have ml : lnOf (0, 1) (wf2 fun _ => 1) (c.nm, lineStp l i j) ∈ linesK (0, 1) (wf2 fun _ => 1) cs := List.mem_map.mpr ⟨_, mem_linesS.mpr ⟨c, mc, p, mp, by rw [ep]⟩, rfl⟩
      have uniqL : ∀ ln' ∈ linesK (0, 1) (wf2 fun _ => 1) cs, ln'.user = stOf (i, j) → ln' = lnOf (0, 1) (wf2 fun _ => 1) (c.nm, lineStp l i j) := fun ln' hl' hu => by
        obtain ⟨ll, hll, rfl⟩ := List.mem_map.mp hl'
        obtain ⟨c', mc', p', mp', e⟩ := mem_linesS.mp hll
        subst e
        have hu : (c'.nm, p'.2.n) = (namesL.getD i "", j) := hu
        injection hu with hu1 hu2
        have : c' = c := same_course ok.nd mc' mc (by rw [hu1, ln.nm])
        subst this
        obtain ⟨j', hj', e'⟩ := line_mem ln mp'
        rw [e', (lineStp_n l i j').1] at hu2
        rw [e', hu2]
      have fin : ∀ v : Nat, (∀ x ∈ partsS c.nm (lineStp l i j), x ∈ Kz.keys dn) → (Kz.lc dn (lnOf (0, 1) (wf2 fun _ => 1) (c.nm, lineStp l i j))).1 = v → stOf (i, j) ∈ Kz.keys dn ∧ (Kz.vf dn (stOf (i, j))).1 = v := fun v hpk hv => by
        have hu : (lnOf (0, 1) (wf2 fun _ => 1) (c.nm, lineStp l i j)).user = stOf (i, j) := by
          show (c.nm, (lineStp l i j).n) = _
          rw [(lineStp_n l i j).1, ln.nm]
          rfl
        have hk := (S.lines _ ml hpk).1
        rw [hu] at hk
        refine ⟨hk, ?_⟩
        rcases settled_at S hk with ⟨h1, _⟩ | ⟨ln', h1, h2, _, h4⟩
        · exact absurd (hend.mp h1) he
        · rw [h4, uniqL ln' h1 h2]
          exact hv
      by_cases hl : i + 1 = l.length
      · have es : lineStp l i j = ⟨j, false, "x", j + 1⟩ := if_pos hl
        obtain ⟨v1, v2⟩ := val_last hl hj2
        obtain ⟨k1, k2⟩ := ih _ (by omega) i (j + 1) rfl hi (by omega)
        have en : (c.nm, j + 1) = stOf (i, j + 1) := by rw [ln.nm]; rfl
        refine fin _ (fun x hx => ?_) ?_
        · rw [es] at hx
          have hx : x ∈ [(c.nm, j + 1)] := hx
          rw [List.mem_singleton.mp hx, en]
          exact k1
        · rw [es]
          show 1 + (Kz.vf dn (c.nm, j + 1)).1 = _
          rw [en, k2, v1]
      · have es : lineStp l i j = ⟨j, true, namesL.getD (i + 1) "", j + 1⟩ := if_neg hl
        obtain ⟨v1, v2⟩ := val_call (show i + 1 < l.length by omega) hj2
        obtain ⟨k1, k2⟩ := ih _ (by omega) i (j + 1) rfl hi (by omega)
        obtain ⟨g1, g2⟩ := ih _ (by omega) (i + 1) 0 rfl (by omega) (Nat.zero_le _)
        have en : (c.nm, j + 1) = stOf (i, j + 1) := by rw [ln.nm]; rfl
        refine fin _ (fun x hx => ?_) ?_
        · rw [es] at hx
          have hx : x ∈ [(namesL.getD (i + 1) "", 0), (c.nm, j + 1)] := hx
          rcases List.mem_cons.mp hx with z | z
          · rw [z]
            exact g1
          · rw [List.mem_singleton.mp z, en]
            exact k1
        · rw [es]
          show 0 + (Kz.vf dn (stOf (i + 1, 0))).1 + (Kz.vf dn (c.nm, j + 1)).1 = _
          rw [en, k2, g2, v1, Nat.zero_add]
theorem tall_len {H : Hp} {q : Addr} {l : List Nat} {cs : List CA} (ft : Fits l) (hT : TallC H q l cs) {dn : List (Stg × Cost)} (S : Kz.Settled (endsS cs) (linesK (0, 1) (wf2 fun _ => 1) cs) (0, 0) dn) : (("a" : Str), 0) ∈ Kz.keys dn ∧ (Kz.vf dn (("a" : Str), 0)).1 = prodL l := by
  have l1 := ft.1
  obtain ⟨h1, h2⟩ := tall_vals ft hT S _ 0 0 rfl (by omega) (Nat.zero_le _)
  refine ⟨h1, ?_⟩
  rw [prodL_R fun n hn => (ft.2.2.2 n hn).1]
  have := val_start (l := l) (i := 0) (by omega)
  rw [List.drop_zero] at this
  rw [← this]
  exact h2
end Kb
namespace Kb
open PySem PySem.Spec PyProof.Rows L2
/-! ### the law of the tallest book -/
/-- one more step of a line -/
theorem line_put {l : List Nat} {i : Nat} (hn20 : l.getD i 0 ≤ 20) {c : Bool} {nm : Str} {Z : Hp} {D : Addr} {L : List (Addr × Stp)} {j : Nat} {G' : Hp} {t : Addr} (nD : Z D = none) (hj : j < l.getD i 0 - 1) (es : lineStp l i j = ⟨j, c, nm, j + 1⟩) (h : Same Z G' ∧ G' D = some (.lst (L.map fun p => V.ref p.1)) ∧ L.map (·.2) = (lineSteps l i).take j ∧ (∀ p ∈ L, G' p.1 = some (.tup (stpV p.2)))) (nt : G' t = none) :
    ∃ acc, upd G' t (.tup [.int (j : Int), .str (kindS c), .str nm, .int ((j : Int) + 1)]) D = some (.lst acc) ∧ acc.length < sizeLine ∧ ∃ L' : List (Addr × Stp), Same Z (upd (upd G' t (.tup [.int (j : Int), .str (kindS c), .str nm, .int ((j : Int) + 1)])) D (.lst (acc ++ [.ref t]))) ∧ upd (upd G' t (.tup [.int (j : Int), .str (kindS c), .str nm, .int ((j : Int) + 1)])) D (.lst (acc ++ [.ref t])) D = some (.lst (L'.map fun p => V.ref p.1)) ∧ L'.map (·.2) = (lineSteps l i).take (j + 1) ∧ ∀ p ∈ L', upd (upd G' t (.tup [.int (j : Int), .str (kindS c), .str nm, .int ((j : Int) + 1)])) D (.lst (acc ++ [.ref t])) p.1 = some (.tup (stpV p.2)) := by
  obtain ⟨sG, eD, kL, tL⟩ := h
  have st := same_new (o := .tup [V.int (j : Int), V.str (kindS c), V.str nm, V.int ((j : Int) + 1)]) nt
  have et : upd G' t (.tup [V.int (j : Int), V.str (kindS c), V.str nm, V.int ((j : Int) + 1)]) t = some (.tup (stpV ⟨j, c, nm, j + 1⟩)) := upd_same
  have eD := st _ _ eD
  have tL : ∀ p ∈ L, upd G' t (.tup [V.int (j : Int), V.str (kindS c), V.str nm, V.int ((j : Int) + 1)]) p.1 = some (.tup (stpV p.2)) := fun p hp => st _ _ (tL p hp)
  have sG := sG.trans st
  generalize upd G' t (.tup [V.int (j : Int), V.str (kindS c), V.str nm, V.int ((j : Int) + 1)]) = G2 at st et eD tL sG
  have lL : L.length ≤ 20 := by
    have := congrArg List.length kL
    rw [List.length_map, List.length_take] at this
    omega
  have tk : TS G2 (upd G2 D (.lst ((L.map fun p => V.ref p.1) ++ [.ref t]))) := fun c xs e => by
    rw [upd_ne]
    · exact e
    · intro z
      rw [z, eD] at e
      cases e
  have hs : (lineSteps l i)[j]? = some ⟨j, c, nm, j + 1⟩ := by
    unfold lineSteps
    rw [List.getElem?_map, List.getElem?_range hj, ← es]
    rfl
  refine ⟨_, eD, by rw [List.length_map]; exact small (by omega), L ++ [(t, ⟨j, c, nm, j + 1⟩)], fun b o e => ?_, ?_, ?_, fun p hp => ?_⟩
  · rw [upd_ne (ne_of_none e nD)]
    exact sG _ _ e
  · rw [upd_same, List.map_append]
    rfl
  · rw [List.map_append, kL, take_of_get hs]
    rfl
  · rcases List.mem_append.mp hp with z | z
    · exact tk _ _ (tL p z)
    · rw [List.mem_singleton.mp z]
      exact tk _ _ et
theorem lineSteps_len (l : List Nat) (i : Nat) : (lineSteps l i).length = l.getD i 0 - 1 := by
  unfold lineSteps
  rw [List.length_map, List.length_range]
/-- a course as data -/
def crsD (c : CA) : PyData := .tuple [.str c.nm, .int (c.n : Int), .tuple (c.es.map fun (e : Nat) => .int (e : Int)), .tuple ((c.ss.map (·.2)).map stpD)]
theorem dp_nats {K : PySem.W.Frag} {H : Hp} : ∀ l : List Nat, DpAll K H (natV l) (l.map fun (e : Nat) => .int (e : Int))
  | [] => .nil
  | n :: l => .cons (.int _) (dp_nats l)
theorem dp_crs {K : PySem.W.Frag} {H : Hp} {c : CA} (h : DrawC H c) : Dp K H (.ref c.a) (crsD c) :=
  .tup (sqT_new h.t) (.cons (.str _) (.cons (.int _) (.cons (.tup (sqT_new h.e) (dp_nats _)) (.cons (.tup (sqT_new h.s) (dp_stps h.p)) .nil))))
theorem dp_crss {K : PySem.W.Frag} {H : Hp} : ∀ {cs : List CA}, (∀ c ∈ cs, DrawC H c) → DpAll K H (cs.map fun c => V.ref c.a) (cs.map crsD)
  | [], _ => .nil
  | c :: cs, h => .cons (dp_crs (h c List.mem_cons_self)) (dp_crss fun d hd => h d (List.mem_cons_of_mem _ hd))
theorem crs_lay {c : CA} (ok : CrsOk c) : (crsD c).canLay0 = true ∧ (crsD c).depth ≤ 4 := by
  have l1 : PyData.canLayAll0 ((c.ss.map (·.2)).map stpD) = true := lay_all _ fun s hs => by
    obtain ⟨p, hp, rfl⟩ := List.mem_map.mp hs
    exact SeqAt.canLay_of_shaped (stp_shaped (ok.sl p hp).2.2)
  have d1 : PyData.depthAll ((c.ss.map (·.2)).map stpD) ≤ 1 := dep_le (fun a => by simp [stpD, PyData.depth, PyData.depthAll]) _
  have l2 : PyData.canLayAll0 (c.es.map fun (e : Nat) => PyData.int (e : Int)) = true := lay_all _ fun s hs => by simp [PyData.canLay0]
  have d2 : PyData.depthAll (c.es.map fun (e : Nat) => PyData.int (e : Int)) ≤ 0 := dep_le (fun a => by simp [PyData.depth]) _
  unfold crsD
  refine ⟨by simp only [PyData.canLay0, PyData.canLayAll0, name_ok ok.nm, l1, l2, Bool.and_self], ?_⟩
  simp only [PyData.depth, PyData.depthAll]
  omega
theorem crss_shaped {cs : List CA} (ok : ∀ c ∈ cs, CrsOk c) : SeqAt.shaped (.tuple (cs.map crsD)) = true := by
  have l : PyData.canLayAll0 (cs.map crsD) = true := lay_all _ fun c hc => (crs_lay (ok c hc)).1
  have d : PyData.depthAll (cs.map crsD) ≤ 4 := by
    clear l
    induction cs with
    | nil => simp [PyData.depthAll]
    | cons c cs ih =>
      have h1 := (crs_lay (ok c List.mem_cons_self)).2
      have h2 := ih fun d hd => ok d (List.mem_cons_of_mem _ hd)
      rw [List.map_cons]
      simp only [PyData.depthAll]
      omega
  unfold SeqAt.shaped
  simp only [PyData.canLay0, PyData.depth, l, Bool.true_and]
  exact decide_eq_true (by omega)
theorem crsD_line {l : List Nat} {i : Nat} {c c' : CA} (h : LineC l i c) (h' : LineC l i c') : crsD c = crsD c' := by
  unfold crsD
  rw [h.nm, h.n, h.es, h.ss, h'.nm, h'.n, h'.es, h'.ss]
theorem crsD_all {l : List Nat} {cs cs' : List CA} (e : cs.length = cs'.length) (h : ∀ (i : Nat) (c : CA), cs[i]? = some c → LineC l i c) (h' : ∀ (i : Nat) (c : CA), cs'[i]? = some c → LineC l i c) : cs.map crsD = cs'.map crsD := by
  refine List.ext_getElem? fun i => ?_
  rw [List.getElem?_map, List.getElem?_map]
  by_cases hi : i < cs.length
  · have h1 : cs[i]? = some (cs[i]'hi) := List.getElem?_eq_getElem _
    have h2 : cs'[i]? = some (cs'[i]'(by omega)) := List.getElem?_eq_getElem _
    rw [h1, h2]
    show some _ = some _
    rw [crsD_line (h i _ h1) (h' i _ h2)]
  · rw [List.getElem?_eq_none (by omega), List.getElem?_eq_none (by omega)]
theorem eqv_self {d : PyData} (h : SeqAt.shaped d = true) : PyData.eqv d d = true := SeqAt.eqv_refl_plain d (PyData.plain_of_canLay0 d (SeqAt.canLay_of_shaped h))
theorem letter_at {i : Nat} (h : i < 8) : ∃ c, atI ("abcdefgh" : Str).cps.toList (i : Int) = some c ∧ (⟨#[c]⟩ : Str) = namesL.getD i "" := by
  have : i = 0 ∨ i = 1 ∨ i = 2 ∨ i = 3 ∨ i = 4 ∨ i = 5 ∨ i = 6 ∨ i = 7 := by omega
  rcases this with h | h | h | h | h | h | h | h <;> subst h
  · exact ⟨97, by decide +kernel, by decide +kernel⟩
  · exact ⟨98, by decide +kernel, by decide +kernel⟩
  · exact ⟨99, by decide +kernel, by decide +kernel⟩
  · exact ⟨100, by decide +kernel, by decide +kernel⟩
  · exact ⟨101, by decide +kernel, by decide +kernel⟩
  · exact ⟨102, by decide +kernel, by decide +kernel⟩
  · exact ⟨103, by decide +kernel, by decide +kernel⟩
  · exact ⟨104, by decide +kernel, by decide +kernel⟩
section
variable {P : Program} {w : World} {K : PySem.W.Frag} {mg : Str → Option Value} {base : Heap}
/-- what isinstance asks of the class -/
structure IsiC (K : PySem.W.Frag) (C : Addr) : Prop where
  ha : PySem.W.findIn K (.ref C) "__class__" = some (some (.builtin "object.__class__"))
  hn : PySem.W.specialIn K (.builtin "object.__class__") "__get__" = some (some (.builtin "getset_descriptor.__get__"))
  ht : PySem.W.takesIn K (.builtin "object.__class__") = some true
  hm : PySem.W.mroIn K C (.type "object") = some true
  ko : PySem.W.kitOne K (.ref C) (.ref C) = some true
def spTallR : Sp := fun vs H Q _ => ∃ (a : Addr) (l : List Nat), vs = [.ref a] ∧ H a = some (.lst (natV l)) ∧ l.length ≤ 1000 ∧ ∀ H', Same H H' → Q (.bl true) H'
abbrev nTr : List Str := ["counts", "book", "letters", "courses", "at", "many", "what", "label", "steps", "product", "number"]
theorem scTr : FnScope nTr ["counts"] (defScope sLawTallestRight) := ⟨rfl, rfl, rfl, by decide +kernel, rfl, by decide +kernel, by decide +kernel⟩
theorem ok_tallr {f C fT fF fP fB fL fN fW : Addr} {fd fdT fdF fdP fdB fdL fdN fdW : FuncData} (F : Fun K "_law_tallest_right" "_law_tallest_right" sLawTallestRight f fd) (N : Nones mg) (B : BkC K mg C) (IB : IsiC K C) (G__law_told : FnOk P w K mg base CX0 11 fT fdT ["counts"] (spTold K C)) (C__law_told : CallC K mg "_law_told" ["counts"] fT fdT) (G__law_fit : FnOk P w K mg base CX0 1 fF fdF ["counts"] spFit) (C__law_fit : CallC K mg "_law_fit" ["counts"] fF fdF)
    (G__law_product : FnOk P w K mg base CX0 1 fP fdP ["numbers"] (spLawProd K)) (C__law_product : CallC K mg "_law_product" ["numbers"] fP fdP) (G_length_bound : FnOk P w K mg base CX0 1 fB fdB ["book"] (spBound K C)) (C_length_bound : CallC K mg "length_bound" ["book"] fB fdB) (G_lengths : FnOk P w K mg base CX0 6 fL fdL ["book", "view"] (spLens K C)) (C_lengths : CallC K mg "lengths" ["book", "view"] fL fdL) (G_plain : FnOk P w K mg base CX0 3 fN fdN ["book"] (spPln K C)) (C_plain : CallC K mg "plain" ["book"] fN fdN)
    (G__law_walked : FnOk P w K mg base CX0 2 fW fdW ["courses"] (spWalked K)) (C__law_walked : CallC K mg "_law_walked" ["courses"] fW fdW) : FnOk P w K mg base CX0 12 f fd ["counts"] spTallR := by
  refine F.ok scTr (fun vs H Q E h => ?_) (fun cdv A outer s0 H vs Q E hr h => ?_)
  · obtain ⟨a, l, rfl, _⟩ := h
    rfl
  · obtain ⟨a, l, rfl, hA, ll, q⟩ := h
    have hu := hu_of hr
    refine ⟨_, pss_cons (ps_par (i := 1) (j := 2) rfl scTr.nd rfl rfl (by decide) rfl rfl (pa_cons (pe_call G__law_told (hr.mono (by decide)) (by rfl) C__law_told.g C__law_told.kp C__law_told.b .nil pass0 (pa_cons (pv 0) pa_nil)) (pa_cons pe_str pa_nil)) (by rfl))
      (pss_cons (ps_if (pt_not (pt_val (pe_call G__law_fit (hr.mono (by decide)) (by rfl) C__law_fit.g C__law_fit.kp C__law_fit.b .nil pass0 (pa_cons (pv 0) pa_nil)))) (pss_one (ps_ret (pe_cmpR op_isN (pv 1) pe_non (nomark _)))) pss_nil)
      (pss_cons (ps_set (i := 3) scTr.nd rfl (Or.inl rfl) (pe_lst pa_nil))
      (pss_cons (ps_for PassesOwn.never rfl (pi_enum (by rfl) N.enumerate (pa_cons (pv 0) pa_nil)) (pg_tup rfl (pgs_cons (pg_name (i := 4) scTr.nd rfl (Or.inl rfl)) (pgs_cons (pg_name (i := 5) scTr.nd rfl (Or.inl rfl)) pgs_nil)))
        (pss_cons (ps_asg (pe_ifExp (pt_cmpR op_eq (pe_op op_add (pv 4) pe_int) (pe_callB call_len_seq (by rfl) N.len PySem.boot_len (pa_cons (pv 0) pa_nil)) (nomark _)) (pe_tup (pa_cons pe_str (pa_cons pe_str pa_nil))) (pe_tup (pa_cons pe_str (pa_cons (pe_ix ix_str (pv 2) (pe_op op_add (pv 4) pe_int) (fun _ _ => rfl)) pa_nil)))) (pg_tup rfl (pgs_cons (pg_name (i := 6) scTr.nd rfl (Or.inr rfl)) (pgs_cons (pg_name (i := 7) scTr.nd rfl (Or.inr rfl)) pgs_nil))))
        (pss_cons (ps_setLc (i := 8) (own := [("number", 10)]) (g := gName 10) (tt := tYes) rfl scTr.nd rfl rfl (sw_true rfl rfl rfl rfl) (pi_range1 (by rfl) N.range (pa_cons (pe_op op_sub (pv 5) pe_int) pa_nil)) (blkOk_by (own := [("number", 10)]) (N := nTr) (sc := defScope sLawTallestRight) (by decide +kernel)) (fun _ _ _ _ _ => (pg_name (i := 10) scTr.nd rfl (Or.inl rfl))) (fun _ _ _ _ _ => pts_nil) (fun _ _ _ _ _ => (pe_tup (pa_cons (pv 10) (pa_cons (pv 6) (pa_cons (pv 7) (pa_cons (pe_op op_add (pv 10) pe_int) pa_nil)))))))
        (pss_one (ps_expr (pe_bm PySem.F.plainAttrs_list PySem.F.slot_list_append PySem.F.type_list_append mt_append (pv 3) (pa_cons (pe_tup (pa_cons (pe_ix ix_str (pv 2) (pv 4) (fun _ _ => rfl)) (pa_cons (pv 5) (pa_cons (pe_tup (pa_cons (pe_op op_sub (pv 5) pe_int) pa_nil)) (pa_cons (pe_callTy call_tuple_of (by rfl) N.tuple (by decide +kernel) (pa_cons (pv 8) pa_nil)) pa_nil))))) pa_nil)))))))
      (pss_cons (ps_if (PW.pt (pw_or (pt_not (pt_val (pe_callB call_isi (by rfl) N.isinstance (by decide +kernel) (pa_cons (pv 1) (pa_cons (pe_glob (v := .ref C) rfl B.mgC rfl) pa_nil))))) (pw_or1 (pt_cmpR (op_neD hr.units) (pe_fld (pv 1) rfl) (pe_callTy call_tuple_of (by rfl) N.tuple (by decide +kernel) (pa_cons (pv 3) pa_nil)) (nomark _))))) (pss_one (ps_ret pe_bl)) pss_nil)
      (pss_cons (ps_set (i := 9) scTr.nd rfl (Or.inl rfl) (pe_call G__law_product (hr.mono (by decide)) (by rfl) C__law_product.g C__law_product.kp C__law_product.b .nil pass0 (pa_cons (pv 0) pa_nil)))
      (pss_cons (ps_if (PW.pt (pw_or (pt_cmpR op_ne (pe_call G_length_bound (hr.mono (by decide)) (by rfl) C_length_bound.g C_length_bound.kp C_length_bound.b .nil pass0 (pa_cons (pv 1) pa_nil)) (pv 9) (nomark _)) (pw_or1 (pt_cmpR op_ne (pe_dget (hu_of hr) (pe_call G_lengths (hr.mono (by decide)) (by rfl) C_lengths.g C_lengths.kp C_lengths.b .nil pass0 (pa_cons (pv 1) (pa_cons (pe_call G_plain (hr.mono (by decide)) (by rfl) C_plain.g C_plain.kp C_plain.b .nil pass0 (pa_cons (pv 1) pa_nil)) pa_nil))) (pe_tup (pa_cons pe_str (pa_cons pe_int pa_nil))) (fun _ _ => rfl)) (pv 9) (nomark _))))) (pss_one (ps_ret pe_bl)) pss_nil)
      (pss_one (ps_ret (pe_or (pe_cmpR op_gt (pv 9) pe_int (nomark _)) (pe_one (pe_cmpR op_eq (pe_call G__law_walked (hr.mono (by decide)) (by rfl) C__law_walked.g C__law_walked.kp C__law_walked.b .nil pass0 (pa_cons (pe_fld (pv 1) rfl) pa_nil)) (pv 9) (nomark _)))))))))))), ?_⟩
    have lv : (natV l).length = l.length := natV_len l
    refine ⟨_, rfl, a, l, rfl, hA, ll, fun nf H1 s1 => ?_, fun ft H1 bk qc cs s1 hB hT => ?_⟩
    · refine ⟨_, _, rfl, ?_⟩
      refine ⟨_, rfl, a, l, rfl, s1 _ _ hA, ll, fun H2 s2 => ?_⟩
      rw [decide_eq_false nf]
      refine ⟨_, rfl, iteYes rfl ?_⟩
      refine ⟨_, rfl, rfl, ?_⟩
      exact q H2 (s1.trans s2)
    · refine ⟨_, _, rfl, ?_⟩
      refine ⟨_, rfl, a, l, rfl, s1 _ _ hA, ll, fun H2 s2 => ?_⟩
      rw [decide_eq_true ft]
      refine ⟨_, rfl, iteNo rfl ?_⟩
      have sA := s1.trans s2
      have hB := hB.mono s2
      have hT := hT.ts (TS.of s2)
      obtain ⟨l1, l8, _, n20⟩ := id ft
      refine ⟨smallE (by show 0 ≤ 1000000; decide), fun D nD => ?_⟩
      have sD := same_new (o := .lst []) nD
      have eD : upd H2 D (.lst []) D = some (.lst []) := upd_same
      refine ⟨_, rfl, a, _, rfl, sqL_new (sD _ _ (sA _ _ hA)), ?_⟩
      refine for_it (walk_enum (K := K) (a := a) (xs := natV l)) (fun i σ Z => ∃ (x4 x5 x6 x7 x8 x9 x10 : Option V) (L : List CA), σ = [some (.ref a), some (.ref bk), some (.str "abcdefgh"), some (.ref D), x4, x5, x6, x7, x8, x9, x10] ∧ Same H2 Z ∧ Z D = some (.lst (L.map fun c => V.ref c.a)) ∧ (∀ c ∈ L, DrawC Z c) ∧ L.length = i ∧ ∀ (j : Nat) (c : CA), L[j]? = some c → LineC l j c) ⟨none, none, none, none, none, none, none, [], rfl, sD, eD, (fun c hc => nomatch hc), rfl, fun j c hc => by simp at hc⟩ (fun i σ Z _ h => ?_) (fun i y σ Z Z' hi h yy => ?_) (fun σ Z h => ?_)
      · obtain ⟨_, _, _, _, _, _, _, _, _, sZ, _⟩ := h
        exact sqL_new (sZ _ _ (sA _ _ hA))
      · obtain ⟨T, z, v, rfl, nT, rfl, hz, hv⟩ := yy
        obtain ⟨x4, x5, x6, x7, x8, x9, x10, L, rfl, sZ, eZ, dL, lL, nL⟩ := h
        cases hz
        obtain ⟨n, hn, rfl⟩ := get_map (f := fun (i : Nat) => V.int (i : Int)) hv
        have hil := lt_of_get hn
        obtain ⟨hn', n2, hn20⟩ := ft.at hil
        rw [hn] at hn'
        have en : n = l.getD i 0 := Option.some.inj hn'
        have sT := same_new (o := .tup [V.int (i : Nat), V.int (n : Nat)]) nT
        have hT1 : upd Z T (.tup [V.int (i : Nat), V.int (n : Nat)]) T = some (.tup [V.int (i : Nat), V.int (n : Nat)]) := upd_same
        have sZ := sZ.trans sT
        have eZ := sT _ _ eZ
        have dL : ∀ c ∈ L, DrawC (upd Z T (.tup [V.int (i : Nat), V.int (n : Nat)])) c := fun c hc => (dL c hc).ts (TS.of sT)
        generalize upd Z T (.tup [V.int (i : Nat), V.int (n : Nat)]) = Z1 at sT hT1 sZ eZ dL
        have eA := sZ _ _ (sA _ _ hA)
        refine ⟨T, _, rfl, sqT_new hT1, rfl, _, _, rfl, _, _, rfl, rfl, ?_⟩
        obtain ⟨ch, hch, ech⟩ := letter_at (show i < 8 by omega)
        have lsz : ("abcdefgh" : Str).length ≤ sizeLine := smallE (by decide +kernel)
        refine ⟨_, rfl, _, _, rfl, rfl, _, rfl, a, _, rfl, .inl (sqL_new eA), rfl, _, rfl, ite2 (fun c0 => ?_) (fun c0 => ?_)⟩
        · have hl : i + 1 = l.length := by
            have := of_decide_eq_true c0
            injection this with this
            omega
          have es : ∀ j, lineStp l i j = ⟨j, false, "x", j + 1⟩ := fun j => if_pos hl
          refine ⟨smallE (by show 2 ≤ 1000000; decide), fun tw ntw => ?_⟩
          have stw := same_new (o := .tup [V.str "do", V.str "x"]) ntw
          have etw : upd Z1 tw (.tup [V.str "do", V.str "x"]) tw = some (.tup [V.str "do", V.str "x"]) := upd_same
          have sZ := sZ.trans stw
          have eZ := stw _ _ eZ
          have dL : ∀ c ∈ L, DrawC (upd Z1 tw (.tup [V.str "do", V.str "x"])) c := fun c hc => (dL c hc).ts (TS.of stw)
          generalize upd Z1 tw (.tup [V.str "do", V.str "x"]) = Z2 at stw etw sZ eZ dL
          refine ⟨tw, _, rfl, sqT_new etw, rfl, _, _, rfl, _, _, rfl, rfl, ?_⟩
          refine ⟨_, rfl, _, _, rfl, rfl, _, rfl, by omega, by omega, fun D2 nD2 => ?_⟩
          rw [show ((n : Int) - 1).toNat = l.getD i 0 - 1 by omega]
          refine lc_it (walk_r0 (n := l.getD i 0 - 1)) (fun j G => ∃ L : List (Addr × Stp), Same Z2 G ∧ G D2 = some (.lst (L.map fun p => V.ref p.1)) ∧ L.map (·.2) = (lineSteps l i).take j ∧ ∀ p ∈ L, G p.1 = some (.tup (stpV p.2))) ⟨[], same_new nD2, upd_same, rfl, fun p hp => nomatch hp⟩ (fun _ _ _ _ => True.intro) (fun j x G G' hj h y => ?_) (fun G h => ?_)
          · obtain ⟨rfl, rfl⟩ := y
            obtain ⟨L2, h⟩ := h
            refine ⟨rfl, _, rfl, _, rfl, _, rfl, _, rfl, _, _, rfl, rfl, smallE (by show 4 ≤ 1000000; decide), fun t nt => ?_⟩
            exact line_put hn20 nD2 hj (es j) h nt
          · obtain ⟨L2, sG, eD2, kL, tL⟩ := h
            rw [← lineSteps_len l i, List.take_length] at kL
            have sZ := sZ.trans sG
            have eZ := sG _ _ eZ
            have dL : ∀ c ∈ L, DrawC G c := fun c hc => (dL c hc).ts (TS.of sG)
            refine ⟨_, rfl, Or.inl ⟨rfl, _, sqL_new eZ⟩, _, rfl, _, rfl, _, (i : Int), ch, rfl, rfl, lsz, hch, _, rfl, _, rfl, _, _, rfl, rfl, smallE (by show 1 ≤ 1000000; decide), fun te nte => ?_⟩
            rw [ech]
            have se := same_new (o := .tup [V.int ((n : Int) - 1)]) nte
            have ee : upd G te (.tup [V.int ((n : Int) - 1)]) te = some (.tup (natV [l.getD i 0 - 1])) := by
              refine upd_same.trans ?_
              have : (n : Int) - 1 = ((l.getD i 0 - 1 : Nat) : Int) := by omega
              rw [this]
              rfl
            have eD2 := se _ _ eD2
            have tL : ∀ p ∈ L2, upd G te (.tup [V.int ((n : Int) - 1)]) p.1 = some (.tup (stpV p.2)) := fun p hp => se _ _ (tL p hp)
            have sZ := sZ.trans se
            have eZ := se _ _ eZ
            have dL : ∀ c ∈ L, DrawC (upd G te (.tup [V.int ((n : Int) - 1)])) c := fun c hc => (dL c hc).ts (TS.of se)
            generalize upd G te (.tup [V.int ((n : Int) - 1)]) = G1 at se ee eD2 tL sZ eZ dL
            refine ⟨_, rfl, D2, _, rfl, .inl ⟨sqL_new eD2, fun ts nts => ?_⟩⟩
            have ss := same_new (o := .tup (L2.map fun p => V.ref p.1)) nts
            have es2 : upd G1 ts (.tup (L2.map fun p => V.ref p.1)) ts = some (.tup (L2.map fun p => V.ref p.1)) := upd_same
            have ee := ss _ _ ee
            have tL : ∀ p ∈ L2, upd G1 ts (.tup (L2.map fun p => V.ref p.1)) p.1 = some (.tup (stpV p.2)) := fun p hp => ss _ _ (tL p hp)
            have sZ := sZ.trans ss
            have eZ := ss _ _ eZ
            have dL : ∀ c ∈ L, DrawC (upd G1 ts (.tup (L2.map fun p => V.ref p.1))) c := fun c hc => (dL c hc).ts (TS.of ss)
            generalize upd G1 ts (.tup (L2.map fun p => V.ref p.1)) = G2 at ss es2 ee tL sZ eZ dL
            refine ⟨smallE (by show 4 ≤ 1000000; decide), fun qq nqq => ?_⟩
            have sq := same_new (o := .tup [V.str (namesL.getD i ""), V.int (n : Int), V.ref te, V.ref ts]) nqq
            have eq : upd G2 qq (.tup [V.str (namesL.getD i ""), V.int (n : Int), V.ref te, V.ref ts]) qq = some (.tup (crsV ⟨qq, namesL.getD i "", l.getD i 0, te, [l.getD i 0 - 1], ts, L2⟩)) := by rw [upd_same, ← en]; rfl
            have ee := sq _ _ ee
            have es2 := sq _ _ es2
            have tL : ∀ p ∈ L2, upd G2 qq (.tup [V.str (namesL.getD i ""), V.int (n : Int), V.ref te, V.ref ts]) p.1 = some (.tup (stpV p.2)) := fun p hp => sq _ _ (tL p hp)
            have sZ := sZ.trans sq
            have eZ := sq _ _ eZ
            have dL : ∀ c ∈ L, DrawC (upd G2 qq (.tup [V.str (namesL.getD i ""), V.int (n : Int), V.ref te, V.ref ts])) c := fun c hc => (dL c hc).ts (TS.of sq)
            generalize upd G2 qq (.tup [V.str (namesL.getD i ""), V.int (n : Int), V.ref te, V.ref ts]) = G3 at sq eq ee es2 tL sZ eZ dL
            have tk : TS G3 (upd G3 D (.lst ((L.map fun c => V.ref c.a) ++ [.ref qq]))) := fun c xs e => by
              rw [upd_ne]
              · exact e
              · intro z
                rw [z, eZ] at e
                cases e
            refine ⟨D, _, _, rfl, rfl, eZ, by rw [List.length_map]; exact small (by omega), ?_⟩
            refine ⟨_, _, _, _, _, _, _, L ++ [⟨qq, namesL.getD i "", l.getD i 0, te, [l.getD i 0 - 1], ts, L2⟩], rfl, fun b o e => ?_, ?_, fun c hc => ?_, by rw [List.length_append, lL]; rfl, fun j c hj => ?_⟩
            · rw [upd_ne (ne_of_none e nD)]
              exact sZ _ _ e
            · rw [upd_same, List.map_append]
              rfl
            · rcases List.mem_append.mp hc with z | z
              · exact (dL c z).ts tk
              · rw [List.mem_singleton.mp z]
                exact ⟨tk _ _ eq, tk _ _ ee, tk _ _ es2, fun p hp => tk _ _ (tL p hp)⟩
            · by_cases hjl : j < L.length
              · rw [List.getElem?_append_left hjl] at hj
                exact nL j c hj
              · rw [List.getElem?_append_right (by omega)] at hj
                have : j - L.length = 0 := by
                  have := lt_of_get hj
                  rw [List.length_singleton] at this
                  omega
                rw [this] at hj
                cases hj
                have : j = i := by omega
                rw [this]
                exact ⟨rfl, rfl, rfl, kL⟩
        · have hl : ¬ i + 1 = l.length := fun z => c0 (decide_eq_true (show V.int ((i : Int) + 1) = V.int ((natV l).length : Int) from by rw [lv, ← z]; rfl))
          have es : ∀ j, lineStp l i j = ⟨j, true, namesL.getD (i + 1) "", j + 1⟩ := fun j => if_neg hl
          obtain ⟨ch2, hch2, ech2⟩ := letter_at (show i + 1 < 8 by omega)
          refine ⟨_, rfl, _, rfl, _, _, rfl, rfl, _, ((i + 1 : Nat) : Int), ch2, rfl, rfl, lsz, hch2, ?_⟩
          rw [ech2]
          refine ⟨smallE (by show 2 ≤ 1000000; decide), fun tw ntw => ?_⟩
          have stw := same_new (o := .tup [V.str "call", V.str (namesL.getD (i + 1) "")]) ntw
          have etw : upd Z1 tw (.tup [V.str "call", V.str (namesL.getD (i + 1) "")]) tw = some (.tup [V.str "call", V.str (namesL.getD (i + 1) "")]) := upd_same
          have sZ := sZ.trans stw
          have eZ := stw _ _ eZ
          have dL : ∀ c ∈ L, DrawC (upd Z1 tw (.tup [V.str "call", V.str (namesL.getD (i + 1) "")])) c := fun c hc => (dL c hc).ts (TS.of stw)
          generalize upd Z1 tw (.tup [V.str "call", V.str (namesL.getD (i + 1) "")]) = Z2 at stw etw sZ eZ dL
          refine ⟨tw, _, rfl, sqT_new etw, rfl, _, _, rfl, _, _, rfl, rfl, ?_⟩
          refine ⟨_, rfl, _, _, rfl, rfl, _, rfl, by omega, by omega, fun D2 nD2 => ?_⟩
          rw [show ((n : Int) - 1).toNat = l.getD i 0 - 1 by omega]
          refine lc_it (walk_r0 (n := l.getD i 0 - 1)) (fun j G => ∃ L : List (Addr × Stp), Same Z2 G ∧ G D2 = some (.lst (L.map fun p => V.ref p.1)) ∧ L.map (·.2) = (lineSteps l i).take j ∧ ∀ p ∈ L, G p.1 = some (.tup (stpV p.2))) ⟨[], same_new nD2, upd_same, rfl, fun p hp => nomatch hp⟩ (fun _ _ _ _ => True.intro) (fun j x G G' hj h y => ?_) (fun G h => ?_)
          · obtain ⟨rfl, rfl⟩ := y
            obtain ⟨L2, h⟩ := h
            refine ⟨rfl, _, rfl, _, rfl, _, rfl, _, rfl, _, _, rfl, rfl, smallE (by show 4 ≤ 1000000; decide), fun t nt => ?_⟩
            exact line_put hn20 nD2 hj (es j) h nt
          · obtain ⟨L2, sG, eD2, kL, tL⟩ := h
            rw [← lineSteps_len l i, List.take_length] at kL
            have sZ := sZ.trans sG
            have eZ := sG _ _ eZ
            have dL : ∀ c ∈ L, DrawC G c := fun c hc => (dL c hc).ts (TS.of sG)
            refine ⟨_, rfl, Or.inl ⟨rfl, _, sqL_new eZ⟩, _, rfl, _, rfl, _, (i : Int), ch, rfl, rfl, lsz, hch, _, rfl, _, rfl, _, _, rfl, rfl, smallE (by show 1 ≤ 1000000; decide), fun te nte => ?_⟩
            rw [ech]
            have se := same_new (o := .tup [V.int ((n : Int) - 1)]) nte
            have ee : upd G te (.tup [V.int ((n : Int) - 1)]) te = some (.tup (natV [l.getD i 0 - 1])) := by
              refine upd_same.trans ?_
              have : (n : Int) - 1 = ((l.getD i 0 - 1 : Nat) : Int) := by omega
              rw [this]
              rfl
            have eD2 := se _ _ eD2
            have tL : ∀ p ∈ L2, upd G te (.tup [V.int ((n : Int) - 1)]) p.1 = some (.tup (stpV p.2)) := fun p hp => se _ _ (tL p hp)
            have sZ := sZ.trans se
            have eZ := se _ _ eZ
            have dL : ∀ c ∈ L, DrawC (upd G te (.tup [V.int ((n : Int) - 1)])) c := fun c hc => (dL c hc).ts (TS.of se)
            generalize upd G te (.tup [V.int ((n : Int) - 1)]) = G1 at se ee eD2 tL sZ eZ dL
            refine ⟨_, rfl, D2, _, rfl, .inl ⟨sqL_new eD2, fun ts nts => ?_⟩⟩
            have ss := same_new (o := .tup (L2.map fun p => V.ref p.1)) nts
            have es2 : upd G1 ts (.tup (L2.map fun p => V.ref p.1)) ts = some (.tup (L2.map fun p => V.ref p.1)) := upd_same
            have ee := ss _ _ ee
            have tL : ∀ p ∈ L2, upd G1 ts (.tup (L2.map fun p => V.ref p.1)) p.1 = some (.tup (stpV p.2)) := fun p hp => ss _ _ (tL p hp)
            have sZ := sZ.trans ss
            have eZ := ss _ _ eZ
            have dL : ∀ c ∈ L, DrawC (upd G1 ts (.tup (L2.map fun p => V.ref p.1))) c := fun c hc => (dL c hc).ts (TS.of ss)
            generalize upd G1 ts (.tup (L2.map fun p => V.ref p.1)) = G2 at ss es2 ee tL sZ eZ dL
            refine ⟨smallE (by show 4 ≤ 1000000; decide), fun qq nqq => ?_⟩
            have sq := same_new (o := .tup [V.str (namesL.getD i ""), V.int (n : Int), V.ref te, V.ref ts]) nqq
            have eq : upd G2 qq (.tup [V.str (namesL.getD i ""), V.int (n : Int), V.ref te, V.ref ts]) qq = some (.tup (crsV ⟨qq, namesL.getD i "", l.getD i 0, te, [l.getD i 0 - 1], ts, L2⟩)) := by rw [upd_same, ← en]; rfl
            have ee := sq _ _ ee
            have es2 := sq _ _ es2
            have tL : ∀ p ∈ L2, upd G2 qq (.tup [V.str (namesL.getD i ""), V.int (n : Int), V.ref te, V.ref ts]) p.1 = some (.tup (stpV p.2)) := fun p hp => sq _ _ (tL p hp)
            have sZ := sZ.trans sq
            have eZ := sq _ _ eZ
            have dL : ∀ c ∈ L, DrawC (upd G2 qq (.tup [V.str (namesL.getD i ""), V.int (n : Int), V.ref te, V.ref ts])) c := fun c hc => (dL c hc).ts (TS.of sq)
            generalize upd G2 qq (.tup [V.str (namesL.getD i ""), V.int (n : Int), V.ref te, V.ref ts]) = G3 at sq eq ee es2 tL sZ eZ dL
            have tk : TS G3 (upd G3 D (.lst ((L.map fun c => V.ref c.a) ++ [.ref qq]))) := fun c xs e => by
              rw [upd_ne]
              · exact e
              · intro z
                rw [z, eZ] at e
                cases e
            refine ⟨D, _, _, rfl, rfl, eZ, by rw [List.length_map]; exact small (by omega), ?_⟩
            refine ⟨_, _, _, _, _, _, _, L ++ [⟨qq, namesL.getD i "", l.getD i 0, te, [l.getD i 0 - 1], ts, L2⟩], rfl, fun b o e => ?_, ?_, fun c hc => ?_, by rw [List.length_append, lL]; rfl, fun j c hj => ?_⟩
            · rw [upd_ne (ne_of_none e nD)]
              exact sZ _ _ e
            · rw [upd_same, List.map_append]
              rfl
            · rcases List.mem_append.mp hc with z | z
              · exact (dL c z).ts tk
              · rw [List.mem_singleton.mp z]
                exact ⟨tk _ _ eq, tk _ _ ee, tk _ _ es2, fun p hp => tk _ _ (tL p hp)⟩
            · by_cases hjl : j < L.length
              · rw [List.getElem?_append_left hjl] at hj
                exact nL j c hj
              · rw [List.getElem?_append_right (by omega)] at hj
                have : j - L.length = 0 := by
                  have := lt_of_get hj
                  rw [List.length_singleton] at this
                  omega
                rw [this] at hj
                cases hj
                have : j = i := by omega
                rw [this]
                exact ⟨rfl, rfl, rfl, kL⟩
      · obtain ⟨x4, x5, x6, x7, x8, x9, x10, L, rfl, sZ, eZ, dL, lL, nL⟩ := h
        rw [lv] at lL
        have hB := hB.mono sZ
        have hT := hT.ts (TS.of sZ)
        have ok := csOk_tall ft hT
        have hA3 := sZ _ _ (sA _ _ hA)
        have sHZ := sA.trans sZ
        obtain ⟨dx, fs, P1, S1, E1, L1, S0, hp, Lf, _⟩ := id hB
        refine ⟨_, rfl, .ref bk, .ref C, .ref C, .ref C, true, rfl, .own C, .base (.ins hp B.cl IB.ha IB.hn IB.ht IB.hm), IB.ko, true, rfl, iteF ?_⟩
        refine ⟨_, rfl, bk, C, dx, fs, .ref qc, rfl, hp, B.cl, B.nC, Lf.c, _, rfl, D, _, rfl, .inl ⟨sqL_new eZ, fun tt ntt => ?_⟩⟩
        have st := same_new (o := .tup (L.map fun c => V.ref c.a)) ntt
        have et : upd Z tt (.tup (L.map fun c => V.ref c.a)) tt = some (.tup (L.map fun c => V.ref c.a)) := upd_same
        have hB := hB.mono st
        have hT := hT.ts (TS.of st)
        have dL : ∀ c ∈ L, DrawC (upd Z tt (.tup (L.map fun c => V.ref c.a))) c := fun c hc => (dL c hc).ts (TS.of st)
        have hA3 := st _ _ hA3
        have sHZ := sHZ.trans st
        generalize upd Z tt (.tup (L.map fun c => V.ref c.a)) = Z4 at st et hB hT dL hA3 sHZ
        have eqD : L.map crsD = cs.map crsD := crsD_all (by rw [lL, hT.len]) nL hT.ln
        have shp := crss_shaped (cs := cs) fun c hc => ok.ok c hc
        refine ⟨.tuple (cs.map crsD), .tuple (L.map crsD), .tup (sqT_new hT.t) (dp_crss hT.c), .tup (sqT_new et) (dp_crss dL), shp, by rw [eqD]; exact shp, ?_⟩
        rw [eqD, eqv_self shp]
        refine ⟨_, rfl, iteNo rfl ?_⟩
        refine ⟨_, rfl, a, l, rfl, sqL_new hA3, fun n hn => by have := (n20 n hn).2; omega, ?_⟩
        have enl := hT.ns ft
        refine ⟨_, rfl, bk, qc, cs, rfl, hB, _, rfl, rfl, _, rfl, ?_⟩
        rw [enl]
        refine iteNo (by simp) ?_
        refine ⟨_, rfl, _, rfl, bk, qc, cs, rfl, hB, fun H5 qp ds s5 np perm srt pln => ?_⟩
        obtain ⟨kvs, hRd, hvw⟩ := pln_lens (K := K) (cs := cs) pln perm
        refine ⟨bk, qc, qp, cs, kvs, fun _ => 1, rfl, hB.mono s5, hRd, hvw, fun H6 qt dn dn' s6 nt e6 pdn ksrt S sub => ?_⟩
        refine ⟨smallE (by show 2 ≤ 1000000; decide), fun t nt => ?_⟩
        have s7 := same_new (o := .tup [V.str "a", V.int 0]) nt
        have e7 : upd H6 t (.tup [V.str "a", V.int 0]) t = some (.tup ((stK (("a" : Str), 0)).map kV)) := upd_same
        have e6 := s7 _ _ e6
        have s57 := (s5.trans s6).trans s7
        generalize upd H6 t (.tup [V.str "a", V.int 0]) = H7 at s7 e7 e6 s57
        obtain ⟨k1, k2⟩ := tall_len ft hT S
        have g := DGet.t e6 e7
        rw [valV_lw, if_pos ((keys_perm pdn).mem_iff.mpr k1), vf_perm pdn S.nd k1, k2] at g
        refine ⟨qt, _, rfl, g, _, rfl, rfl, _, rfl, iteNo (by simp) ?_⟩
        have sF := sHZ.trans s57
        have hB := hB.mono s57
        have hT := hT.ts (TS.of s57)
        refine ⟨_, rfl, _, _, rfl, rfl, _, rfl, ite2 (fun c0 => ?_) (fun c0 => ?_)⟩
        · exact q H7 sF
        · have p130 : prodL l ≤ 130 := by
            have : ¬ (130 : Int) < (prodL l : Int) := fun z => c0 (decide_eq_true z)
            omega
          obtain ⟨dx, fs, P1, S1, E1, L1, S0, hp, Lf, _⟩ := id hB
          refine ⟨_, rfl, bk, C, dx, fs, .ref qc, rfl, hp, B.cl, B.nC, Lf.c, qc, l, cs, rfl, hT, ft, p130, fun H8 s8 => ?_⟩
          refine ⟨_, rfl, rfl, ?_⟩
          dsimp only
          rw [decide_eq_true rfl]
          exact q H8 (sF.trans s8)
end
end Kb
namespace Kb
open PySem PySem.Spec PyProof.Rows L2
section
variable {P : Program} {w : World} {K : PySem.W.Frag} {mg : Str → Option Value} {base : Heap}
theorem scBox : FnScope ["script", "k", "cell"] ["script", "k"] (defScope sBox) := ⟨rfl, rfl, rfl, by decide +kernel, rfl, by decide +kernel, by decide +kernel⟩
def spBox (K : PySem.W.Frag) : Sp := fun vs H Q _ => ∃ (a : Addr) (k : Nat) (ns : List Int), vs = [.ref a, .int (k : Nat)] ∧ SqL K H a (intV ns) ∧ k ≤ 3 ∧ ∀ H' p, Same H H' → H p = none → Box H' p → Q (.ref p) H'
theorem ok_box {f : Addr} {fd : FuncData} (F : Fun K "_law_box" "_law_box" sBox f fd) (mi : mg "int" = none) (ml : mg "len" = none) (ma : mg "abs" = none) : FnOk P w K mg base CX0 1 f fd ["script", "k"] (spBox K) := by
  refine F.ok scBox (fun vs H Q E h => ?_) (fun cdv A outer s H vs Q E hr h => ?_)
  · obtain ⟨a, k, ns, rfl, _⟩ := h
    rfl
  · obtain ⟨a, k, ns, rfl, hA, hk, q⟩ := h
    refine ⟨_, pss_cons (ps_set (i := 2) scBox.nd rfl (.inl rfl) (pe_op op_add (pe_op op_mul pe_int (pv 1)) pe_int))
      (pss_cons (ps_if (pt_cmpR op_lt (pv 1) (pe_callB call_len_seq (by rfl) ml PySem.boot_len (pa_cons (pv 0) pa_nil)) (nomark _))
        (pss_one (ps_set (i := 2) scBox.nd rfl (.inl rfl) (pe_callB call_abs (by rfl) ma (by decide +kernel) (pa_cons (pe_ix ix_list (pv 0) (pv 1) (fun _ _ => rfl)) pa_nil))))
        (pss_one (ps_if (pt_cmpR op_gt (pe_callB call_len_seq (by rfl) ml PySem.boot_len (pa_cons (pv 0) pa_nil)) pe_int (nomark _))
          (pss_one (ps_set (i := 2) scBox.nd rfl (.inl rfl) (pe_op op_add (pv 2) (pe_op op_mul (pe_op op_mod (pe_callTy call_int1 (by rfl) mi (by decide +kernel) (pa_cons (pe_callB call_abs (by rfl) ma (by decide +kernel) (pa_cons
              (pe_ix ix_list (pv 0) (pe_op op_mod (pe_callTy call_int1 (by rfl) mi (by decide +kernel) (pa_cons (pv 1) pa_nil)) (pe_callB call_len_seq (by rfl) ml PySem.boot_len (pa_cons (pv 0) pa_nil))) (fun _ _ => rfl)) pa_nil)) pa_nil)) pe_int) pe_int)))) pss_nil)))
      (pss_one (ps_ret (pe_lst (pa_cons (pe_ix ix_list (pe_lst (pa_cons pe_int (pa_cons (pv 2) pa_nil))) (pe_callTy call_int1 (by rfl) mi (by decide +kernel) (pa_cons (pe_cmpR op_ge (pv 2) (pe_op op_pow pe_int pe_int) (nomark _)) pa_nil)) (fun _ _ => rfl))
        (pa_cons (pe_op op_add (pe_op op_mod (pe_callTy call_int1 (by rfl) mi (by decide +kernel) (pa_cons (pe_op op_add (pe_op op_add (pe_op op_mul (pe_op op_mod (pe_callTy call_int1 (by rfl) mi (by decide +kernel) (pa_cons (pv 2) pa_nil)) pe_int) pe_int) (pe_op op_mul pe_int (pv 1))) pe_int) pa_nil)) pe_int) pe_int) (pa_cons pe_int pa_nil))))))), ?_⟩
    have s1000 : ∀ n, n ≤ 1000000 → n ≤ sizeLine := fun n h => smallE h
    refine ⟨.int (k : Nat), rfl, _, (k : Nat), rfl, rfl, .inl (by decide), _, _, rfl, rfl, ?_⟩
    refine ⟨.int (k : Nat), rfl, .ref a, rfl, a, _, rfl, .inl hA, _, _, rfl, rfl, _, rfl, ?_⟩
    generalize hX : tRet _ _ = X
    have fin : ∀ c : Int, X [some (.ref a), some (.int (k : Nat)), some (.int c)] H := fun c => by
      rw [← hX]
      refine ⟨.int c, rfl, s1000 2 (by decide), fun l nl => ?_⟩
      have s1 := same_new (o := .lst [.int 0, .int c]) nl
      refine ⟨.int c, rfl, 10, 18, rfl, rfl, ⟨by decide, by decide, by decide⟩, _, _, rfl, rfl, .inr ⟨_, rfl, ?_⟩⟩
      have hat : ∃ e : Int, atI [V.int 0, V.int c] (if decide ((10 : Int) ^ (18 : Int).toNat ≤ c) = true then 1 else 0) = some (.int e) := by
        by_cases h : decide ((10 : Int) ^ (18 : Int).toNat ≤ c) = true
        · rw [if_pos h]
          exact ⟨c, rfl⟩
        · rw [if_neg h]
          exact ⟨0, rfl⟩
      obtain ⟨e, he⟩ := hat
      refine ⟨l, _, _, .int e, rfl, rfl, sqL_new upd_same, he, ?_⟩
      refine ⟨.int c, rfl, .inl ⟨c, rfl, c, 2147483629, rfl, rfl, (by show (0 : Int) < 2147483629; decide), _, _, rfl, rfl, .inr (by decide), .int (k : Nat), rfl, _, _, rfl, rfl, .inl (by decide), _, _, rfl, rfl, _, _, rfl, rfl, .inl ⟨_, rfl, _, 2147483629, rfl, rfl, (by show (0 : Int) < 2147483629; decide), _, 1, rfl, rfl, ?_⟩⟩⟩
      refine ⟨s1000 3 (by decide), fun l2 nl2 => ?_⟩
      exact q _ l2 (s1.trans (same_new nl2)) (s1.free nl2) ⟨_, _, _, upd_same⟩
    refine ite2 (fun c => ?_) (fun c => ?_)
    · have c := of_decide_eq_true c
      rw [intV_len] at c
      have hg : ns[k]? = some (ns[k]'(by omega)) := List.getElem?_eq_getElem (by omega)
      exact ⟨.ref a, rfl, .int (k : Nat), rfl, a, _, _, _, rfl, rfl, hA, atI_nat (intV_get hg), _, rfl, fin _⟩
    · refine ⟨.ref a, rfl, a, _, rfl, .inl hA, _, 0, rfl, rfl, _, rfl, ite2 (fun c2 => ?_) (fun c2 => ?_)⟩
      · have c2 := of_decide_eq_true c2
        rw [intV_len] at c2
        obtain ⟨r, hr1, hr2⟩ := mod_nat (k : Int) (n := ns.length) (by omega)
        have hg : ns[r]? = some (ns[r]'(by omega)) := List.getElem?_eq_getElem (by omega)
        refine ⟨_, rfl, .ref a, rfl, .int (k : Nat), rfl, .inl ⟨_, rfl, .ref a, rfl, a, _, rfl, .inl hA, _, _, rfl, rfl, ?_, ?_⟩⟩
        · show (0 : Int) < (((intV ns).length : Nat) : Int)
          rw [intV_len]
          exact c2
        · refine ⟨a, _, _, _, rfl, rfl, hA, at_of (by rw [intV_len]; exact hr2) (intV_get hg), _, rfl, .inl ⟨_, rfl, _, 2147483629, rfl, rfl, (by show (0 : Int) < 2147483629; decide), _, _, rfl, rfl, .inr (by decide), _, _, rfl, rfl, fin _⟩⟩
      · exact fin _
end
end Kb
namespace Kb
open PySem PySem.Spec PyProof.Rows L2
/-! ### the law -/
theorem ktup_int2 {K : PySem.W.Frag} {a : Addr} {dd : Option Addr} {n : Nat} {sl : Array (Option Value)} {i j : Int} {t u : Tok} (h : K.lookup a = some ⟨.type "tuple", dd, .seq #[.int i t, .int j u] n, sl⟩) : KTup K a [.int i, .int j] :=
  ⟨_, _, _, h, rfl, rfl, smallE (by show 2 ≤ 1000000; decide), .cons ⟨_, rfl⟩ (.cons ⟨_, rfl⟩ .nil)⟩
theorem ktup_names {K : PySem.W.Frag} {a : Addr} {dd : Option Addr} {n : Nat} {sl : Array (Option Value)} {t0 t1 t2 t3 t4 t5 t6 t7 : Tok} (h : K.lookup a = some ⟨.type "tuple", dd, .seq #[.str "a" t0, .str "b" t1, .str "c" t2, .str "d" t3, .str "e" t4, .str "f" t5, .str "g" t6, .str "h" t7] n, sl⟩) : KTup K a (namesL.map V.str) :=
  ⟨_, _, _, h, rfl, rfl, smallE (by show 8 ≤ 1000000; decide), .cons ⟨_, rfl⟩ (.cons ⟨_, rfl⟩ (.cons ⟨_, rfl⟩ (.cons ⟨_, rfl⟩ (.cons ⟨_, rfl⟩ (.cons ⟨_, rfl⟩ (.cons ⟨_, rfl⟩ (.cons ⟨_, rfl⟩ .nil)))))))⟩
section
variable {P : Program} {w : World} {K : PySem.W.Frag} {mg : Str → Option Value} {base : Heap}
def spLaw (K : PySem.W.Frag) : Sp := fun vs H Q _ => ∃ (a : Addr) (ns : List Int), vs = [.ref a] ∧ SqL K H a (intV ns) ∧ ∀ H', Q (.bl true) H'
abbrev nLw2 : List Str := ["script", "k", "box"]
theorem scLw2 : FnScope nLw2 ["script"] (defScope sLaw) := ⟨rfl, rfl, rfl, by decide +kernel, rfl, by decide +kernel, by decide +kernel⟩
theorem ok_law {f fB fR fT fC : Addr} {fd dB dR dT dC : FuncData} (F : Fun K "law" "law" sLaw f fd) (N : Nones mg) (G__law_box : FnOk P w K mg base CX0 1 fB dB ["script", "k"] (spBox K)) (C__law_box : CallC K mg "_law_box" ["script", "k"] fB dB)
    (G__law_book_right : FnOk P w K mg base CX0 10 fR dR ["box"] spBookR) (C__law_book_right : CallC K mg "_law_book_right" ["box"] fR dR) (G__law_tallest_right : FnOk P w K mg base CX0 12 fT dT ["counts"] spTallR) (C__law_tallest_right : CallC K mg "_law_tallest_right" ["counts"] fT dT)
    (G__law_counts : FnOk P w K mg base CX0 2 fC dC ["box"] spCounts) (C__law_counts : CallC K mg "_law_counts" ["box"] fC dC) : FnOk P w K mg base CX0 13 f fd ["script"] (spLaw K) := by
  refine F.ok scLw2 (fun vs H Q E h => ?_) (fun cdv A outer s H vs Q E hr h => ?_)
  · obtain ⟨a, ns, rfl, _⟩ := h
    rfl
  · obtain ⟨a, ns, rfl, hA, q⟩ := h
    refine ⟨_, pss_cons (ps_for PassesOwn.never rfl (pi_range1 (by rfl) N.range (pa_cons (pe_callB (call_max2 rfl) (by rfl) N.max (by decide +kernel) (pa_cons pe_int (pa_cons (pe_callB (call_min2 rfl) (by rfl) N.min (by decide +kernel) (pa_cons pe_int (pa_cons (pe_callB call_len_seq (by rfl) N.len PySem.boot_len (pa_cons (pv 0) pa_nil)) pa_nil))) pa_nil))) pa_nil)) (pg_name (i := 1) scLw2.nd rfl (Or.inl rfl))
        (pss_cons (ps_set (i := 2) scLw2.nd rfl (Or.inl rfl) (pe_call G__law_box (hr.mono (by decide)) (by rfl) C__law_box.g C__law_box.kp C__law_box.b .nil pass0 (pa_cons (pv 0) (pa_cons (pv 1) pa_nil))))
        (pss_one (ps_if (PW.pt (pw_or (pt_not (pt_val (pe_call G__law_book_right (hr.mono (by decide)) (by rfl) C__law_book_right.g C__law_book_right.kp C__law_book_right.b .nil pass0 (pa_cons (pv 2) pa_nil)))) (pw_or1 (pt_not (pt_val (pe_call G__law_tallest_right (hr.mono (by decide)) (by rfl) C__law_tallest_right.g C__law_tallest_right.kp C__law_tallest_right.b .nil pass0 (pa_cons (pe_call G__law_counts (hr.mono (by decide)) (by rfl) C__law_counts.g C__law_counts.kp C__law_counts.b .nil pass0 (pa_cons (pv 2) pa_nil)) pa_nil))))))) (pss_one (ps_ret pe_bl)) pss_nil))))
      (pss_one (ps_ret pe_bl)), ?_⟩
    obtain ⟨m, hm2, hm⟩ : ∃ m : Nat, m ≤ 2 ∧ (if (if ((intV ns).length : Int) < 2 then ((intV ns).length : Int) else 2) > 1 then (if ((intV ns).length : Int) < 2 then ((intV ns).length : Int) else 2) else 1) = (m : Int) := by
      refine ⟨max 1 (min 2 ns.length), by omega, ?_⟩
      rw [intV_len]
      split <;> split <;> omega
    refine ⟨_, rfl, a, _, rfl, .inl hA, _, _, rfl, _, _, rfl, (m : Int), congrArg (fun z => [V.int z]) hm, by omega, by omega, ?_⟩
    have em : ((m : Int)).toNat = m := by omega
    rw [em]
    refine for_it (walk_r0 (n := m)) (fun i σ Z => ∃ x1 x2 : Option V, σ = [some (.ref a), x1, x2] ∧ Same H Z) ⟨none, none, rfl, fun _ _ e => e⟩ (fun _ _ _ _ _ => True.intro) (fun i y σ Z Z' hi h yy => ?_) (fun σ Z h => ?_)
    · obtain ⟨rfl, rfl⟩ := yy
      obtain ⟨x1, x2, rfl, sZ⟩ := h
      refine ⟨_, rfl, _, rfl, a, i, ns, rfl, sZ.seq hA, by omega, fun H1 x s1 nx b1 => ?_⟩
      have nxH := sZ.free nx
      have sH1 := sZ.trans s1
      refine ⟨_, rfl, x, rfl, b1, fun H2 k2 b2 => ?_⟩
      refine ⟨_, rfl, iteF ?_⟩
      refine ⟨_, rfl, x, rfl, b2, fun H3 qc l k3 b3 nq eq ll ln => ?_⟩
      refine ⟨qc, l, rfl, eq, by omega, fun H4 s4 => ?_⟩
      refine ⟨_, rfl, iteF ?_⟩
      refine ⟨_, _, rfl, fun c u e => ?_⟩
      exact s4 _ _ ((k2.trans k3) c u (ne_of_none e nxH) (sH1 _ _ e))
    · obtain ⟨x1, x2, rfl, sZ⟩ := h
      exact q Z
end
end Kb
namespace Kb
open PySem PySem.Spec PyProof.Rows L2
/-! ### the end: what the top has written -/
theorem all_mk {l : PySem.W.OpenLaw} {w : World} {K : PySem.W.Frag} {h : Heap} {mg : Str → Option Value} {fa CB CRe aF aS : Addr} {ddF ddS ddN : Option Addr} {nF nS nN : Nat} {slF slS slN : Array (Option Value)} {tF0 tF1 tS0 tS1 tN0 tN1 tN2 tN3 tN4 tN5 tN6 tN7 : Tok} {aN : Addr} (X : K.In h) (G : h.Ns mainGlobals mg) (hfa : mg "law" = some (.ref fa))
    {fIi fIn fNt fNm fLt fIl fAs fCe fCt fIc fAe fAt fIs fDi fLe fLb fTa fLn fPf fSo fAi fSe fWp fWc fLw fPn fLs fRl fBx fTk fPk fLx fLst fLc fLcs fLle fLen fLpr fLbr fLco fLfi fLto fLwa fLtr fLa fBi fBd fBn fBsg fBst fBie fIRe : Addr} {odIi anIi odIn anIn odNt anNt odNm anNm odLt anLt odIl anIl odAs anAs odCe anCe odCt anCt odIc anIc odAe anAe odAt anAt odIs anIs odDi anDi odLe anLe odLb anLb odTa anTa odLn anLn odPf anPf odSo anSo odAi anAi odSe anSe odWp anWp odWc anWc odLw anLw odPn anPn odLs anLs odRl anRl odBx anBx odTk anTk odPk anPk odLx anLx odLst anLst odLc anLc odLcs anLcs odLle anLle odLen anLen odLpr anLpr odLbr anLbr odLco anLco odLfi anLfi odLto anLto odLwa anLwa odLtr anLtr odLa anLa odBi anBi odBd anBd odBn anBn odBsg anBsg odBst anBst odBie anBie odIRe anIRe : Option Addr} {slIi slIn slNt slNm slLt slIl slAs slCe slCt slIc slAe slAt slIs slDi slLe slLb slTa slLn slPf slSo slAi slSe slWp slWc slLw slPn slLs slRl slBx slTk slPk slLx slLst slLc slLcs slLle slLen slLpr slLbr slLco slLfi slLto slLwa slLtr slLa slBi slBd slBn slBsg slBst slBie slIRe : Array (Option Value)}
    {ocIi dcIi pmIi ctIi cdIi kVIi ocIn dcIn pmIn ctIn cdIn kVIn ocNt dcNt pmNt ctNt cdNt kVNt ocNm dcNm pmNm ctNm cdNm kVNm ocLt dcLt pmLt ctLt cdLt kVLt ocIl dcIl pmIl ctIl cdIl kVIl ocAs dcAs pmAs ctAs cdAs kVAs ocCe dcCe pmCe ctCe cdCe kVCe ocCt dcCt pmCt ctCt cdCt kVCt ocIc dcIc pmIc ctIc cdIc kVIc ocAe dcAe pmAe ctAe cdAe kVAe ocAt dcAt pmAt ctAt cdAt kVAt ocIs dcIs pmIs ctIs cdIs kVIs ocDi dcDi pmDi ctDi cdDi kVDi ocLe dcLe pmLe ctLe cdLe kVLe ocLb dcLb pmLb ctLb cdLb kVLb ocTa dcTa pmTa ctTa cdTa kVTa ocLn dcLn pmLn ctLn cdLn kVLn ocPf dcPf pmPf ctPf cdPf kVPf ocSo dcSo pmSo ctSo cdSo kVSo ocAi dcAi pmAi ctAi cdAi kVAi ocSe dcSe pmSe ctSe cdSe kVSe ocWp dcWp pmWp ctWp cdWp kVWp ocWc dcWc pmWc ctWc cdWc kVWc ocLw dcLw pmLw ctLw cdLw kVLw ocPn dcPn pmPn ctPn cdPn kVPn ocLs dcLs pmLs ctLs cdLs kVLs ocRl dcRl pmRl ctRl cdRl kVRl ocBx dcBx pmBx ctBx cdBx kVBx ocTk dcTk pmTk ctTk cdTk kVTk ocPk dcPk pmPk ctPk cdPk kVPk ocLx dcLx pmLx ctLx cdLx kVLx ocLst dcLst pmLst ctLst cdLst kVLst ocLc dcLc pmLc ctLc cdLc kVLc ocLcs dcLcs pmLcs ctLcs cdLcs kVLcs ocLle dcLle pmLle ctLle cdLle kVLle ocLen dcLen pmLen ctLen cdLen kVLen ocLpr dcLpr pmLpr ctLpr cdLpr kVLpr ocLbr dcLbr pmLbr ctLbr cdLbr kVLbr ocLco dcLco pmLco ctLco cdLco kVLco ocLfi dcLfi pmLfi ctLfi cdLfi kVLfi ocLto dcLto pmLto ctLto cdLto kVLto ocLwa dcLwa pmLwa ctLwa cdLwa kVLwa ocLtr dcLtr pmLtr ctLtr cdLtr kVLtr ocLa dcLa pmLa ctLa cdLa kVLa ocBi dcBi pmBi ctBi cdBi kVBi ocBd dcBd pmBd ctBd cdBd kVBd ocBn dcBn pmBn ctBn cdBn kVBn ocBsg dcBsg pmBsg ctBsg cdBsg kVBsg ocBst dcBst pmBst ctBst cdBst kVBst ocBie dcBie pmBie ctBie cdBie kVBie ocIRe dcIRe pmIRe ctIRe cdIRe kVIRe : Value} {t_LONGEST_NAME t_MOST_COURSES t_MOST_STAGES t_MOST_STAGES_TOGETHER t_MOST_DEEDS : Tok}
    (nIi : PySem.W.nsIn K mainGlobals "is_integer" = some (some (.ref fIi)))
    (lIi : K.lookup fIi = some ⟨ocIi, odIi, .func (PySem.W.fnOf "is_integer" "is_integer" (defArgs sIsInt) (defBody sIsInt) (defScope sIsInt) .none kVIi dcIi pmIi anIi cdIi ctIi), slIi⟩)
    (cIi : PySem.W.codeIn K cdIi "is_integer" = true) (kIi : PySem.W.keepIn K (.ref fIi) = true)
    (nIn : PySem.W.nsIn K mainGlobals "is_number" = some (some (.ref fIn)))
    (lIn : K.lookup fIn = some ⟨ocIn, odIn, .func (PySem.W.fnOf "is_number" "is_number" (defArgs sIsNum) (defBody sIsNum) (defScope sIsNum) .none kVIn dcIn pmIn anIn cdIn ctIn), slIn⟩)
    (cIn : PySem.W.codeIn K cdIn "is_number" = true) (kIn : PySem.W.keepIn K (.ref fIn) = true)
    (nNt : PySem.W.nsIn K mainGlobals "is_number_to" = some (some (.ref fNt)))
    (lNt : K.lookup fNt = some ⟨ocNt, odNt, .func (PySem.W.fnOf "is_number_to" "is_number_to" (defArgs sIsNumTo) (defBody sIsNumTo) (defScope sIsNumTo) .none kVNt dcNt pmNt anNt cdNt ctNt), slNt⟩)
    (cNt : PySem.W.codeIn K cdNt "is_number_to" = true) (kNt : PySem.W.keepIn K (.ref fNt) = true)
    (nNm : PySem.W.nsIn K mainGlobals "is_name" = some (some (.ref fNm)))
    (lNm : K.lookup fNm = some ⟨ocNm, odNm, .func (PySem.W.fnOf "is_name" "is_name" (defArgs sName) (defBody sName) (defScope sName) .none kVNm dcNm pmNm anNm cdNm ctNm), slNm⟩)
    (cNm : PySem.W.codeIn K cdNm "is_name" = true) (kNm : PySem.W.keepIn K (.ref fNm) = true)
    (nLt : PySem.W.nsIn K mainGlobals "is_letter" = some (some (.ref fLt)))
    (lLt : K.lookup fLt = some ⟨ocLt, odLt, .func (PySem.W.fnOf "is_letter" "is_letter" (defArgs sLetter) (defBody sLetter) (defScope sLetter) .none kVLt dcLt pmLt anLt cdLt ctLt), slLt⟩)
    (cLt : PySem.W.codeIn K cdLt "is_letter" = true) (kLt : PySem.W.keepIn K (.ref fLt) = true)
    (nIl : PySem.W.nsIn K mainGlobals "is_lot" = some (some (.ref fIl)))
    (lIl : K.lookup fIl = some ⟨ocIl, odIl, .func (PySem.W.fnOf "is_lot" "is_lot" (defArgs sIsLot) (defBody sIsLot) (defScope sIsLot) .none kVIl dcIl pmIl anIl cdIl ctIl), slIl⟩)
    (cIl : PySem.W.codeIn K cdIl "is_lot" = true) (kIl : PySem.W.keepIn K (.ref fIl) = true)
    (nAs : PySem.W.nsIn K mainGlobals "ascending" = some (some (.ref fAs)))
    (lAs : K.lookup fAs = some ⟨ocAs, odAs, .func (PySem.W.fnOf "ascending" "ascending" (defArgs sAscending) (defBody sAscending) (defScope sAscending) .none kVAs dcAs pmAs anAs cdAs ctAs), slAs⟩)
    (cAs : PySem.W.codeIn K cdAs "ascending" = true) (kAs : PySem.W.keepIn K (.ref fAs) = true)
    (nCe : PySem.W.nsIn K mainGlobals "check_each" = some (some (.ref fCe)))
    (lCe : K.lookup fCe = some ⟨ocCe, odCe, .func (PySem.W.fnOf "check_each" "check_each" (defArgs sChEach) (defBody sChEach) (defScope sChEach) .none kVCe dcCe pmCe anCe cdCe ctCe), slCe⟩)
    (cCe : PySem.W.codeIn K cdCe "check_each" = true) (kCe : PySem.W.keepIn K (.ref fCe) = true)
    (nCt : PySem.W.nsIn K mainGlobals "check_together" = some (some (.ref fCt)))
    (lCt : K.lookup fCt = some ⟨ocCt, odCt, .func (PySem.W.fnOf "check_together" "check_together" (defArgs sChTog) (defBody sChTog) (defScope sChTog) .none kVCt dcCt pmCt anCt cdCt ctCt), slCt⟩)
    (cCt : PySem.W.codeIn K cdCt "check_together" = true) (kCt : PySem.W.keepIn K (.ref fCt) = true)
    (nIc : PySem.W.nsIn K mainGlobals "is_course" = some (some (.ref fIc)))
    (lIc : K.lookup fIc = some ⟨ocIc, odIc, .func (PySem.W.fnOf "is_course" "is_course" (defArgs sIsCourse) (defBody sIsCourse) (defScope sIsCourse) .none kVIc dcIc pmIc anIc cdIc ctIc), slIc⟩)
    (cIc : PySem.W.codeIn K cdIc "is_course" = true) (kIc : PySem.W.keepIn K (.ref fIc) = true)
    (nAe : PySem.W.nsIn K mainGlobals "are_ends" = some (some (.ref fAe)))
    (lAe : K.lookup fAe = some ⟨ocAe, odAe, .func (PySem.W.fnOf "are_ends" "are_ends" (defArgs sAreEnds) (defBody sAreEnds) (defScope sAreEnds) .none kVAe dcAe pmAe anAe cdAe ctAe), slAe⟩)
    (cAe : PySem.W.codeIn K cdAe "are_ends" = true) (kAe : PySem.W.keepIn K (.ref fAe) = true)
    (nAt : PySem.W.nsIn K mainGlobals "are_steps" = some (some (.ref fAt)))
    (lAt : K.lookup fAt = some ⟨ocAt, odAt, .func (PySem.W.fnOf "are_steps" "are_steps" (defArgs sAreSteps) (defBody sAreSteps) (defScope sAreSteps) .none kVAt dcAt pmAt anAt cdAt ctAt), slAt⟩)
    (cAt : PySem.W.codeIn K cdAt "are_steps" = true) (kAt : PySem.W.keepIn K (.ref fAt) = true)
    (nIs : PySem.W.nsIn K mainGlobals "is_step" = some (some (.ref fIs)))
    (lIs : K.lookup fIs = some ⟨ocIs, odIs, .func (PySem.W.fnOf "is_step" "is_step" (defArgs sIsStep) (defBody sIsStep) (defScope sIsStep) .none kVIs dcIs pmIs anIs cdIs ctIs), slIs⟩)
    (cIs : PySem.W.codeIn K cdIs "is_step" = true) (kIs : PySem.W.keepIn K (.ref fIs) = true)
    (nDi : PySem.W.nsIn K mainGlobals "deeds_in" = some (some (.ref fDi)))
    (lDi : K.lookup fDi = some ⟨ocDi, odDi, .func (PySem.W.fnOf "deeds_in" "deeds_in" (defArgs sDeedsIn) (defBody sDeedsIn) (defScope sDeedsIn) .none kVDi dcDi pmDi anDi cdDi ctDi), slDi⟩)
    (cDi : PySem.W.codeIn K cdDi "deeds_in" = true) (kDi : PySem.W.keepIn K (.ref fDi) = true)
    (nLe : PySem.W.nsIn K mainGlobals "leaving_of" = some (some (.ref fLe)))
    (lLe : K.lookup fLe = some ⟨ocLe, odLe, .func (PySem.W.fnOf "leaving_of" "leaving_of" (defArgs sLeaving) (defBody sLeaving) (defScope sLeaving) .none kVLe dcLe pmLe anLe cdLe ctLe), slLe⟩)
    (cLe : PySem.W.codeIn K cdLe "leaving_of" = true) (kLe : PySem.W.keepIn K (.ref fLe) = true)
    (nLb : PySem.W.nsIn K mainGlobals "length_bound" = some (some (.ref fLb)))
    (lLb : K.lookup fLb = some ⟨ocLb, odLb, .func (PySem.W.fnOf "length_bound" "length_bound" (defArgs sLengthBound) (defBody sLengthBound) (defScope sLengthBound) .none kVLb dcLb pmLb anLb cdLb ctLb), slLb⟩)
    (cLb : PySem.W.codeIn K cdLb "length_bound" = true) (kLb : PySem.W.keepIn K (.ref fLb) = true)
    (nTa : PySem.W.nsIn K mainGlobals "tallest" = some (some (.ref fTa)))
    (lTa : K.lookup fTa = some ⟨ocTa, odTa, .func (PySem.W.fnOf "tallest" "tallest" (defArgs sTallest) (defBody sTallest) (defScope sTallest) .none kVTa dcTa pmTa anTa cdTa ctTa), slTa⟩)
    (cTa : PySem.W.codeIn K cdTa "tallest" = true) (kTa : PySem.W.keepIn K (.ref fTa) = true)
    (nLn : PySem.W.nsIn K mainGlobals "line" = some (some (.ref fLn)))
    (lLn : K.lookup fLn = some ⟨ocLn, odLn, .func (PySem.W.fnOf "line" "line" (defArgs sLine) (defBody sLine) (defScope sLine) .none kVLn dcLn pmLn anLn cdLn ctLn), slLn⟩)
    (cLn : PySem.W.codeIn K cdLn "line" = true) (kLn : PySem.W.keepIn K (.ref fLn) = true)
    (nPf : PySem.W.nsIn K mainGlobals "parts_of" = some (some (.ref fPf)))
    (lPf : K.lookup fPf = some ⟨ocPf, odPf, .func (PySem.W.fnOf "parts_of" "parts_of" (defArgs sPartsOf) (defBody sPartsOf) (defScope sPartsOf) .none kVPf dcPf pmPf anPf cdPf ctPf), slPf⟩)
    (cPf : PySem.W.codeIn K cdPf "parts_of" = true) (kPf : PySem.W.keepIn K (.ref fPf) = true)
    (nSo : PySem.W.nsIn K mainGlobals "steps_into" = some (some (.ref fSo)))
    (lSo : K.lookup fSo = some ⟨ocSo, odSo, .func (PySem.W.fnOf "steps_into" "steps_into" (defArgs sStepsInto) (defBody sStepsInto) (defScope sStepsInto) .none kVSo dcSo pmSo anSo cdSo ctSo), slSo⟩)
    (cSo : PySem.W.codeIn K cdSo "steps_into" = true) (kSo : PySem.W.keepIn K (.ref fSo) = true)
    (nAi : PySem.W.nsIn K mainGlobals "all_in" = some (some (.ref fAi)))
    (lAi : K.lookup fAi = some ⟨ocAi, odAi, .func (PySem.W.fnOf "all_in" "all_in" (defArgs sAllIn) (defBody sAllIn) (defScope sAllIn) .none kVAi dcAi pmAi anAi cdAi ctAi), slAi⟩)
    (cAi : PySem.W.codeIn K cdAi "all_in" = true) (kAi : PySem.W.keepIn K (.ref fAi) = true)
    (nSe : PySem.W.nsIn K mainGlobals "settled" = some (some (.ref fSe)))
    (lSe : K.lookup fSe = some ⟨ocSe, odSe, .func (PySem.W.fnOf "settled" "settled" (defArgs sSettled) (defBody sSettled) (defScope sSettled) .none kVSe dcSe pmSe anSe cdSe ctSe), slSe⟩)
    (cSe : PySem.W.codeIn K cdSe "settled" = true) (kSe : PySem.W.keepIn K (.ref fSe) = true)
    (nWp : PySem.W.nsIn K mainGlobals "with_parts" = some (some (.ref fWp)))
    (lWp : K.lookup fWp = some ⟨ocWp, odWp, .func (PySem.W.fnOf "with_parts" "with_parts" (defArgs sWithParts) (defBody sWithParts) (defScope sWithParts) .none kVWp dcWp pmWp anWp cdWp ctWp), slWp⟩)
    (cWp : PySem.W.codeIn K cdWp "with_parts" = true) (kWp : PySem.W.keepIn K (.ref fWp) = true)
    (nWc : PySem.W.nsIn K mainGlobals "way_costs" = some (some (.ref fWc)))
    (lWc : K.lookup fWc = some ⟨ocWc, odWc, .func (PySem.W.fnOf "way_costs" "way_costs" (defArgs sWayCosts) (defBody sWayCosts) (defScope sWayCosts) .none kVWc dcWc pmWc anWc cdWc ctWc), slWc⟩)
    (cWc : PySem.W.codeIn K cdWc "way_costs" = true) (kWc : PySem.W.keepIn K (.ref fWc) = true)
    (nLw : PySem.W.nsIn K mainGlobals "least_weights" = some (some (.ref fLw)))
    (lLw : K.lookup fLw = some ⟨ocLw, odLw, .func (PySem.W.fnOf "least_weights" "least_weights" (defArgs sLeastWeights) (defBody sLeastWeights) (defScope sLeastWeights) .none kVLw dcLw pmLw anLw cdLw ctLw), slLw⟩)
    (cLw : PySem.W.codeIn K cdLw "least_weights" = true) (kLw : PySem.W.keepIn K (.ref fLw) = true)
    (nPn : PySem.W.nsIn K mainGlobals "plain" = some (some (.ref fPn)))
    (lPn : K.lookup fPn = some ⟨ocPn, odPn, .func (PySem.W.fnOf "plain" "plain" (defArgs sPlain) (defBody sPlain) (defScope sPlain) .none kVPn dcPn pmPn anPn cdPn ctPn), slPn⟩)
    (cPn : PySem.W.codeIn K cdPn "plain" = true) (kPn : PySem.W.keepIn K (.ref fPn) = true)
    (nLs : PySem.W.nsIn K mainGlobals "lengths" = some (some (.ref fLs)))
    (lLs : K.lookup fLs = some ⟨ocLs, odLs, .func (PySem.W.fnOf "lengths" "lengths" (defArgs sLengths) (defBody sLengths) (defScope sLengths) .none kVLs dcLs pmLs anLs cdLs ctLs), slLs⟩)
    (cLs : PySem.W.codeIn K cdLs "lengths" = true) (kLs : PySem.W.keepIn K (.ref fLs) = true)
    (nRl : PySem.W.nsIn K mainGlobals "row_lengths" = some (some (.ref fRl)))
    (lRl : K.lookup fRl = some ⟨ocRl, odRl, .func (PySem.W.fnOf "row_lengths" "row_lengths" (defArgs sRowLengths) (defBody sRowLengths) (defScope sRowLengths) .none kVRl dcRl pmRl anRl cdRl ctRl), slRl⟩)
    (cRl : PySem.W.codeIn K cdRl "row_lengths" = true) (kRl : PySem.W.keepIn K (.ref fRl) = true)
    (nBx : PySem.W.nsIn K mainGlobals "_law_box" = some (some (.ref fBx)))
    (lBx : K.lookup fBx = some ⟨ocBx, odBx, .func (PySem.W.fnOf "_law_box" "_law_box" (defArgs sBox) (defBody sBox) (defScope sBox) .none kVBx dcBx pmBx anBx cdBx ctBx), slBx⟩)
    (cBx : PySem.W.codeIn K cdBx "_law_box" = true) (kBx : PySem.W.keepIn K (.ref fBx) = true)
    (nTk : PySem.W.nsIn K mainGlobals "_law_take" = some (some (.ref fTk)))
    (lTk : K.lookup fTk = some ⟨ocTk, odTk, .func (PySem.W.fnOf "_law_take" "_law_take" (defArgs sTake) (defBody sTake) (defScope sTake) .none kVTk dcTk pmTk anTk cdTk ctTk), slTk⟩)
    (cTk : PySem.W.codeIn K cdTk "_law_take" = true) (kTk : PySem.W.keepIn K (.ref fTk) = true)
    (nPk : PySem.W.nsIn K mainGlobals "_law_pick" = some (some (.ref fPk)))
    (lPk : K.lookup fPk = some ⟨ocPk, odPk, .func (PySem.W.fnOf "_law_pick" "_law_pick" (defArgs sPick) (defBody sPick) (defScope sPick) .none kVPk dcPk pmPk anPk cdPk ctPk), slPk⟩)
    (cPk : PySem.W.codeIn K cdPk "_law_pick" = true) (kPk : PySem.W.keepIn K (.ref fPk) = true)
    (nLx : PySem.W.nsIn K mainGlobals "_law_mixed" = some (some (.ref fLx)))
    (lLx : K.lookup fLx = some ⟨ocLx, odLx, .func (PySem.W.fnOf "_law_mixed" "_law_mixed" (defArgs sLawMixed) (defBody sLawMixed) (defScope sLawMixed) .none kVLx dcLx pmLx anLx cdLx ctLx), slLx⟩)
    (cLx : PySem.W.codeIn K cdLx "_law_mixed" = true) (kLx : PySem.W.keepIn K (.ref fLx) = true)
    (nLst : PySem.W.nsIn K mainGlobals "_law_step" = some (some (.ref fLst)))
    (lLst : K.lookup fLst = some ⟨ocLst, odLst, .func (PySem.W.fnOf "_law_step" "_law_step" (defArgs sLawStep) (defBody sLawStep) (defScope sLawStep) .none kVLst dcLst pmLst anLst cdLst ctLst), slLst⟩)
    (cLst : PySem.W.codeIn K cdLst "_law_step" = true) (kLst : PySem.W.keepIn K (.ref fLst) = true)
    (nLc : PySem.W.nsIn K mainGlobals "_law_course" = some (some (.ref fLc)))
    (lLc : K.lookup fLc = some ⟨ocLc, odLc, .func (PySem.W.fnOf "_law_course" "_law_course" (defArgs sLawCourse) (defBody sLawCourse) (defScope sLawCourse) .none kVLc dcLc pmLc anLc cdLc ctLc), slLc⟩)
    (cLc : PySem.W.codeIn K cdLc "_law_course" = true) (kLc : PySem.W.keepIn K (.ref fLc) = true)
    (nLcs : PySem.W.nsIn K mainGlobals "_law_courses" = some (some (.ref fLcs)))
    (lLcs : K.lookup fLcs = some ⟨ocLcs, odLcs, .func (PySem.W.fnOf "_law_courses" "_law_courses" (defArgs sLawCourses) (defBody sLawCourses) (defScope sLawCourses) .none kVLcs dcLcs pmLcs anLcs cdLcs ctLcs), slLcs⟩)
    (cLcs : PySem.W.codeIn K cdLcs "_law_courses" = true) (kLcs : PySem.W.keepIn K (.ref fLcs) = true)
    (nLle : PySem.W.nsIn K mainGlobals "_law_leaving" = some (some (.ref fLle)))
    (lLle : K.lookup fLle = some ⟨ocLle, odLle, .func (PySem.W.fnOf "_law_leaving" "_law_leaving" (defArgs sLawLeaving) (defBody sLawLeaving) (defScope sLawLeaving) .none kVLle dcLle pmLle anLle cdLle ctLle), slLle⟩)
    (cLle : PySem.W.codeIn K cdLle "_law_leaving" = true) (kLle : PySem.W.keepIn K (.ref fLle) = true)
    (nLen : PySem.W.nsIn K mainGlobals "_law_ends" = some (some (.ref fLen)))
    (lLen : K.lookup fLen = some ⟨ocLen, odLen, .func (PySem.W.fnOf "_law_ends" "_law_ends" (defArgs sLawEnds) (defBody sLawEnds) (defScope sLawEnds) .none kVLen dcLen pmLen anLen cdLen ctLen), slLen⟩)
    (cLen : PySem.W.codeIn K cdLen "_law_ends" = true) (kLen : PySem.W.keepIn K (.ref fLen) = true)
    (nLpr : PySem.W.nsIn K mainGlobals "_law_product" = some (some (.ref fLpr)))
    (lLpr : K.lookup fLpr = some ⟨ocLpr, odLpr, .func (PySem.W.fnOf "_law_product" "_law_product" (defArgs sLawProduct) (defBody sLawProduct) (defScope sLawProduct) .none kVLpr dcLpr pmLpr anLpr cdLpr ctLpr), slLpr⟩)
    (cLpr : PySem.W.codeIn K cdLpr "_law_product" = true) (kLpr : PySem.W.keepIn K (.ref fLpr) = true)
    (nLbr : PySem.W.nsIn K mainGlobals "_law_book_right" = some (some (.ref fLbr)))
    (lLbr : K.lookup fLbr = some ⟨ocLbr, odLbr, .func (PySem.W.fnOf "_law_book_right" "_law_book_right" (defArgs sLawBookRight) (defBody sLawBookRight) (defScope sLawBookRight) .none kVLbr dcLbr pmLbr anLbr cdLbr ctLbr), slLbr⟩)
    (cLbr : PySem.W.codeIn K cdLbr "_law_book_right" = true) (kLbr : PySem.W.keepIn K (.ref fLbr) = true)
    (nLco : PySem.W.nsIn K mainGlobals "_law_counts" = some (some (.ref fLco)))
    (lLco : K.lookup fLco = some ⟨ocLco, odLco, .func (PySem.W.fnOf "_law_counts" "_law_counts" (defArgs sLawCounts) (defBody sLawCounts) (defScope sLawCounts) .none kVLco dcLco pmLco anLco cdLco ctLco), slLco⟩)
    (cLco : PySem.W.codeIn K cdLco "_law_counts" = true) (kLco : PySem.W.keepIn K (.ref fLco) = true)
    (nLfi : PySem.W.nsIn K mainGlobals "_law_fit" = some (some (.ref fLfi)))
    (lLfi : K.lookup fLfi = some ⟨ocLfi, odLfi, .func (PySem.W.fnOf "_law_fit" "_law_fit" (defArgs sLawFit) (defBody sLawFit) (defScope sLawFit) .none kVLfi dcLfi pmLfi anLfi cdLfi ctLfi), slLfi⟩)
    (cLfi : PySem.W.codeIn K cdLfi "_law_fit" = true) (kLfi : PySem.W.keepIn K (.ref fLfi) = true)
    (nLto : PySem.W.nsIn K mainGlobals "_law_told" = some (some (.ref fLto)))
    (lLto : K.lookup fLto = some ⟨ocLto, odLto, .func (PySem.W.fnOf "_law_told" "_law_told" (defArgs sLawTold) (defBody sLawTold) (defScope sLawTold) .none kVLto dcLto pmLto anLto cdLto ctLto), slLto⟩)
    (cLto : PySem.W.codeIn K cdLto "_law_told" = true) (kLto : PySem.W.keepIn K (.ref fLto) = true)
    (nLwa : PySem.W.nsIn K mainGlobals "_law_walked" = some (some (.ref fLwa)))
    (lLwa : K.lookup fLwa = some ⟨ocLwa, odLwa, .func (PySem.W.fnOf "_law_walked" "_law_walked" (defArgs sLawWalked) (defBody sLawWalked) (defScope sLawWalked) .none kVLwa dcLwa pmLwa anLwa cdLwa ctLwa), slLwa⟩)
    (cLwa : PySem.W.codeIn K cdLwa "_law_walked" = true) (kLwa : PySem.W.keepIn K (.ref fLwa) = true)
    (nLtr : PySem.W.nsIn K mainGlobals "_law_tallest_right" = some (some (.ref fLtr)))
    (lLtr : K.lookup fLtr = some ⟨ocLtr, odLtr, .func (PySem.W.fnOf "_law_tallest_right" "_law_tallest_right" (defArgs sLawTallestRight) (defBody sLawTallestRight) (defScope sLawTallestRight) .none kVLtr dcLtr pmLtr anLtr cdLtr ctLtr), slLtr⟩)
    (cLtr : PySem.W.codeIn K cdLtr "_law_tallest_right" = true) (kLtr : PySem.W.keepIn K (.ref fLtr) = true)
    (nLa : PySem.W.nsIn K mainGlobals "law" = some (some (.ref fLa)))
    (lLa : K.lookup fLa = some ⟨ocLa, odLa, .func (PySem.W.fnOf "law" "law" (defArgs sLaw) (defBody sLaw) (defScope sLaw) .none kVLa dcLa pmLa anLa cdLa ctLa), slLa⟩)
    (cLa : PySem.W.codeIn K cdLa "law" = true) (kLa : PySem.W.keepIn K (.ref fLa) = true)
    (aCB : PySem.W.nsIn K mainGlobals "Book" = some (some (.ref CB))) (pgB : PySem.W.plainGet K CB Str.empty = true) (hdB : PySem.W.hasDictIn K CB = true) (poB : PySem.W.plainOver K CB = true) (saB : PySem.W.findIn K (.ref CB) "__setattr__" = some (some (.builtin "object.__setattr__"))) (mkB : PySem.W.makesIn K CB = true) (kcB : PySem.W.keepIn K (.ref CB) = true)
    (aBi : PySem.W.findIn K (.ref CB) "__init__" = some (some (.ref fBi))) (iBi : PySem.W.isFn K (.ref fBi) = true)
    (lBi : K.lookup fBi = some ⟨ocBi, odBi, .func (PySem.W.fnOf "__init__" "Book.__init__" (defArgs sBkInit) (defBody sBkInit) (defScope sBkInit) .none kVBi dcBi pmBi anBi cdBi ctBi), slBi⟩)
    (cBi : PySem.W.codeIn K cdBi "Book.__init__" = true) (kBi : PySem.W.keepIn K (.ref fBi) = true)
    (aBd : PySem.W.findIn K (.ref CB) "deeds" = some (some (.ref fBd))) (iBd : PySem.W.isFn K (.ref fBd) = true)
    (lBd : K.lookup fBd = some ⟨ocBd, odBd, .func (PySem.W.fnOf "deeds" "Book.deeds" (defArgs sBkDeeds) (defBody sBkDeeds) (defScope sBkDeeds) .none kVBd dcBd pmBd anBd cdBd ctBd), slBd⟩)
    (cBd : PySem.W.codeIn K cdBd "Book.deeds" = true) (kBd : PySem.W.keepIn K (.ref fBd) = true)
    (aBn : PySem.W.findIn K (.ref CB) "names" = some (some (.ref fBn))) (iBn : PySem.W.isFn K (.ref fBn) = true)
    (lBn : K.lookup fBn = some ⟨ocBn, odBn, .func (PySem.W.fnOf "names" "Book.names" (defArgs sBkNames) (defBody sBkNames) (defScope sBkNames) .none kVBn dcBn pmBn anBn cdBn ctBn), slBn⟩)
    (cBn : PySem.W.codeIn K cdBn "Book.names" = true) (kBn : PySem.W.keepIn K (.ref fBn) = true)
    (aBsg : PySem.W.findIn K (.ref CB) "stages" = some (some (.ref fBsg))) (iBsg : PySem.W.isFn K (.ref fBsg) = true)
    (lBsg : K.lookup fBsg = some ⟨ocBsg, odBsg, .func (PySem.W.fnOf "stages" "Book.stages" (defArgs sBkStages) (defBody sBkStages) (defScope sBkStages) .none kVBsg dcBsg pmBsg anBsg cdBsg ctBsg), slBsg⟩)
    (cBsg : PySem.W.codeIn K cdBsg "Book.stages" = true) (kBsg : PySem.W.keepIn K (.ref fBsg) = true)
    (aBst : PySem.W.findIn K (.ref CB) "steps" = some (some (.ref fBst))) (iBst : PySem.W.isFn K (.ref fBst) = true)
    (lBst : K.lookup fBst = some ⟨ocBst, odBst, .func (PySem.W.fnOf "steps" "Book.steps" (defArgs sBkSteps) (defBody sBkSteps) (defScope sBkSteps) .none kVBst dcBst pmBst anBst cdBst ctBst), slBst⟩)
    (cBst : PySem.W.codeIn K cdBst "Book.steps" = true) (kBst : PySem.W.keepIn K (.ref fBst) = true)
    (aBie : PySem.W.findIn K (.ref CB) "is_end" = some (some (.ref fBie))) (iBie : PySem.W.isFn K (.ref fBie) = true)
    (lBie : K.lookup fBie = some ⟨ocBie, odBie, .func (PySem.W.fnOf "is_end" "Book.is_end" (defArgs sBkIsEnd) (defBody sBkIsEnd) (defScope sBkIsEnd) .none kVBie dcBie pmBie anBie cdBie ctBie), slBie⟩)
    (cBie : PySem.W.codeIn K cdBie "Book.is_end" = true) (kBie : PySem.W.keepIn K (.ref fBie) = true)
    (naB0 : PySem.W.findIn K (.ref CB) "courses" = some none)
    (naB1 : PySem.W.findIn K (.ref CB) "_places" = some none)
    (naB2 : PySem.W.findIn K (.ref CB) "_stages" = some none)
    (naB3 : PySem.W.findIn K (.ref CB) "_ends" = some none)
    (naB4 : PySem.W.findIn K (.ref CB) "_leaving" = some none)
    {nmRe qRe : Str} {NnRe : Addr} {bsRe bmRe : List Value} {snRe : List Str} {subRe : List Value} {abRe : Bool} {colRe : Option Bool} {ddRe : Option Addr} {m0Re m1Re m2Re m3Re m5Re : Option Value}
    (aCRe : PySem.W.nsIn K mainGlobals "Refused" = some (some (.ref CRe)))
    (xLRe : K.lookup CRe = some (excClassObj nmRe qRe CRe NnRe bsRe bmRe true snRe subRe abRe colRe ddRe m0Re m1Re m2Re m3Re m5Re "ValueError.__new__")) (hbRe : PySem.HandSPX.refsVE bmRe = true)
    (saRe : PySem.W.findIn K (.ref CRe) "__setattr__" = some (some (.builtin "object.__setattr__"))) (gaRe : PySem.W.findIn K (.ref CRe) "__getattribute__" = some (some (.builtin "BaseException.__getattribute__"))) (ggRe : PySem.W.findIn K (.ref CRe) "__getattr__" = some none) (noRe : PySem.W.findIn K (.ref CRe) "word" = some none)
    (aIRe : PySem.W.findIn K (.ref CRe) "__init__" = some (some (.ref fIRe))) (tIRe : PySem.W.typeIn K (.ref fIRe) = some (.type "function"))
    (lIRe : K.lookup fIRe = some ⟨ocIRe, odIRe, .func (PySem.W.fnOf "__init__" "Refused.__init__" (defArgs sRefusedInit) (defBody sRefusedInit) (defScope sRefusedInit) .none kVIRe dcIRe pmIRe anIRe cdIRe ctIRe), slIRe⟩)
    (cIRe : PySem.W.codeIn K cdIRe "Refused.__init__" = true) (kIRe : PySem.W.keepIn K (.ref fIRe) = true)
    (kXRe : PySem.W.keepIn K (.ref CRe) = true) (eXRe : PySem.W.subIn K (.ref CRe) (.type "BaseException") = some true) (tXRe : PySem.W.typeIn K (.ref CRe) = some (.type "type")) (hXRe : PySem.W.hasDictIn K CRe = true) (iXRe : PySem.W.isClsIn K CRe = true) (sXRe : PySem.W.subIn K (.ref CRe) (.ref CRe) = some true)
    (xcRe : PySem.W.findIn K (.ref CRe) "__class__" = some (some (.builtin "object.__class__"))) (xmRe : PySem.W.mroIn K CRe (.type "object") = some true)
    (xn : PySem.W.specialIn K (.builtin "object.__class__") "__get__" = some (some (.builtin "getset_descriptor.__get__"))) (xt : PySem.W.takesIn K (.builtin "object.__class__") = some true)
    (v_LONGEST_NAME : PySem.W.nsIn K mainGlobals "LONGEST_NAME" = some (some (.int 5 t_LONGEST_NAME)))
    (v_MOST_COURSES : PySem.W.nsIn K mainGlobals "MOST_COURSES" = some (some (.int 8 t_MOST_COURSES)))
    (v_MOST_STAGES : PySem.W.nsIn K mainGlobals "MOST_STAGES" = some (some (.int 20 t_MOST_STAGES)))
    (v_MOST_STAGES_TOGETHER : PySem.W.nsIn K mainGlobals "MOST_STAGES_TOGETHER" = some (some (.int 60 t_MOST_STAGES_TOGETHER)))
    (v_MOST_DEEDS : PySem.W.nsIn K mainGlobals "MOST_DEEDS" = some (some (.int 12 t_MOST_DEEDS)))
    (xhp : PySem.W.nsIn K mainGlobals "heappush" = some (some (.builtin "_heapq.heappush")))
    (xho : PySem.W.nsIn K mainGlobals "heappop" = some (some (.builtin "_heapq.heappop")))
    (xF : PySem.W.nsIn K mainGlobals "FREE" = some (some (.ref aF)))
    (lkF : K.lookup aF = some ⟨.type "tuple", ddF, .seq #[.int 0 tF0, .int 0 tF1] nF, slF⟩)
    (xS : PySem.W.nsIn K mainGlobals "ONE_STEP" = some (some (.ref aS)))
    (lkS : K.lookup aS = some ⟨.type "tuple", ddS, .seq #[.int 0 tS0, .int 1 tS1] nS, slS⟩)
    (xN : PySem.W.nsIn K mainGlobals "NAMES" = some (some (.ref aN)))
    (lkN : K.lookup aN = some ⟨.type "tuple", ddN, .seq #[.str "a" tN0, .str "b" tN1, .str "c" tN2, .str "d" tN3, .str "e" tN4, .str "f" tN5, .str "g" tN6, .str "h" tN7] nN, slN⟩)
    (bca : PySem.W.findIn K (.ref CB) "__class__" = some (some (.builtin "object.__class__")))
    (bcm : PySem.W.mroIn K CB (.type "object") = some true)
    (bck : PySem.W.kitOne K (.ref CB) (.ref CB) = some true)
    (z_len : PySem.W.nsIn K mainGlobals "len" = some none) (z_range : PySem.W.nsIn K mainGlobals "range" = some none) (z_iter : PySem.W.nsIn K mainGlobals "iter" = some none) (z_enumerate : PySem.W.nsIn K mainGlobals "enumerate" = some none) (z_reversed : PySem.W.nsIn K mainGlobals "reversed" = some none) (z_tuple : PySem.W.nsIn K mainGlobals "tuple" = some none) (z_list : PySem.W.nsIn K mainGlobals "list" = some none) (z_sorted : PySem.W.nsIn K mainGlobals "sorted" = some none) (z_any : PySem.W.nsIn K mainGlobals "any" = some none) (z_all : PySem.W.nsIn K mainGlobals "all" = some none) (z_int : PySem.W.nsIn K mainGlobals "int" = some none) (z_str : PySem.W.nsIn K mainGlobals "str" = some none) (z_bool : PySem.W.nsIn K mainGlobals "bool" = some none) (z_abs : PySem.W.nsIn K mainGlobals "abs" = some none) (z_min : PySem.W.nsIn K mainGlobals "min" = some none) (z_max : PySem.W.nsIn K mainGlobals "max" = some none) (z_sum : PySem.W.nsIn K mainGlobals "sum" = some none) (z_isinstance : PySem.W.nsIn K mainGlobals "isinstance" = some none) (z_ValueError : PySem.W.nsIn K mainGlobals "ValueError" = some none) :
    LamX.LawAtS l w K CX0 13 63 "script" mg fa h := by
  have e := hfa.symm.trans (PySem.W.mg_of X G nLa)
  cases e
  have m_len := PySem.W.mg_none_of X G z_len
  have m_range := PySem.W.mg_none_of X G z_range
  have m_iter := PySem.W.mg_none_of X G z_iter
  have m_enumerate := PySem.W.mg_none_of X G z_enumerate
  have m_reversed := PySem.W.mg_none_of X G z_reversed
  have m_tuple := PySem.W.mg_none_of X G z_tuple
  have m_list := PySem.W.mg_none_of X G z_list
  have m_sorted := PySem.W.mg_none_of X G z_sorted
  have m_any := PySem.W.mg_none_of X G z_any
  have m_all := PySem.W.mg_none_of X G z_all
  have m_int := PySem.W.mg_none_of X G z_int
  have m_str := PySem.W.mg_none_of X G z_str
  have m_bool := PySem.W.mg_none_of X G z_bool
  have m_abs := PySem.W.mg_none_of X G z_abs
  have m_min := PySem.W.mg_none_of X G z_min
  have m_max := PySem.W.mg_none_of X G z_max
  have m_sum := PySem.W.mg_none_of X G z_sum
  have m_isinstance := PySem.W.mg_none_of X G z_isinstance
  have m_ValueError := PySem.W.mg_none_of X G z_ValueError
  have N : Nones mg := ⟨m_len, m_range, m_iter, m_enumerate, m_reversed, m_tuple, m_list, m_sorted, m_any, m_all, m_int, m_str, m_bool, m_abs, m_min, m_max, m_sum, m_isinstance, m_ValueError⟩
  have FIi := fun_mk (st := sIsInt) lIi cIi kIi
  have bIi := FIi.binds (ps := ["value"]) fun _ _ _ _ _ _ us hl => match us, hl with | [_], _ => rfl
  have gIi := PySem.W.mg_of X G nIi
  have CIi : CallC K mg "is_integer" ["value"] fIi _ := ⟨gIi, kIi, bIi⟩
  have FIn := fun_mk (st := sIsNum) lIn cIn kIn
  have bIn := FIn.binds (ps := ["value"]) fun _ _ _ _ _ _ us hl => match us, hl with | [_], _ => rfl
  have gIn := PySem.W.mg_of X G nIn
  have CIn : CallC K mg "is_number" ["value"] fIn _ := ⟨gIn, kIn, bIn⟩
  have FNt := fun_mk (st := sIsNumTo) lNt cNt kNt
  have bNt := FNt.binds (ps := ["value", "most"]) fun _ _ _ _ _ _ us hl => match us, hl with | [_, _], _ => rfl
  have gNt := PySem.W.mg_of X G nNt
  have CNt : CallC K mg "is_number_to" ["value", "most"] fNt _ := ⟨gNt, kNt, bNt⟩
  have FNm := fun_mk (st := sName) lNm cNm kNm
  have bNm := FNm.binds (ps := ["value"]) fun _ _ _ _ _ _ us hl => match us, hl with | [_], _ => rfl
  have gNm := PySem.W.mg_of X G nNm
  have CNm : CallC K mg "is_name" ["value"] fNm _ := ⟨gNm, kNm, bNm⟩
  have FLt := fun_mk (st := sLetter) lLt cLt kLt
  have bLt := FLt.binds (ps := ["sign"]) fun _ _ _ _ _ _ us hl => match us, hl with | [_], _ => rfl
  have gLt := PySem.W.mg_of X G nLt
  have CLt : CallC K mg "is_letter" ["sign"] fLt _ := ⟨gLt, kLt, bLt⟩
  have FIl := fun_mk (st := sIsLot) lIl cIl kIl
  have bIl := FIl.binds (ps := ["values"]) fun _ _ _ _ _ _ us hl => match us, hl with | [_], _ => rfl
  have gIl := PySem.W.mg_of X G nIl
  have CIl : CallC K mg "is_lot" ["values"] fIl _ := ⟨gIl, kIl, bIl⟩
  have FAs := fun_mk (st := sAscending) lAs cAs kAs
  have bAs := FAs.binds (ps := ["table"]) fun _ _ _ _ _ _ us hl => match us, hl with | [_], _ => rfl
  have gAs := PySem.W.mg_of X G nAs
  have CAs : CallC K mg "ascending" ["table"] fAs _ := ⟨gAs, kAs, bAs⟩
  have FCe := fun_mk (st := sChEach) lCe cCe kCe
  have bCe := FCe.binds (ps := ["courses"]) fun _ _ _ _ _ _ us hl => match us, hl with | [_], _ => rfl
  have gCe := PySem.W.mg_of X G nCe
  have CCe : CallC K mg "check_each" ["courses"] fCe _ := ⟨gCe, kCe, bCe⟩
  have FCt := fun_mk (st := sChTog) lCt cCt kCt
  have bCt := FCt.binds (ps := ["courses"]) fun _ _ _ _ _ _ us hl => match us, hl with | [_], _ => rfl
  have gCt := PySem.W.mg_of X G nCt
  have CCt : CallC K mg "check_together" ["courses"] fCt _ := ⟨gCt, kCt, bCt⟩
  have FIc := fun_mk (st := sIsCourse) lIc cIc kIc
  have bIc := FIc.binds (ps := ["value"]) fun _ _ _ _ _ _ us hl => match us, hl with | [_], _ => rfl
  have gIc := PySem.W.mg_of X G nIc
  have CIc : CallC K mg "is_course" ["value"] fIc _ := ⟨gIc, kIc, bIc⟩
  have FAe := fun_mk (st := sAreEnds) lAe cAe kAe
  have bAe := FAe.binds (ps := ["ends", "stages"]) fun _ _ _ _ _ _ us hl => match us, hl with | [_, _], _ => rfl
  have gAe := PySem.W.mg_of X G nAe
  have CAe : CallC K mg "are_ends" ["ends", "stages"] fAe _ := ⟨gAe, kAe, bAe⟩
  have FAt := fun_mk (st := sAreSteps) lAt cAt kAt
  have bAt := FAt.binds (ps := ["steps", "stages"]) fun _ _ _ _ _ _ us hl => match us, hl with | [_, _], _ => rfl
  have gAt := PySem.W.mg_of X G nAt
  have CAt : CallC K mg "are_steps" ["steps", "stages"] fAt _ := ⟨gAt, kAt, bAt⟩
  have FIs := fun_mk (st := sIsStep) lIs cIs kIs
  have bIs := FIs.binds (ps := ["value", "stages"]) fun _ _ _ _ _ _ us hl => match us, hl with | [_, _], _ => rfl
  have gIs := PySem.W.mg_of X G nIs
  have CIs : CallC K mg "is_step" ["value", "stages"] fIs _ := ⟨gIs, kIs, bIs⟩
  have FDi := fun_mk (st := sDeedsIn) lDi cDi kDi
  have bDi := FDi.binds (ps := ["courses"]) fun _ _ _ _ _ _ us hl => match us, hl with | [_], _ => rfl
  have gDi := PySem.W.mg_of X G nDi
  have CDi : CallC K mg "deeds_in" ["courses"] fDi _ := ⟨gDi, kDi, bDi⟩
  have FLe := fun_mk (st := sLeaving) lLe cLe kLe
  have bLe := FLe.binds (ps := ["courses"]) fun _ _ _ _ _ _ us hl => match us, hl with | [_], _ => rfl
  have gLe := PySem.W.mg_of X G nLe
  have CLe : CallC K mg "leaving_of" ["courses"] fLe _ := ⟨gLe, kLe, bLe⟩
  have FLb := fun_mk (st := sLengthBound) lLb cLb kLb
  have bLb := FLb.binds (ps := ["book"]) fun _ _ _ _ _ _ us hl => match us, hl with | [_], _ => rfl
  have gLb := PySem.W.mg_of X G nLb
  have CLb : CallC K mg "length_bound" ["book"] fLb _ := ⟨gLb, kLb, bLb⟩
  have FTa := fun_mk (st := sTallest) lTa cTa kTa
  have bTa := FTa.binds (ps := ["counts"]) fun _ _ _ _ _ _ us hl => match us, hl with | [_], _ => rfl
  have gTa := PySem.W.mg_of X G nTa
  have CTa : CallC K mg "tallest" ["counts"] fTa _ := ⟨gTa, kTa, bTa⟩
  have FLn := fun_mk (st := sLine) lLn cLn kLn
  have bLn := FLn.binds (ps := ["at", "counts"]) fun _ _ _ _ _ _ us hl => match us, hl with | [_, _], _ => rfl
  have gLn := PySem.W.mg_of X G nLn
  have CLn : CallC K mg "line" ["at", "counts"] fLn _ := ⟨gLn, kLn, bLn⟩
  have FPf := fun_mk (st := sPartsOf) lPf cPf kPf
  have bPf := FPf.binds (ps := ["course", "step"]) fun _ _ _ _ _ _ us hl => match us, hl with | [_, _], _ => rfl
  have gPf := PySem.W.mg_of X G nPf
  have CPf : CallC K mg "parts_of" ["course", "step"] fPf _ := ⟨gPf, kPf, bPf⟩
  have FSo := fun_mk (st := sStepsInto) lSo cSo kSo
  have bSo := FSo.binds (ps := ["book"]) fun _ _ _ _ _ _ us hl => match us, hl with | [_], _ => rfl
  have gSo := PySem.W.mg_of X G nSo
  have CSo : CallC K mg "steps_into" ["book"] fSo _ := ⟨gSo, kSo, bSo⟩
  have FAi := fun_mk (st := sAllIn) lAi cAi kAi
  have bAi := FAi.binds (ps := ["parts", "table"]) fun _ _ _ _ _ _ us hl => match us, hl with | [_, _], _ => rfl
  have gAi := PySem.W.mg_of X G nAi
  have CAi : CallC K mg "all_in" ["parts", "table"] fAi _ := ⟨gAi, kAi, bAi⟩
  have FSe := fun_mk (st := sSettled) lSe cSe kSe
  have bSe := FSe.binds (ps := ["book", "end", "deed_costs", "call"]) fun _ _ _ _ _ _ us hl => match us, hl with | [_, _, _, _], _ => rfl
  have gSe := PySem.W.mg_of X G nSe
  have CSe : CallC K mg "settled" ["book", "end", "deed_costs", "call"] fSe _ := ⟨gSe, kSe, bSe⟩
  have FWp := fun_mk (st := sWithParts) lWp cWp kWp
  have bWp := FWp.binds (ps := ["base", "parts", "costs"]) fun _ _ _ _ _ _ us hl => match us, hl with | [_, _, _], _ => rfl
  have gWp := PySem.W.mg_of X G nWp
  have CWp : CallC K mg "with_parts" ["base", "parts", "costs"] fWp _ := ⟨gWp, kWp, bWp⟩
  have FWc := fun_mk (st := sWayCosts) lWc cWc kWc
  have bWc := FWc.binds (ps := ["book", "weights"]) fun _ _ _ _ _ _ us hl => match us, hl with | [_, _], _ => rfl
  have gWc := PySem.W.mg_of X G nWc
  have CWc : CallC K mg "way_costs" ["book", "weights"] fWc _ := ⟨gWc, kWc, bWc⟩
  have FLw := fun_mk (st := sLeastWeights) lLw cLw kLw
  have bLw := FLw.binds (ps := ["book", "weights"]) fun _ _ _ _ _ _ us hl => match us, hl with | [_, _], _ => rfl
  have gLw := PySem.W.mg_of X G nLw
  have CLw : CallC K mg "least_weights" ["book", "weights"] fLw _ := ⟨gLw, kLw, bLw⟩
  have FPn := fun_mk (st := sPlain) lPn cPn kPn
  have bPn := FPn.binds (ps := ["book"]) fun _ _ _ _ _ _ us hl => match us, hl with | [_], _ => rfl
  have gPn := PySem.W.mg_of X G nPn
  have CPn : CallC K mg "plain" ["book"] fPn _ := ⟨gPn, kPn, bPn⟩
  have FLs := fun_mk (st := sLengths) lLs cLs kLs
  have bLs := FLs.binds (ps := ["book", "view"]) fun _ _ _ _ _ _ us hl => match us, hl with | [_, _], _ => rfl
  have gLs := PySem.W.mg_of X G nLs
  have CLs : CallC K mg "lengths" ["book", "view"] fLs _ := ⟨gLs, kLs, bLs⟩
  have FRl := fun_mk (st := sRowLengths) lRl cRl kRl
  have bRl := FRl.binds (ps := ["book", "view"]) fun _ _ _ _ _ _ us hl => match us, hl with | [_, _], _ => rfl
  have gRl := PySem.W.mg_of X G nRl
  have CRl : CallC K mg "row_lengths" ["book", "view"] fRl _ := ⟨gRl, kRl, bRl⟩
  have FBx := fun_mk (st := sBox) lBx cBx kBx
  have bBx := FBx.binds (ps := ["script", "k"]) fun _ _ _ _ _ _ us hl => match us, hl with | [_, _], _ => rfl
  have gBx := PySem.W.mg_of X G nBx
  have CBx : CallC K mg "_law_box" ["script", "k"] fBx _ := ⟨gBx, kBx, bBx⟩
  have FTk := fun_mk (st := sTake) lTk cTk kTk
  have bTk := FTk.binds (ps := ["box", "many"]) fun _ _ _ _ _ _ us hl => match us, hl with | [_, _], _ => rfl
  have gTk := PySem.W.mg_of X G nTk
  have CTk : CallC K mg "_law_take" ["box", "many"] fTk _ := ⟨gTk, kTk, bTk⟩
  have FPk := fun_mk (st := sPick) lPk cPk kPk
  have bPk := FPk.binds (ps := ["box", "some"]) fun _ _ _ _ _ _ us hl => match us, hl with | [_, _], _ => rfl
  have gPk := PySem.W.mg_of X G nPk
  have CPk : CallC K mg "_law_pick" ["box", "some"] fPk _ := ⟨gPk, kPk, bPk⟩
  have FLx := fun_mk (st := sLawMixed) lLx cLx kLx
  have bLx := FLx.binds (ps := ["box", "some"]) fun _ _ _ _ _ _ us hl => match us, hl with | [_, _], _ => rfl
  have gLx := PySem.W.mg_of X G nLx
  have CLx : CallC K mg "_law_mixed" ["box", "some"] fLx _ := ⟨gLx, kLx, bLx⟩
  have FLst := fun_mk (st := sLawStep) lLst cLst kLst
  have bLst := FLst.binds (ps := ["box", "names", "at", "stages", "begin"]) fun _ _ _ _ _ _ us hl => match us, hl with | [_, _, _, _, _], _ => rfl
  have gLst := PySem.W.mg_of X G nLst
  have CLst : CallC K mg "_law_step" ["box", "names", "at", "stages", "begin"] fLst _ := ⟨gLst, kLst, bLst⟩
  have FLc := fun_mk (st := sLawCourse) lLc cLc kLc
  have bLc := FLc.binds (ps := ["box", "names", "at"]) fun _ _ _ _ _ _ us hl => match us, hl with | [_, _, _], _ => rfl
  have gLc := PySem.W.mg_of X G nLc
  have CLc : CallC K mg "_law_course" ["box", "names", "at"] fLc _ := ⟨gLc, kLc, bLc⟩
  have FLcs := fun_mk (st := sLawCourses) lLcs cLcs kLcs
  have bLcs := FLcs.binds (ps := ["box"]) fun _ _ _ _ _ _ us hl => match us, hl with | [_], _ => rfl
  have gLcs := PySem.W.mg_of X G nLcs
  have CLcs : CallC K mg "_law_courses" ["box"] fLcs _ := ⟨gLcs, kLcs, bLcs⟩
  have FLle := fun_mk (st := sLawLeaving) lLle cLle kLle
  have bLle := FLle.binds (ps := ["courses"]) fun _ _ _ _ _ _ us hl => match us, hl with | [_], _ => rfl
  have gLle := PySem.W.mg_of X G nLle
  have CLle : CallC K mg "_law_leaving" ["courses"] fLle _ := ⟨gLle, kLle, bLle⟩
  have FLen := fun_mk (st := sLawEnds) lLen cLen kLen
  have bLen := FLen.binds (ps := ["courses"]) fun _ _ _ _ _ _ us hl => match us, hl with | [_], _ => rfl
  have gLen := PySem.W.mg_of X G nLen
  have CLen : CallC K mg "_law_ends" ["courses"] fLen _ := ⟨gLen, kLen, bLen⟩
  have FLpr := fun_mk (st := sLawProduct) lLpr cLpr kLpr
  have bLpr := FLpr.binds (ps := ["numbers"]) fun _ _ _ _ _ _ us hl => match us, hl with | [_], _ => rfl
  have gLpr := PySem.W.mg_of X G nLpr
  have CLpr : CallC K mg "_law_product" ["numbers"] fLpr _ := ⟨gLpr, kLpr, bLpr⟩
  have FLbr := fun_mk (st := sLawBookRight) lLbr cLbr kLbr
  have bLbr := FLbr.binds (ps := ["box"]) fun _ _ _ _ _ _ us hl => match us, hl with | [_], _ => rfl
  have gLbr := PySem.W.mg_of X G nLbr
  have CLbr : CallC K mg "_law_book_right" ["box"] fLbr _ := ⟨gLbr, kLbr, bLbr⟩
  have FLco := fun_mk (st := sLawCounts) lLco cLco kLco
  have bLco := FLco.binds (ps := ["box"]) fun _ _ _ _ _ _ us hl => match us, hl with | [_], _ => rfl
  have gLco := PySem.W.mg_of X G nLco
  have CLco : CallC K mg "_law_counts" ["box"] fLco _ := ⟨gLco, kLco, bLco⟩
  have FLfi := fun_mk (st := sLawFit) lLfi cLfi kLfi
  have bLfi := FLfi.binds (ps := ["counts"]) fun _ _ _ _ _ _ us hl => match us, hl with | [_], _ => rfl
  have gLfi := PySem.W.mg_of X G nLfi
  have CLfi : CallC K mg "_law_fit" ["counts"] fLfi _ := ⟨gLfi, kLfi, bLfi⟩
  have FLto := fun_mk (st := sLawTold) lLto cLto kLto
  have bLto := FLto.binds (ps := ["counts"]) fun _ _ _ _ _ _ us hl => match us, hl with | [_], _ => rfl
  have gLto := PySem.W.mg_of X G nLto
  have CLto : CallC K mg "_law_told" ["counts"] fLto _ := ⟨gLto, kLto, bLto⟩
  have FLwa := fun_mk (st := sLawWalked) lLwa cLwa kLwa
  have bLwa := FLwa.binds (ps := ["courses"]) fun _ _ _ _ _ _ us hl => match us, hl with | [_], _ => rfl
  have gLwa := PySem.W.mg_of X G nLwa
  have CLwa : CallC K mg "_law_walked" ["courses"] fLwa _ := ⟨gLwa, kLwa, bLwa⟩
  have FLtr := fun_mk (st := sLawTallestRight) lLtr cLtr kLtr
  have bLtr := FLtr.binds (ps := ["counts"]) fun _ _ _ _ _ _ us hl => match us, hl with | [_], _ => rfl
  have gLtr := PySem.W.mg_of X G nLtr
  have CLtr : CallC K mg "_law_tallest_right" ["counts"] fLtr _ := ⟨gLtr, kLtr, bLtr⟩
  have FLa := fun_mk (st := sLaw) lLa cLa kLa
  have bLa := FLa.binds (ps := ["script"]) fun _ _ _ _ _ _ us hl => match us, hl with | [_], _ => rfl
  have FBi := fun_mk (st := sBkInit) lBi cBi kBi
  have bBi := FBi.binds (ps := ["self", "courses"]) fun _ _ _ _ _ _ us hl => match us, hl with | [_, _], _ => rfl
  have FBd := fun_mk (st := sBkDeeds) lBd cBd kBd
  have bBd := FBd.binds (ps := ["self"]) fun _ _ _ _ _ _ us hl => match us, hl with | [_], _ => rfl
  have FBn := fun_mk (st := sBkNames) lBn cBn kBn
  have bBn := FBn.binds (ps := ["self"]) fun _ _ _ _ _ _ us hl => match us, hl with | [_], _ => rfl
  have FBsg := fun_mk (st := sBkStages) lBsg cBsg kBsg
  have bBsg := FBsg.binds (ps := ["self"]) fun _ _ _ _ _ _ us hl => match us, hl with | [_], _ => rfl
  have FBst := fun_mk (st := sBkSteps) lBst cBst kBst
  have bBst := FBst.binds (ps := ["self", "course"]) fun _ _ _ _ _ _ us hl => match us, hl with | [_, _], _ => rfl
  have FBie := fun_mk (st := sBkIsEnd) lBie cBie kBie
  have bBie := FBie.binds (ps := ["self", "stage"]) fun _ _ _ _ _ _ us hl => match us, hl with | [_, _], _ => rfl
  have FIRe := fun_mk (st := sRefusedInit) lIRe cIRe kIRe
  have bIRe := FIRe.binds (ps := ["self", "word"]) fun _ _ _ _ _ _ us hl => match us, hl with | [_, _], _ => rfl
  have gCB := PySem.W.mg_of X G aCB
  have MkB : Mk K CB fBi := ⟨mkB, aBi, iBi, kcB⟩
  have MBd : Meth K CB "deeds" fBd := ⟨aBd, iBd, kBd⟩
  have MBn : Meth K CB "names" fBn := ⟨aBn, iBn, kBn⟩
  have MBsg : Meth K CB "stages" fBsg := ⟨aBsg, iBsg, kBsg⟩
  have MBst : Meth K CB "steps" fBst := ⟨aBst, iBst, kBst⟩
  have MBie : Meth K CB "is_end" fBie := ⟨aBie, iBie, kBie⟩
  have gCRe := PySem.W.mg_of X G aCRe
  have oexRe : OexC K CRe := ⟨⟨nmRe, qRe, NnRe, bsRe, bmRe, snRe, subRe, abRe, colRe, ddRe, m0Re, m1Re, m2Re, m3Re, m5Re, xLRe, hbRe⟩, saRe, eXRe, tXRe, kXRe⟩
  have g_LONGEST_NAME := PySem.W.mg_of X G v_LONGEST_NAME
  have g_MOST_COURSES := PySem.W.mg_of X G v_MOST_COURSES
  have g_MOST_STAGES := PySem.W.mg_of X G v_MOST_STAGES
  have g_MOST_STAGES_TOGETHER := PySem.W.mg_of X G v_MOST_STAGES_TOGETHER
  have g_MOST_DEEDS := PySem.W.mg_of X G v_MOST_DEEDS
  refine ⟨PySem.W.fnOf "law" "law" (defArgs sLaw) (defBody sLaw) (defScope sLaw) .none kVLa dcLa pmLa anLa cdLa ctLa, [], spLaw K, (fun p hp => by cases hp), (fun p hp => by cases hp), (fun p hp => by cases hp), fun s u => BindsTo.of_eq rfl, fun H a ns hl hb hP hS => ?_, fun base hb hg hTB => ?_⟩
  · exact ⟨a, ns, rfl, hS, fun H' => rfl⟩
  · skip
    have B : BkC K mg CB := ⟨⟨pgB, hdB, poB, saB⟩, naB0, naB1, naB2, naB3, naB4, gCB⟩
    have IB : IsiC K CB := ⟨bca, xn, xt, bcm, bck⟩
    have R : RefC K mg CRe fIRe _ := ⟨oexRe, aIRe, tIRe, noRe, gCRe, FIRe, bIRe⟩
    have Z : CatchC K CRe := ⟨PySem.W.exm_ref eXRe hXRe tXRe sXRe, ⟨gaRe, ggRe, eXRe, hXRe⟩⟩
    have g_F : FreeG K mg aF aS := ⟨PySem.W.mg_of X G xF, ktup_int2 lkF, PySem.W.mg_of X G xS, ktup_int2 lkS⟩
    have g_N : NamesG K mg aN := ⟨PySem.W.mg_of X G xN, ktup_names lkN⟩
    have kbLb : KBinds K _ ["book"] ["book"] Ka.snG Ka.snG := Ka.kb_one (fd := PySem.W.fnOf "length_bound" "length_bound" (defArgs sLengthBound) (defBody sLengthBound) (defScope sLengthBound) .none kVLb dcLb pmLb anLb cdLb ctLb) fun x => rfl
    have kbTa : KBinds K _ ["counts"] ["counts"] Ka.snG Ka.snG := Ka.kb_one (fd := PySem.W.fnOf "tallest" "tallest" (defArgs sTallest) (defBody sTallest) (defScope sTallest) .none kVTa dcTa pmTa anTa cdTa ctTa) fun x => rfl
    have GIi := ok_isint (P := l.prog) (w := w) (base := base) (mg := mg) FIi N
    have GIn := ok_isnum FIn N GIi CIi
    have GNt := ok_isnumto FNt GIn CIn
    have GNm := ok_name (P := l.prog) (w := w) (base := base) (mg := mg) FNm FLt bLt gLt g_LONGEST_NAME N.isinstance N.str N.len N.all
    have GIl := ok_islot (P := l.prog) (w := w) (base := base) (mg := mg) FIl N
    have GIs := ok_isstep FIs N GNt CNt GNm CNm
    have GAe := ok_areends FAe N GNt CNt GIl CIl
    have GAt := ok_aresteps FAt N GIs CIs
    have GIc := ok_iscourse FIc N g_MOST_STAGES GNt CNt GNm CNm GAe CAe GAt CAt
    have GDi := ok_deedsin (P := l.prog) (w := w) (base := base) (mg := mg) FDi
    have GCe := ok_cheach FCe N g_MOST_COURSES GIc CIc
    have GCt := ok_chtog FCt N g_MOST_STAGES_TOGETHER g_MOST_DEEDS GDi CDi
    have GLe := ok_leaving (P := l.prog) (w := w) (base := base) (mg := mg) FLe N
    have GBi := ok_bkinit FBi N B GCe CCe GCt CCt GLe CLe
    have GBd := ok_bkdeeds FBd N B GDi CDi
    have GBst := ok_bksteps (P := l.prog) (w := w) (base := base) (mg := mg) FBst B
    have GBie := ok_bkisend (P := l.prog) (w := w) (base := base) (mg := mg) FBie B
    have GBsg := ok_bkstages (P := l.prog) (w := w) (base := base) (mg := mg) FBsg B
    have GBn := ok_bknames (P := l.prog) (w := w) (base := base) (mg := mg) FBn N B
    have GAs := ok_asc (P := l.prog) (w := w) (base := base) (mg := mg) FAs N
    have GPf := ok_partsof (P := l.prog) (w := w) (base := base) (mg := mg) FPf
    have GAi := ok_allin (P := l.prog) (w := w) (base := base) (mg := mg) FAi N
    have GPn := ok_pln FPn B GBd bBd MBd
    have GSo := ok_into FSo B GBsg bBsg MBsg GBn bBn MBn GBst bBst MBst GPf CPf
    have GWp := ok_withp (P := l.prog) (w := w) (base := base) (mg := mg) FWp
    have GSe := ok_settled FSe B (PySem.W.mg_of X G xhp) (PySem.W.mg_of X G xho) GSo CSo GBsg bBsg MBsg GBie bBie MBie GAi CAi GWp CWp
    have GWc := ok_waycosts FWc N B g_F GBd bBd MBd GSe CSe GAs CAs
    have GLw := ok_leastw FLw GWc CWc
    have GRl := ok_rowlens FRl N B GBd bBd MBd
    have GLs := ok_lens FLs GRl CRl GLw CLw
    have GLb := ok_bound (P := l.prog) (w := w) (base := base) (mg := mg) FLb B
    have GLn := ok_line (P := l.prog) (w := w) (base := base) (mg := mg) FLn N g_N
    have GTa := ok_tallest FTa R N B MkB GBi bBi g_MOST_COURSES g_MOST_STAGES_TOGETHER g_MOST_STAGES GLn CLn
    have GBx := ok_box (P := l.prog) (w := w) (base := base) (mg := mg) FBx N.int N.len N.abs
    have GTk := ok_take (P := l.prog) (w := w) (base := base) (mg := mg) FTk N.int
    have GPk := ok_pick (P := l.prog) (w := w) (base := base) (mg := mg) FPk FTk bTk gTk N.int N.len
    have GLx := ok_lawmixed FLx N GTk CTk
    have GLst := ok_lawstep FLst N GTk CTk GPk CPk
    have GLc := ok_lawcourse FLc N GTk CTk GLst CLst GLx CLx
    have GLcs := ok_lawcourses FLcs N GTk CTk GLx CLx GLc CLc
    have GLle := ok_lawleav (P := l.prog) (w := w) (base := base) (mg := mg) FLle N
    have GLen := ok_lawends (P := l.prog) (w := w) (base := base) (mg := mg) FLen N
    have GLpr := ok_lawprod (P := l.prog) (w := w) (base := base) (mg := mg) FLpr
    have GLbr := ok_bookr FLbr N B MkB GBi bBi GLcs CLcs GLb CLb kbLb GLs CLs GPn CPn GLpr CLpr
    have GLco := ok_counts FLco N GTk CTk
    have GLfi := ok_fit (P := l.prog) (w := w) (base := base) (mg := mg) FLfi N
    have GLto := ok_told FLto R Z N GTa CTa kbTa
    have GLwa := ok_walked FLwa N GLle CLle GLen CLen
    have GLtr := ok_tallr FLtr N B IB GLto CLto GLfi CLfi GLpr CLpr GLb CLb GLs CLs GPn CPn GLwa CLwa
    exact ok_law FLa N GBx CBx GLbr CLbr GLtr CLtr GLco CLco
end Kb
open PySem PySem.W PyProof.Rows in
set_option maxHeartbeats 0 in
theorem PySem.Challenge.cw_stillowed_k13_bounds_and_tallest_books_holds : PySem.Challenge.rw_stillowed_k13_bounds_and_tallest_books.Holds := by
  w_on; o_law; k_head; (case hw => w_witness2)
  k_fill
  refine LamX.walk_ofTs (l := PySem.Challenge.rw_stillowed_k13_bounds_and_tallest_books) (n := 63) (k := 13) (x := "script") (CX := fun _ => L2.CX0) rfl (by decide) rfl ⟨rfl, by decide, by decide⟩ (fun w h Y => PySem.W.kIn_of Y) ?F (fun _ _ _ _ _ z => z)
  case F =>
    intro w mg fa h Y KX G hmg
    refine' Kb.all_mk KX G hmg ?nIi ?lIi ?cIi ?kIi ?nIn ?lIn ?cIn ?kIn ?nNt ?lNt ?cNt ?kNt ?nNm ?lNm ?cNm ?kNm ?nLt ?lLt ?cLt ?kLt ?nIl ?lIl ?cIl ?kIl ?nAs ?lAs ?cAs ?kAs ?nCe ?lCe ?cCe ?kCe ?nCt ?lCt ?cCt ?kCt ?nIc ?lIc ?cIc ?kIc ?nAe ?lAe ?cAe ?kAe ?nAt ?lAt ?cAt ?kAt ?nIs ?lIs ?cIs ?kIs ?nDi ?lDi ?cDi ?kDi ?nLe ?lLe ?cLe ?kLe ?nLb ?lLb ?cLb ?kLb ?nTa ?lTa ?cTa ?kTa ?nLn ?lLn ?cLn ?kLn ?nPf ?lPf ?cPf ?kPf ?nSo ?lSo ?cSo ?kSo ?nAi ?lAi ?cAi ?kAi ?nSe ?lSe ?cSe ?kSe ?nWp ?lWp ?cWp ?kWp ?nWc ?lWc ?cWc ?kWc ?nLw ?lLw ?cLw ?kLw ?nPn ?lPn ?cPn ?kPn ?nLs ?lLs ?cLs ?kLs ?nRl ?lRl ?cRl ?kRl ?nBx ?lBx ?cBx ?kBx ?nTk ?lTk ?cTk ?kTk ?nPk ?lPk ?cPk ?kPk ?nLx ?lLx ?cLx ?kLx ?nLst ?lLst ?cLst ?kLst ?nLc ?lLc ?cLc ?kLc ?nLcs ?lLcs ?cLcs ?kLcs ?nLle ?lLle ?cLle ?kLle ?nLen ?lLen ?cLen ?kLen ?nLpr ?lLpr ?cLpr ?kLpr ?nLbr ?lLbr ?cLbr ?kLbr ?nLco ?lLco ?cLco ?kLco ?nLfi ?lLfi ?cLfi ?kLfi ?nLto ?lLto ?cLto ?kLto ?nLwa ?lLwa ?cLwa ?kLwa ?nLtr ?lLtr ?cLtr ?kLtr ?nLa ?lLa ?cLa ?kLa ?aCB ?pgB ?hdB ?poB ?saB ?mkB ?kcB ?aBi ?iBi ?lBi ?cBi ?kBi ?aBd ?iBd ?lBd ?cBd ?kBd ?aBn ?iBn ?lBn ?cBn ?kBn ?aBsg ?iBsg ?lBsg ?cBsg ?kBsg ?aBst ?iBst ?lBst ?cBst ?kBst ?aBie ?iBie ?lBie ?cBie ?kBie ?naB0 ?naB1 ?naB2 ?naB3 ?naB4 ?aCRe ?xLRe ?hbRe ?saRe ?gaRe ?ggRe ?noRe ?aIRe ?tIRe ?lIRe ?cIRe ?kIRe ?kXRe ?eXRe ?tXRe ?hXRe ?iXRe ?sXRe ?xcRe ?xmRe ?xn ?xt ?v_LONGEST_NAME ?v_MOST_COURSES ?v_MOST_STAGES ?v_MOST_STAGES_TOGETHER ?v_MOST_DEEDS ?xhp ?xho ?xF ?lkF ?xS ?lkS ?xN ?lkN ?bca ?bcm ?bck ?z_len ?z_range ?z_iter ?z_enumerate ?z_reversed ?z_tuple ?z_list ?z_sorted ?z_any ?z_all ?z_int ?z_str ?z_bool ?z_abs ?z_min ?z_max ?z_sum ?z_isinstance ?z_ValueError
    (case nIi => k_is)
    (case lIi => k_is)
    (case cIi => k_is)
    (case kIi => k_is)
    (case nIn => k_is)
    (case lIn => k_is)
    (case cIn => k_is)
    (case kIn => k_is)
    (case nNt => k_is)
    (case lNt => k_is)
    (case cNt => k_is)
    (case kNt => k_is)
    (case nNm => k_is)
    (case lNm => k_is)
    (case cNm => k_is)
    (case kNm => k_is)
    (case nLt => k_is)
    (case lLt => k_is)
    (case cLt => k_is)
    (case kLt => k_is)
    (case nIl => k_is)
    (case lIl => k_is)
    (case cIl => k_is)
    (case kIl => k_is)
    (case nAs => k_is)
    (case lAs => k_is)
    (case cAs => k_is)
    (case kAs => k_is)
    (case nCe => k_is)
    (case lCe => k_is)
    (case cCe => k_is)
    (case kCe => k_is)
    (case nCt => k_is)
    (case lCt => k_is)
    (case cCt => k_is)
    (case kCt => k_is)
    (case nIc => k_is)
    (case lIc => k_is)
    (case cIc => k_is)
    (case kIc => k_is)
    (case nAe => k_is)
    (case lAe => k_is)
    (case cAe => k_is)
    (case kAe => k_is)
    (case nAt => k_is)
    (case lAt => k_is)
    (case cAt => k_is)
    (case kAt => k_is)
    (case nIs => k_is)
    (case lIs => k_is)
    (case cIs => k_is)
    (case kIs => k_is)
    (case nDi => k_is)
    (case lDi => k_is)
    (case cDi => k_is)
    (case kDi => k_is)
    (case nLe => k_is)
    (case lLe => k_is)
    (case cLe => k_is)
    (case kLe => k_is)
    (case nLb => k_is)
    (case lLb => k_is)
    (case cLb => k_is)
    (case kLb => k_is)
    (case nTa => k_is)
    (case lTa => k_is)
    (case cTa => k_is)
    (case kTa => k_is)
    (case nLn => k_is)
    (case lLn => k_is)
    (case cLn => k_is)
    (case kLn => k_is)
    (case nPf => k_is)
    (case lPf => k_is)
    (case cPf => k_is)
    (case kPf => k_is)
    (case nSo => k_is)
    (case lSo => k_is)
    (case cSo => k_is)
    (case kSo => k_is)
    (case nAi => k_is)
    (case lAi => k_is)
    (case cAi => k_is)
    (case kAi => k_is)
    (case nSe => k_is)
    (case lSe => k_is)
    (case cSe => k_is)
    (case kSe => k_is)
    (case nWp => k_is)
    (case lWp => k_is)
    (case cWp => k_is)
    (case kWp => k_is)
    (case nWc => k_is)
    (case lWc => k_is)
    (case cWc => k_is)
    (case kWc => k_is)
    (case nLw => k_is)
    (case lLw => k_is)
    (case cLw => k_is)
    (case kLw => k_is)
    (case nPn => k_is)
    (case lPn => k_is)
    (case cPn => k_is)
    (case kPn => k_is)
    (case nLs => k_is)
    (case lLs => k_is)
    (case cLs => k_is)
    (case kLs => k_is)
    (case nRl => k_is)
    (case lRl => k_is)
    (case cRl => k_is)
    (case kRl => k_is)
    (case nBx => k_is)
    (case lBx => k_is)
    (case cBx => k_is)
    (case kBx => k_is)
    (case nTk => k_is)
    (case lTk => k_is)
    (case cTk => k_is)
    (case kTk => k_is)
    (case nPk => k_is)
    (case lPk => k_is)
    (case cPk => k_is)
    (case kPk => k_is)
    (case nLx => k_is)
    (case lLx => k_is)
    (case cLx => k_is)
    (case kLx => k_is)
    (case nLst => k_is)
    (case lLst => k_is)
    (case cLst => k_is)
    (case kLst => k_is)
    (case nLc => k_is)
    (case lLc => k_is)
    (case cLc => k_is)
    (case kLc => k_is)
    (case nLcs => k_is)
    (case lLcs => k_is)
    (case cLcs => k_is)
    (case kLcs => k_is)
    (case nLle => k_is)
    (case lLle => k_is)
    (case cLle => k_is)
    (case kLle => k_is)
    (case nLen => k_is)
    (case lLen => k_is)
    (case cLen => k_is)
    (case kLen => k_is)
    (case nLpr => k_is)
    (case lLpr => k_is)
    (case cLpr => k_is)
    (case kLpr => k_is)
    (case nLbr => k_is)
    (case lLbr => k_is)
    (case cLbr => k_is)
    (case kLbr => k_is)
    (case nLco => k_is)
    (case lLco => k_is)
    (case cLco => k_is)
    (case kLco => k_is)
    (case nLfi => k_is)
    (case lLfi => k_is)
    (case cLfi => k_is)
    (case kLfi => k_is)
    (case nLto => k_is)
    (case lLto => k_is)
    (case cLto => k_is)
    (case kLto => k_is)
    (case nLwa => k_is)
    (case lLwa => k_is)
    (case cLwa => k_is)
    (case kLwa => k_is)
    (case nLtr => k_is)
    (case lLtr => k_is)
    (case cLtr => k_is)
    (case kLtr => k_is)
    (case nLa => k_is)
    (case lLa => k_is)
    (case cLa => k_is)
    (case kLa => k_is)
    (case aCB => k_is)
    (case pgB => k_is)
    (case hdB => k_is)
    (case poB => k_is)
    (case saB => k_is)
    (case mkB => k_is)
    (case kcB => k_is)
    (case aBi => k_is)
    (case iBi => k_is)
    (case lBi => k_is)
    (case cBi => k_is)
    (case kBi => k_is)
    (case aBd => k_is)
    (case iBd => k_is)
    (case lBd => k_is)
    (case cBd => k_is)
    (case kBd => k_is)
    (case aBn => k_is)
    (case iBn => k_is)
    (case lBn => k_is)
    (case cBn => k_is)
    (case kBn => k_is)
    (case aBsg => k_is)
    (case iBsg => k_is)
    (case lBsg => k_is)
    (case cBsg => k_is)
    (case kBsg => k_is)
    (case aBst => k_is)
    (case iBst => k_is)
    (case lBst => k_is)
    (case cBst => k_is)
    (case kBst => k_is)
    (case aBie => k_is)
    (case iBie => k_is)
    (case lBie => k_is)
    (case cBie => k_is)
    (case kBie => k_is)
    (case naB0 => k_is)
    (case naB1 => k_is)
    (case naB2 => k_is)
    (case naB3 => k_is)
    (case naB4 => k_is)
    (case aCRe => k_is)
    (case xLRe => k_is)
    (case hbRe => first | decide +kernel | rfl | k_is)
    (case saRe => k_is)
    (case gaRe => k_is)
    (case ggRe => k_is)
    (case noRe => k_is)
    (case aIRe => k_is)
    (case tIRe => k_is)
    (case lIRe => k_is)
    (case cIRe => k_is)
    (case kIRe => k_is)
    (case kXRe => k_is)
    (case eXRe => k_is)
    (case tXRe => k_is)
    (case hXRe => k_is)
    (case iXRe => k_is)
    (case sXRe => first | rfl | k_is)
    (case xcRe => k_is)
    (case xmRe => k_is)
    (case xn => k_is)
    (case xt => k_is)
    (case v_LONGEST_NAME => k_is)
    (case v_MOST_COURSES => k_is)
    (case v_MOST_STAGES => k_is)
    (case v_MOST_STAGES_TOGETHER => k_is)
    (case v_MOST_DEEDS => k_is)
    (case xhp => k_is)
    (case xho => k_is)
    (case xF => k_is)
    (case lkF => k_is)
    (case xS => k_is)
    (case lkS => k_is)
    (case xN => k_is)
    (case lkN => k_is)
    (case bca => k_is)
    (case bcm => k_is)
    (case bck => first | k_is | (k_dec) | rfl)
    (case z_len => k_is)
    (case z_range => k_is)
    (case z_iter => k_is)
    (case z_enumerate => k_is)
    (case z_reversed => k_is)
    (case z_tuple => k_is)
    (case z_list => k_is)
    (case z_sorted => k_is)
    (case z_any => k_is)
    (case z_all => k_is)
    (case z_int => k_is)
    (case z_str => k_is)
    (case z_bool => k_is)
    (case z_abs => k_is)
    (case z_min => k_is)
    (case z_max => k_is)
    (case z_sum => k_is)
    (case z_isinstance => k_is)
    (case z_ValueError => k_is)
