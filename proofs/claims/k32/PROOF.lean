import PyProof.Rows.All
import Wide.All
import OpenK.AllK
import Wide.FinOn
import PyProof.TupleIter
import PyProof.WalksMore
import HandS.ForMost
import HandS.IterNext
import HandS.IterVal
import KE.GoesMore
import PyProof.EnumMake
import HandS.Style
import KE.SortKeyHeap
import KE.KLam
import KE.KDictCopyH
import HandS.SortKw
import HandS.Lambda
import HandS.DictComp
import HandS.Walk
import HandS.Gcd
import KE.SortData
import KE.DataMinMax
import PyProof.DictUpdate
import PySem.Challenge.RW_stillowed_k32_dealings_and_parts
import HandS.Zip
import HandS.Rev
import HandS.Evl
import HandS.Wide
import HandS.TupLe
import HandS.Deep
import HandS.TupAny
import HandS.IsInst
import PyProof.P3Eq
import HandS.Codes
import HandS.StrMore
import HandS.ForExc
import HandS.ExcInit
import HandS.Text
import HandS.TupLen
import HandS.More
import HandS.Defaults
import HandS.ExcField
import HandS.ExcIs
import KE.KExcIs
import HandS.SetFor
import HandS.Strs
import HandS.ListItems
import HandS.DictTup
import KE.KDictList
import HandS.Conv
import KE.KDictPairs
import HandS.Dict
import HandS.List
import HandS.EndTab
import KE.KNestM
set_option Elab.async false
set_option linter.all false
set_option maxRecDepth 100000
set_option maxHeartbeats 8000000
/-! The mathematics of fits (own text; no part of the kit). -/
namespace Ka

variable {α : Type} [DecidableEq α]

/-- may the place stand behind the fit so far -/
def okAfter (fit : List Nat) (at_ : Nat) : Bool :=
  match fit.getLast? with
  | none => true
  | some l => decide (l < at_)

/-- the places by which a fit is lengthened -/
def nexts (v : List α) (x : α) (fit : List Nat) : List Nat :=
  (List.range v.length).filter fun i => decide (v[i]? = some x) && okAfter fit i

def growAll (v : List α) (x : α) (found : List (List Nat)) : List (List Nat) :=
  found.flatMap fun fit => (nexts v x fit).map fun i => fit ++ [i]

/-- all fits, as a loop over u finds them -/
def allFrom (v : List α) : List α → List (List Nat) → List (List Nat)
  | [], found => found
  | x :: u, found => allFrom v u (growAll v x found)

def allFits (u v : List α) : List (List Nat) := allFrom v u [[]]

theorem allFrom_append (v : List α) : ∀ (u w : List α) (found : List (List Nat)), allFrom v (u ++ w) found = allFrom v w (allFrom v u found)
  | [], _, _ => rfl
  | x :: u, w, found => allFrom_append v u w (growAll v x found)

theorem allFits_snoc (u : List α) (x : α) (v : List α) : allFits (u ++ [x]) v = growAll v x (allFits u v) := by
  unfold allFits
  rw [allFrom_append]
  rfl

/-! ### what a fit is -/
structure IsFit (u v : List α) (g : List Nat) : Prop where
  len : g.length = u.length
  asc : ∀ i j a b : Nat, i < j → g[i]? = some a → g[j]? = some b → a < b
  hit : ∀ i a : Nat, g[i]? = some a → v[a]? = u[i]?

theorem okAfter_iff (fit : List Nat) (i : Nat) : okAfter fit i = true ↔ ∀ l, fit.getLast? = some l → l < i := by
  unfold okAfter
  cases h : fit.getLast? with
  | none => simp
  | some l => simp

theorem mem_growAll {v : List α} {x : α} {found : List (List Nat)} {g : List Nat} :
    g ∈ growAll v x found ↔ ∃ fit i, fit ∈ found ∧ g = fit ++ [i] ∧ v[i]? = some x ∧ okAfter fit i = true := by
  unfold growAll nexts
  simp only [List.mem_flatMap, List.mem_map, List.mem_filter, List.mem_range, Bool.and_eq_true, decide_eq_true_eq]
  constructor
  · rintro ⟨fit, hf, i, ⟨hi, hx, ho⟩, rfl⟩
    exact ⟨fit, i, hf, rfl, hx, ho⟩
  · rintro ⟨fit, i, hf, rfl, hx, ho⟩
    refine ⟨fit, hf, i, ⟨?_, hx, ho⟩, rfl⟩
    exact (List.getElem?_eq_some_iff.mp hx).1

theorem snoc_get {β : Type} (l : List β) (x : β) (i : Nat) : (l ++ [x])[i]? = if i < l.length then l[i]? else if i = l.length then some x else none := by
  rw [List.getElem?_append]
  split
  · rfl
  · split
    · rename_i h1 h2
      subst h2
      simp
    · rename_i h1 h2
      have : 1 ≤ i - l.length := by omega
      rw [List.getElem?_eq_none]
      simpa using this

theorem isFit_snoc {u v : List α} {x : α} {fit : List Nat} {i : Nat} :
    IsFit (u ++ [x]) v (fit ++ [i]) ↔ IsFit u v fit ∧ v[i]? = some x ∧ okAfter fit i = true := by
  constructor
  · intro h
    have hl : fit.length = u.length := by
      have := h.len
      simp at this
      exact this
    refine ⟨⟨hl, fun a b p q hab hp hq => ?_, fun a p hp => ?_⟩, ?_, ?_⟩
    · have h1 := (List.getElem?_eq_some_iff.mp hp).1
      have h2 := (List.getElem?_eq_some_iff.mp hq).1
      refine h.asc a b p q hab ?_ ?_
      · rw [snoc_get, if_pos h1]; exact hp
      · rw [snoc_get, if_pos h2]; exact hq
    · have h1 := (List.getElem?_eq_some_iff.mp hp).1
      have := h.hit a p (by rw [snoc_get, if_pos h1]; exact hp)
      rw [this, snoc_get, if_pos (by omega)]
    · have := h.hit fit.length i (by rw [snoc_get, if_neg (Nat.lt_irrefl _), if_pos rfl])
      rw [this, snoc_get, if_neg (by omega), if_pos (by omega)]
    · rw [okAfter_iff]
      intro l hl'
      rw [List.getLast?_eq_getElem?] at hl'
      have h1 := (List.getElem?_eq_some_iff.mp hl').1
      exact h.asc (fit.length - 1) fit.length l i (by omega) (by rw [snoc_get, if_pos h1]; exact hl') (by rw [snoc_get, if_neg (Nat.lt_irrefl _), if_pos rfl])
  · rintro ⟨h, hx, ho⟩
    rw [okAfter_iff] at ho
    have hl := h.len
    refine ⟨by simp [hl], fun a b p q hab hp hq => ?_, fun a p hp => ?_⟩
    · rw [snoc_get] at hp hq
      split at hq
      · rename_i hb
        rw [if_pos (by omega)] at hp
        exact h.asc a b p q hab hp hq
      · split at hq
        · rename_i hb hb2
          cases hq
          rw [if_pos (by omega)] at hp
          have hlast : ∃ l, fit.getLast? = some l := by
            cases e : fit.getLast? with
            | none =>
              rw [List.getLast?_eq_none_iff] at e
              subst e
              simp at hb2
              omega
            | some l => exact ⟨l, rfl⟩
          obtain ⟨l, el⟩ := hlast
          have h1 := ho l el
          by_cases e : a = fit.length - 1
          · rw [List.getLast?_eq_getElem?, ← e, hp] at el
            cases el
            exact h1
          · rw [List.getLast?_eq_getElem?] at el
            have h2 : a < fit.length := by omega
            exact Nat.lt_trans (h.asc a (fit.length - 1) p l (by omega) hp el) h1
        · cases hq
    · rw [snoc_get] at hp
      split at hp
      · rename_i h1
        rw [h.hit a p hp, snoc_get, if_pos (by omega)]
      · split at hp
        · rename_i h1 h2
          cases hp
          rw [hx, snoc_get, if_neg (by omega), if_pos (by omega)]
        · cases hp

theorem isFit_nil {v : List α} {g : List Nat} : IsFit ([] : List α) v g ↔ g = [] := by
  constructor
  · intro h
    have := h.len
    simpa using this
  · rintro rfl
    exact ⟨rfl, fun i j a b _ h => by simp at h, fun i a h => by simp at h⟩

theorem snoc_ind {β : Type} {P : List β → Prop} (h0 : P []) (h1 : ∀ l x, P l → P (l ++ [x])) : ∀ l, P l := by
  intro l
  have : ∀ r : List β, P r.reverse := by
    intro r
    induction r with
    | nil => exact h0
    | cons x r ih => rw [List.reverse_cons]; exact h1 _ _ ih
  simpa using this l.reverse

theorem mem_allFits (v : List α) : ∀ (u : List α) (g : List Nat), g ∈ allFits u v ↔ IsFit u v g := by
  refine snoc_ind (fun g => ?_) fun u x ih g => ?_
  · rw [isFit_nil]
    simp [allFits, allFrom]
  · rw [allFits_snoc, mem_growAll]
    constructor
    · rintro ⟨fit, i, hf, rfl, hx, ho⟩
      exact isFit_snoc.mpr ⟨(ih fit).mp hf, hx, ho⟩
    · intro h
      have hl := h.len
      obtain ⟨fit, i, rfl⟩ : ∃ fit i, g = fit ++ [i] := by
        rcases List.eq_nil_or_concat g with e | ⟨fit, i, e⟩
        · subst e
          simp at hl
        · exact ⟨fit, i, by rw [e]; simp⟩
      obtain ⟨h1, h2, h3⟩ := isFit_snoc.mp h
      exact ⟨fit, i, (ih fit).mpr h1, rfl, h2, h3⟩

/-! ### how many fits there are -/
def cnt (u v : List α) : Nat := (allFits u v).length

theorem cnt_nil (v : List α) : cnt ([] : List α) v = 1 := rfl

theorem growAll_nil (x : α) (found : List (List Nat)) : growAll ([] : List α) x found = [] := by
  unfold growAll nexts
  simp

theorem cnt_snoc_nil (u : List α) (x : α) : cnt (u ++ [x]) ([] : List α) = 0 := by
  unfold cnt
  rw [allFits_snoc, growAll_nil]
  rfl

def low (n : Nat) (g : List Nat) : Bool := g.all fun i => decide (i < n)

theorem filter_map_comm {β γ : Type} (f : β → γ) (p : γ → Bool) (l : List β) : (l.map f).filter p = (l.filter (p ∘ f)).map f := List.filter_map

theorem nexts_snoc (v : List α) (d x : α) (fit : List Nat) :
    nexts (v ++ [d]) x fit = nexts v x fit ++ (if d = x ∧ okAfter fit v.length = true then [v.length] else []) := by
  unfold nexts
  rw [List.length_append, List.length_singleton, List.range_succ, List.filter_append]
  congr 1
  · apply List.filter_congr
    intro i hi
    have hi' : i < v.length := List.mem_range.mp hi
    rw [snoc_get, if_pos hi']
  · rw [List.filter_cons, List.filter_nil]
    rw [snoc_get, if_neg (Nat.lt_irrefl _), if_pos rfl]
    by_cases e : d = x
    · subst e
      simp
    · simp [e]

theorem nexts_lt {v : List α} {x : α} {fit : List Nat} {i : Nat} (h : i ∈ nexts v x fit) : i < v.length := by
  unfold nexts at h
  exact List.mem_range.mp (List.mem_filter.mp h).1

theorem low_snoc (n : Nat) (fit : List Nat) (i : Nat) : low n (fit ++ [i]) = (low n fit && decide (i < n)) := by
  unfold low
  simp

theorem last_high {v : List α} {fit : List Nat} {g : List Nat} {x : α} (h : fit.getLast? = some g.length) : True := trivial

/-- the fits in v ++ [d] that lie in v are those in v, in the same order -/
theorem filter_low (v : List α) (d : α) : ∀ u : List α, (∀ g ∈ allFits u (v ++ [d]), low v.length g = true ∨ g.getLast? = some v.length) ∧ (allFits u (v ++ [d])).filter (low v.length) = allFits u v := by
  refine snoc_ind ⟨fun g hg => ?_, ?_⟩ fun u x ih => ?_
  · have : g = [] := by simpa [allFits, allFrom] using hg
    subst this
    exact .inl rfl
  · rfl
  · obtain ⟨ih1, ih2⟩ := ih
    refine ⟨fun g hg => ?_, ?_⟩
    · rw [allFits_snoc, mem_growAll] at hg
      obtain ⟨fit, i, hf, rfl, hx, ho⟩ := hg
      have hi : i < (v ++ [d]).length := (List.getElem?_eq_some_iff.mp hx).1
      simp at hi
      rcases ih1 fit hf with h | h
      · by_cases e : i < v.length
        · left
          rw [low_snoc, h, decide_eq_true e]
          rfl
        · right
          have : i = v.length := by omega
          simp [this]
      · rw [okAfter_iff] at ho
        have := ho _ h
        omega
    · rw [allFits_snoc, allFits_snoc, ← ih2]
      unfold growAll
      generalize allFits u (v ++ [d]) = L at ih1
      clear ih2
      induction L with
      | nil => rfl
      | cons fit L ihL =>
        have ih1' : ∀ g ∈ L, low v.length g = true ∨ g.getLast? = some v.length := fun g hg => ih1 g (List.mem_cons_of_mem _ hg)
        rw [List.flatMap_cons, List.filter_append, ihL ih1', List.filter_cons]
        have hsplit : ((nexts (v ++ [d]) x fit).map fun i => fit ++ [i]).filter (low v.length) = if low v.length fit = true then (nexts v x fit).map fun i => fit ++ [i] else [] := by
          rw [List.filter_map, nexts_snoc, List.filter_append]
          have h2 : ((if d = x ∧ okAfter fit v.length = true then [v.length] else []).filter (low v.length ∘ fun i => fit ++ [i])) = [] := by
            split
            · simp [low_snoc]
            · rfl
          rw [h2, List.append_nil]
          by_cases hl : low v.length fit = true
          · rw [if_pos hl]
            congr 1
            rw [List.filter_eq_self]
            intro i hi
            have := nexts_lt hi
            simp [low_snoc, hl, this]
          · rw [if_neg hl]
            have : (nexts v x fit).filter (low v.length ∘ fun i => fit ++ [i]) = [] := by
              rw [List.filter_eq_nil_iff]
              intro i hi
              simp [low_snoc, hl]
            rw [this]
            rfl
        rw [hsplit]
        by_cases hl : low v.length fit = true
        · rw [if_pos hl, if_pos hl, List.flatMap_cons]
        · rw [if_neg hl, if_neg hl, List.nil_append]

theorem sum_nexts (v : List α) (x : α) (found : List (List Nat)) : (growAll v x found).length = (found.map fun fit => (nexts v x fit).length).sum := by
  unfold growAll
  rw [List.length_flatMap]
  congr 1
  apply List.map_congr_left
  intro fit _
  rw [List.length_map]

/-- the one recurrence -/
theorem cnt_snoc_snoc (u : List α) (x : α) (v : List α) (d : α) : cnt (u ++ [x]) (v ++ [d]) = cnt (u ++ [x]) v + (if d = x then cnt u v else 0) := by
  unfold cnt
  rw [allFits_snoc, allFits_snoc, sum_nexts, sum_nexts]
  obtain ⟨h1, h2⟩ := filter_low v d u
  rw [← h2]
  generalize allFits u (v ++ [d]) = L at h1
  clear h2
  induction L with
  | nil => simp
  | cons fit L ih =>
    have h1' : ∀ g ∈ L, low v.length g = true ∨ g.getLast? = some v.length := fun g hg => h1 g (List.mem_cons_of_mem _ hg)
    rw [List.map_cons, List.sum_cons, ih h1', List.filter_cons, nexts_snoc, List.length_append]
    rcases h1 fit (List.mem_cons_self) with h | h
    · rw [if_pos h, List.map_cons, List.sum_cons, List.length_cons]
      have ho : okAfter fit v.length = true := by
        rw [okAfter_iff]
        intro l hl
        have hm : l ∈ fit := List.mem_of_getLast? hl
        unfold low at h
        have := (List.all_eq_true.mp h) l hm
        simpa using this
      by_cases e : d = x
      · simp [e, ho]
        omega
      · simp [e]
        try omega
    · have hn : ¬ low v.length fit = true := by
        intro hl
        have hm : v.length ∈ fit := List.mem_of_getLast? h
        unfold low at hl
        have := (List.all_eq_true.mp hl) _ hm
        simp at this
      have ho : okAfter fit v.length = false := by
        unfold okAfter
        rw [h]
        simp
      have h0 : nexts v x fit = [] := by
        unfold nexts
        rw [List.filter_eq_nil_iff]
        intro i hi
        have hi' := List.mem_range.mp hi
        have : okAfter fit i = false := by
          unfold okAfter
          rw [h]
          simp
          omega
        simp [this]
      rw [if_neg hn, h0, ho]
      simp

end Ka
/-! iter(t) of a tuple of texts, and x in it. -/
namespace Ka
open PySem PySem.Spec PyProof.Rows L2

theorem entry_ci : entryFor table "proto.contains_iter" = some Builtin.«proto.contains_iter» := entryFor_of_fast (by kernel_rfl)
theorem tu_nocontains : typeLookup (.type "tuple_iterator") "__contains__" = pure none := by rw [typeLookup_type, builtinLookup_eq_fast]; kernel_rfl

section
variable {prog : Program} {w : World} {A : Around} {E : Value → Shared → Prop} {s : Shared}

/-- what has become of the iterator: the text was found at j, or it is used up -/
def Went (it t : Addr) (zs : List Str) (z : Str) (i : Nat) (h h' : Heap) (b : Bool) : Prop :=
  (b = true ∧ ∃ j, i ≤ j ∧ zs[j]? = some z ∧ (∀ k, i ≤ k → k < j → zs[k]? ≠ some z) ∧ h'.IsTupleIter it t (j + 1) ∧ Heap.ExtBut it h h') ∨
  (b = false ∧ (∀ k, i ≤ k → zs[k]? ≠ some z) ∧ Heap.ExtBut it h h')

theorem ci_loop {it t : Addr} {items : Array Value} {zs : List Str} {z : Str} {tk : Tok} {R : Result → Shared → Prop} (hne : t ≠ it) (hh : A.handled = none)
    (hs : Vals (zs.map V.str) items.toList) : ∀ (n i : Nat) (s : Shared), zs.length - i = n → s.heap.IsTupleIter it t i → s.heap.IsTuple t items →
      (∀ h' b, Went it t zs z i s.heap h' b → R (.ok (.ret (.bool b))) { s with heap := h' }) → codeAny (model prog w) A (.builtin "proto.contains_iter" ⟨[.ref it, .str z tk], []⟩) R s := by
  intro n
  induction n with
  | zero =>
    intro i s hn hit ht q
    have hx : items[i]? = none := by
      have hl := hs.length
      simp only [List.length_map, Array.length_toList] at hl
      rw [Array.getElem?_eq_none_iff]
      omega
    refine codeAny_builtin entry_ci ?_
    show wpAny _ _ (pyNext (.ref it) >>= _) _ _ s
    refine wpAny_bind (wpAny_pyNext_tuple_end hh hit ht hx fun h' e => ?_)
    refine wpAny_bind (wpAny_rule (wpAny_pure ?_))
    exact q h' false (.inr ⟨rfl, fun k hk hz => by
      have := (List.getElem?_eq_some_iff.mp hz).1
      omega, e⟩)
  | succ n ih =>
    intro i s hn hit ht q
    have hi : i < zs.length := by omega
    have hz : (zs.map V.str)[i]? = some (.str zs[i]) := by
      rw [List.getElem?_map, List.getElem?_eq_getElem hi]
      rfl
    obtain ⟨u, hu, ru⟩ := hs.get hz
    obtain ⟨t1, rfl⟩ := ru
    have hx : items[i]? = some (.str zs[i] t1) := by rw [← Array.getElem?_toList]; exact hu
    refine codeAny_builtin entry_ci ?_
    show wpAny _ _ (pyNext (.ref it) >>= _) _ _ s
    refine wpAny_bind (wpAny_pyNext_tuple_item hit ht hx fun h' hit' sb => ?_)
    show wpAny _ _ (eqBool (.str zs[i] t1) (.str z tk) >>= _) _ _ _
    refine wpAny_bind (wpAny_eqBool_str ?_)
    by_cases e : zs[i] = z
    · rw [decide_eq_true e]
      refine wpAny_bind (wpAny_rule (wpAny_pure ?_))
      exact q h' true (.inl ⟨rfl, i, Nat.le_refl _, by rw [List.getElem?_eq_getElem hi, e], fun k h1 h2 => by omega, hit', sb.extBut⟩)
    · rw [decide_eq_false e]
      refine wpAny_pure ⟨Code.quiet_builtin _ (by decide +kernel), ?_⟩
      refine ih (i + 1) { s with heap := h' } (by omega) hit' (by
        obtain ⟨o, ho, r⟩ := ht
        exact ⟨o, (sb.2 t hne).trans ho, r⟩) fun h2 b g => ?_
      refine q h2 b ?_
      have lift : ∀ k, i ≤ k → k ≠ i → i + 1 ≤ k := fun k h1 h2 => by omega
      have hzi : zs[i]? ≠ some z := by
        rw [List.getElem?_eq_getElem hi]
        exact fun w => e (Option.some.inj w)
      rcases g with ⟨rfl, j, h1, h3, h4, h5, h6⟩ | ⟨rfl, h1, h3⟩
      · refine .inl ⟨rfl, j, by omega, h3, fun k a c => ?_, h5, sb.extBut.trans h6⟩
        by_cases ek : k = i
        · rw [ek]; exact hzi
        · exact h4 k (lift k a ek) c
      · refine .inr ⟨rfl, fun k a => ?_, sb.extBut.trans h3⟩
        by_cases ek : k = i
        · rw [ek]; exact hzi
        · exact h1 k (lift k a ek)

theorem contains_ti {it t : Addr} {items : Array Value} {zs : List Str} {z : Str} {tk : Tok} {i : Nat} {Q : Bool → Shared → Prop} (hne : t ≠ it) (hh : A.handled = none)
    (hs : Vals (zs.map V.str) items.toList) (hit : s.heap.IsTupleIter it t i) (ht : s.heap.IsTuple t items)
    (q : ∀ h' b, Went it t zs z i s.heap h' b → Q b { s with heap := h' }) : wpAny (model prog w) A (contains (.ref it) (.str z tk)) Q E s := by
  unfold contains
  refine wpAny_holding ?_
  show wpAny _ _ (specialOf (.ref it) "__contains__" >>= _) _ _ s
  refine wpAny_bind (wpAny_specialOf hit.typeIs tu_nocontains ?_)
  refine wpAny_ite_split (fun hab => absurd hab (by decide)) (fun _ => ?_)
  refine wpAny_bind (wpAny_callSpecialUnlessNone?_none hit.typeIs tu_nocontains ?_)
  refine wpAny_bind (wpAny_rule ?_)
  refine wpAny_bind (wpAny_tryCatch (wpAny_mono (wpAny_pyIter_tupleiter (E := fun _ _ => False) hit (Q := fun v s' => v = .ref it ∧ s' = s) ⟨rfl, rfl⟩) (fun v s' hv => ?_) fun _ _ x => x.elim))
  obtain ⟨rfl, rfl⟩ := hv
  refine wpAny_bind (wpAny_runValue (ci_loop hne hh hs _ i _ rfl hit ht fun h' b g => ?_))
  exact wpAny_pure (q h' b g)

theorem call_iter_tuple {t : Addr} {items : Array Value} {Q : Value → Shared → Prop} (ht : s.heap.IsTuple t items)
    (h : Q (.ref s.heap.objs.size) { s with heap := s.heap.push { cls := .type "tuple_iterator", data := .fields #[.ref t, .int 0 0] } }) : wpAny (model prog w) A (call (.builtin "iter") [.ref t]) Q E s := by
  refine Calls.call_function_entry (by decide +kernel) (by decide +kernel) PySem.W.kdk_entry_iter (PySem.W.kdk_args_iter _) ?_
  unfold Builtin.«iter»
  refine wpAny_bind (m := someArgs "iter" 1 2 _) (wpAny_of_eq (a := [Value.ref t]) (by first | rfl | kernel_rfl!) ?_)
  show wpAny _ _ (pyIter (.ref t) >>= _) _ _ _
  refine wpAny_bind (wpAny_pyIter_tuple ht ?_)
  exact wpAny_pure ⟨_, rfl, h⟩
end

/-- at it an iterator over the tuple at t, the next place is i -/
def TupI (t it : Addr) (i : Nat) : HO := .ext fun h => h.IsTupleIter it t i
section
variable {X : Cx}
theorem ti_ok {P : Program} {w : World} {H : Hp} {h : Heap} {t it : Addr} {i : Nat} (e : h.IsTupleIter it t i) : ObjOk P w H h it (TupI t it i) :=
  ⟨e, let ⟨o, ho, _⟩ := e; ⟨o, ho⟩, fun h1 h2 q k => let ⟨o, ho, r⟩ := q; ⟨o, k _ ho, r⟩⟩

def rIterT (K : PySem.W.Frag) (n : Nat) : List V → Hp → VK → Prop := fun xs H Q => ∃ (t : Addr) (zs : List V), xs = [.ref t] ∧ SqT K H t zs ∧ ∀ it, H it = none → n ≤ it → Q (.ref it) (upd H it (TupI t it 0))
theorem call_iterT : CallR X (.builtin "iter") (rIterT X.K X.s_0.heap.objs.size) := by
  intro pins s σ H xs us Q I r h
  obtain ⟨l, zs, rfl, hq, q⟩ := h
  obtain rfl := Vals.ref1 r
  obtain ⟨its, rv, pl, hz⟩ := I.tuple hq
  refine call_iter_tuple pl ?_
  exact ⟨.ref s.heap.objs.size, _, I.laid (t' := s.toks) (fun b u e => Heap.get?_push_of_some _ e) (Nat.le_refl _) (ti_ok ⟨_, Heap.get?_push_size _ rfl, rfl, rfl⟩), rfl, q _ (I.hok.fresh (Nat.le_refl _)) I.sz⟩

/-- x in it; where it is used up, it is forgotten -/
def rInTI (K : PySem.W.Frag) (n : Nat) : R2 := fun x y H Q => ∃ (z : Str) (it t : Addr) (zs : List Str) (i : Nat), x = .str z ∧ y = .ref it ∧ n ≤ it ∧ H it = some (TupI t it i) ∧ SqT K H t (zs.map V.str) ∧
  ((∃ j, i ≤ j ∧ zs[j]? = some z ∧ (∀ k, i ≤ k → k < j → zs[k]? ≠ some z) ∧ Q (.bl true) (upd H it (TupI t it (j + 1)))) ∨ ((∀ k, i ≤ k → zs[k]? ≠ some z) ∧ Q (.bl false) (ItX.dropH H it)))
theorem op_inTI (hc : X.calm = true) : OpR X (compareOp .In) (rInTI X.K X.s_0.heap.objs.size) := by
  intro pins s σ H x y v u Q I rx ry h
  obtain ⟨z, it, t, zs, i, rfl, rfl, hn, hit, hq, q⟩ := h
  obtain ⟨tk, rfl⟩ := rx
  cases ry
  obtain ⟨its, rv, pl, hz⟩ := I.tuple hq
  have hI : s.heap.IsTupleIter it t i := (I.hok it _ hit).1
  have hne : t ≠ it := by
    intro e
    subst e
    obtain ⟨o, ho, hc, _⟩ := hI
    obtain ⟨o', ho', hc', _⟩ := pl
    rw [ho] at ho'
    cases ho'
    rw [hc] at hc'
    revert hc'
    simp
  have mu : Mut (H it) := by rw [hit]; exact True.intro
  show wpAny _ _ (contains (.ref it) (.str z tk) >>= fun b => pure (Value.bool b)) _ _ s
  refine wpAny_bind (contains_ti hne (I.ok.hd hc) (by simpa using rv) hI pl fun h' b g => wpAny_pure ?_)
  rcases g with ⟨rfl, j, h1, h3, h4, h5, h6⟩ | ⟨rfl, h1, h3⟩
  · rcases q with ⟨j', a1, a3, a4, q⟩ | ⟨a1, _⟩
    · have e : j' = j := by
        rcases Nat.lt_trichotomy j j' with l | l | l
        · exact absurd h3 (a4 j h1 l)
        · exact l.symm
        · exact absurd a3 (h4 j' a1 l)
      subst e
      exact ⟨.bl true, _, I.write (x := it) (e := it) (t' := s.toks) mu (.inl rfl) (fun b o nb e => h6 b o nb e) (let ⟨o, ho, _⟩ := h5; ⟨o, ho⟩) (ti_ok h5), rfl, q⟩
    · exact absurd h3 (a1 j h1)
  · rcases q with ⟨j', a1, a3, a4, q⟩ | ⟨a1, q⟩
    · exact absurd a3 (h1 j' a1)
    · have I2 := ItX.inv_drop I hit
      obtain ⟨f0, f1, f2, f3, f4, f5⟩ := ItX.inv_fp I hit hn
      exact ⟨.bl false, _, I2.turned (t' := s.toks) (fun b o nb e => h3 b o nb e) f0 f1 f3 f4 f5, rfl, q⟩
end
end Ka
/-! enumerate(t) of a tuple; xs[i] op= e of a list. -/
namespace Ka
open PySem PySem.Spec PyProof.Rows L2
open AutoSeq1 (wpAny_loadPart')

theorem meets_enumerate_newT (l : Addr) (items : Array Value) (o : Obj) (ho : o.cls = .type "tuple") (hd : ∃ n, o.data = .seq items n) :
    Meets (Builtin.«enumerate.__new__» ⟨[.type "enumerate", .ref l], []⟩) (fun _ R s => s.heap.get? l = some o ∧
      R (.ok (.ret (.ref (s.heap.push { cls := .type "tuple_iterator", data := .fields #[.ref l, .int 0 0] }).objs.size)))
        { s with heap := (s.heap.push { cls := .type "tuple_iterator", data := .fields #[.ref l, .int 0 0] }).push { cls := .type "enumerate", data := .fields #[.none, .bool false, .ref s.heap.objs.size, rawInt 0, .none, .none] } }) :=
  .of_wp fun prog w A R s h => by
    obtain ⟨hp, g, d, tk, os⟩ := s; obtain ⟨hl, h⟩ := h
    obtain ⟨c, dct, dt, sl⟩ := o
    obtain ⟨n, hd⟩ := hd
    replace ho : c = .type "tuple" := ho
    replace hd : dt = .seq items n := hd
    subst ho hd
    have hsub := sub_enumerate
    have hL : Heap.IsTuple (Shared.heap ⟨hp, g, d, tk, os⟩) l items := ⟨_, hl, rfl, n, rfl⟩
    wp_walk using wpAny_loadPart' hl
    refine wpAny_stack_any fun st => wpAny_pure ?_
    split
    · rename_i c _ _ _ _ _
      cases (c == Value.type "enumerate")
      · wp_walk using wpAny_loadPart' hl, wpAny_pyIter_tuple hL
        exact ⟨_, rfl, h⟩
      · wp_walk using wpAny_loadPart' hl, wpAny_pyIter_tuple hL
        exact ⟨_, rfl, h⟩
    · wp_walk using wpAny_loadPart' hl, wpAny_pyIter_tuple hL
      exact ⟨_, rfl, h⟩

section
variable {prog : Program} {w : World} {A : Around} {E : Value → Shared → Prop} {s : Shared}
theorem call_enumerate_tuple {l : Addr} {items : Array Value} {Q : Value → Shared → Prop} (hL : s.heap.IsTuple l items)
    (h : ∀ h', IsEnum h' (s.heap.objs.size + 1) s.heap.objs.size 0 .none → h'.IsTupleIter s.heap.objs.size l 0 → h'.objs.size = s.heap.objs.size + 2 →
      (∀ b o, s.heap.get? b = some o → h'.get? b = some o) → Q (.ref (s.heap.objs.size + 1)) { s with heap := h' }) :
    wpAny (model prog w) A (call (.type "enumerate") [.ref l]) Q E s := by
  obtain ⟨o, hl, hc, hd⟩ := hL
  refine callType_new F.called_enumerate (by decide) (F.typeCall_enumerate_1 _) (F.newCall_enumerate_1 _) (fun obj => F.args_object_init_2 obj _) F.entry_enumerate_new
    (meets_enumerate_newT l items o hc hd) ⟨hl, ?_⟩
  have hz : (s.heap.push { cls := .type "tuple_iterator", data := .fields #[.ref l, .int 0 0] }).objs.size = s.heap.objs.size + 1 := Heap.size_push ..
  show _ ∧ _
  rw [hz]
  have he : IsEnum ((s.heap.push { cls := .type "tuple_iterator", data := .fields #[.ref l, .int 0 0] }).push
      { cls := .type "enumerate", data := .fields #[.none, .bool false, .ref s.heap.objs.size, rawInt 0, .none, .none] }) (s.heap.objs.size + 1) s.heap.objs.size 0 .none := by
    have := Heap.get?_push_size (s.heap.push { cls := .type "tuple_iterator", data := .fields #[.ref l, .int 0 0] })
      (o := { cls := .type "enumerate", data := .fields #[.none, .bool false, .ref s.heap.objs.size, rawInt 0, .none, .none] }) rfl
    rw [hz] at this; exact this
  refine ⟨⟨_, he, rfl⟩, h _ he ⟨_, Heap.get?_push_of_some _ (Heap.get?_push_size _ rfl), rfl, rfl⟩ (by rw [Heap.size_push, hz]) fun b o x => Heap.get?_push_of_some _ (Heap.get?_push_of_some _ x)⟩
end

/-- the tuple at a, each item in a new pair -/
def Iet (K : PySem.W.Frag) (a : Addr) : It :=
  ⟨fun i H => ∃ (xs : List V) (x : V), SqT K H a xs ∧ xs[i]? = some x, fun i H v H' => ∃ T x, v = .ref T ∧ H T = none ∧ H' = upd H T (.tup [.int (i : Nat), x]) ∧ ∀ xs, SqT K H a xs → xs[i]? = some x, fun i H => ∃ xs : List V, SqT K H a xs ∧ xs.length ≤ i⟩
theorem turn_enumT {P : Program} {w : World} {K : PySem.W.Frag} {elts : List Expr} {kk : Nat} {tpos : Pos} (a e it : Addr) (hae : a ≠ e) (hai : a ≠ it) (len : Nat) :
    Turn P w K (.Tuple elts kk tpos) (Iet K a) [e, it] e (fun i h => (∃ old, IsEnum h e it ((i : Nat) : Int) old) ∧ h.IsTupleIter it a i ∧ e ≠ it) where
  mem := by simp
  obj := fun i h st b hb => by
    obtain ⟨⟨old, he⟩, ⟨o, ho, hc, hd⟩, _⟩ := st
    have e' : b = e ∨ b = it := by simpa using hb
    rcases e' with z | z
    · rw [z]; exact ⟨_, he, fun v q => nomatch q⟩
    · rw [z]; exact ⟨o, ho, fun v q => by rw [hd] at q; cases q⟩
  keep := fun i h h' st k => let ⟨⟨old, he⟩, hi, hne⟩ := st; ⟨⟨old, k e (by simp) _ he⟩, hi.at fun o q => k it (by simp) o q, hne⟩
  item := by
    intro X hP hw hK hc i pins s σ H E I hf st hg
    subst hP hw hK
    obtain ⟨⟨old, he⟩, hit, hne⟩ := st
    obtain ⟨xs, x, hq, hx⟩ := hg
    obtain ⟨its, rv, p, hz⟩ := I.tuple hq
    obtain ⟨u, hu, ru⟩ := rv.get hx
    have hel : e < s.heap.objs.size := Heap.lt_size he
    have hil : it < s.heap.objs.size := by obtain ⟨_, q, _⟩ := hit; exact Heap.lt_size q
    have hit0 : i < its.toArray.size := by
      have := (List.getElem?_eq_some_iff.mp hu).1
      simpa using this
    refine wpAny_pyNext_enum_itemD (Draws.tuple (A := X.A.in1) (by first | exact I.ok.hd hc | (show X.A.handled = none; exact I.ok.hd hc)) it a hai its.toArray) he ⟨hit, p⟩ hit0 hne (by simp [hne, Ne.symm hae]) fun x' h' tk hx' ho hst hT hsz hk => ?_
    have ex : x' = u := by
      have h2 : its.toArray[i]? = some u := by simpa using hu
      rw [h2] at hx'
      exact (Option.some.inj hx').symm
    subst ex
    refine ⟨_, rfl, wpAny_letOwnedTupleGo_enum (s := { s with heap := h', toks := tk + 1 }) ho fun h'' he' sb => ?_⟩
    have hT2 : h''.get? s.heap.objs.size = some { cls := .type "tuple", data := .seq #[.int i tk, x'] } := (sb.2 _ (Nat.ne_of_gt hel)).trans hT
    have new : ObjOk X.prog X.w (upd H s.heap.objs.size (.tup [.int (i : Nat), x])) h'' s.heap.objs.size (.tup [.int (i : Nat), x]) :=
      ⟨by show 2 ≤ sizeLine; decide, [.int i tk, x'], .cons ⟨_, rfl⟩ (.cons ru .nil), ⟨_, hT2, rfl, _, rfl⟩⟩
    have I1 : Inv X pins σ (upd H s.heap.objs.size (.tup [.int (i : Nat), x])) { s with heap := h'', toks := tk + 1 } :=
      I.turnedNew (ch := [e, it]) (fun b ob hb q => (sb.2 b (fun z => hb (by simp [z]))).trans (hk b ob (fun z => hb (by simp [z])) (fun z => hb (by simp [z])) q)) hf (Nat.le_refl _) new
    refine ⟨.ref s.heap.objs.size, _, I1, rfl, ⟨_, x, rfl, I.hok.fresh (Nat.le_refl _), rfl, fun ys hy => by rw [I.tuple_inj hy hq]; exact hx⟩, ⟨⟨x', ?_⟩, hst.1.at fun o q => (sb.2 it (Ne.symm hne)).trans q, hne⟩, fun b hb => ?_⟩
    · have e1 : ((i + 1 : Nat) : Int) = (i : Int) + 1 := by omega
      rw [e1]; exact he'
    · have hb' : b < s.heap.objs.size := by
        have e' : b = e ∨ b = it := by simpa using hb
        rcases e' with z | z
        · rw [z]; exact hel
        · rw [z]; exact hil
      rw [upd_ne (Nat.ne_of_lt hb')]
      exact (hf b hb).1
  done := by
    intro X hP hw hK hc i pins s σ H E I hf st hg
    subst hP hw hK
    obtain ⟨⟨old, he⟩, hit, hne⟩ := st
    obtain ⟨xs, hq, hx⟩ := hg
    obtain ⟨its, rv, p, hz⟩ := I.tuple hq
    obtain ⟨f0, f1, f2, f3, f4, f5⟩ := hf it (by simp)
    have hl := rv.length
    have hT : s.TypeIs (.ref e) "enumerate" := ⟨_, he, rfl⟩
    unfold pyNext
    refine wpAny_bind (wpAny_attempt (wpAny_callSpecial?_slot (name := Str.ofString "__next__") hT F.slot_enumerate_next
      (wpAny_call_entry F.slot_enumerate_next hT F.entry_enumerate_next ?_ (F.args_enumerate_next_1 _))))
    show wpAny _ _ (field (.ref e) 2 >>= _) _ _ _
    refine wpAny_bind (wpAny_field he rfl (x := .ref it) rfl ?_)
    refine wpAny_bind (wpAny_nextOf_tuple_end (by first | exact I.ok.hd hc | (show X.A.handled = none; exact I.ok.hd hc)) hit p (by rw [Array.getElem?_eq_none_iff]; simp; omega) fun h' x he' hx' => ?_)
    obtain ⟨o, ho, hc'⟩ := hx'
    refine wpAny_bind (wpAny_isInstance (T := "StopIteration") (b := true) ⟨o, ho, hc'⟩ isSubtype_stop ?_)
    exact wpAny_pure ⟨rfl, I.turned (t' := s.toks) (fun b o hb q => he' b o hb q) f0 f1 f3 f4 f5⟩
  self := fun A i s Q E st h => let ⟨⟨_, he⟩, _⟩ := st; wpAny_pyIter_enum he h
def iEnumT (K : PySem.W.Frag) (ta : TA) : TI := fun σ H R => ta σ H fun vs H1 => ∃ a xs, vs = [.ref a] ∧ SqT K H1 a xs ∧ R (Iet K a) H1
theorem pi_enumT {X : Cx} {e : Expr} {ta : TA} {p pos tpos : Pos} {elts : List Expr} {kk : Nat} (hg : Gl X "enumerate") (hm : X.mg "enumerate" = none) (ha : PA X [e] ta) (hs : starEach [e] X.env = [(false, eval e X.env)] := by rfl) :
    PI X (.Tuple elts kk tpos) (.Call (.Name "enumerate" p) [e] [] pos) (iEnumT X.K ta) := by
  refine ⟨fun pins s σ H R I h => ?_⟩
  refine Call_ (ld_blt I hg hm boot_enumerate (PyProof.Rows.callWith_type1 (thn (ha.run pos pins s σ H _ I h) fun us s1 ⟨vs, H1, I1, r1, q1⟩ => ?_) hs rfl))
  obtain ⟨a, xs, ex, hq, q⟩ := q1
  subst ex
  cases r1 with
  | cons r rr =>
    cases rr
    cases r
    obtain ⟨its, rv, p', hz⟩ := I1.tuple hq
    have hal : a < s1.heap.objs.size := by obtain ⟨_, z, _⟩ := p'; exact Heap.lt_size z
    refine call_enumerate_tuple p' fun h' he hit hsz hk => wpAny_pyIter_enum he ?_
    have I2 : Inv X pins σ H1 { s1 with heap := h' } := I1.kept (t' := s1.toks) hk
    refine ⟨s1.heap.objs.size + 1, [s1.heap.objs.size + 1, s1.heap.objs.size], _, _, H1, rfl, I2, turn_enumT a (s1.heap.objs.size + 1) s1.heap.objs.size (Nat.ne_of_lt (Nat.lt_succ_of_lt hal)) (Nat.ne_of_lt hal) 0, ⟨⟨.none, he⟩, hit, Nat.succ_ne_self _⟩, fun b hb => ?_, q⟩
    have e' : b = s1.heap.objs.size + 1 ∨ b = s1.heap.objs.size := by simpa using hb
    have hle : s1.heap.objs.size ≤ b := by
      rcases e' with z | z
      · rw [z]; exact Nat.le_add_right _ _
      · rw [z]; exact Nat.le_refl _
    exact I1.fpOk hle (I1.hok.fresh hle)

/-- a loop over enumerate(t), by one word a turn -/
theorem for_enumT {K : PySem.W.Frag} {a : Addr} {xs : List V} {g : TG} {tb : TS} {D : Ends} {σ : L2.St} {H : Hp} (Pv : Nat → L2.St → Hp → Prop) (h0 : Pv 0 σ H) (hl : ∀ i σ H, Pv i σ H → SqT K H a xs)
    (hs : ∀ i x T σ H, xs[i]? = some x → Pv i σ H → H T = none → g (.ref T) σ (upd H T (.tup [.int (i : Nat), x])) fun σ2 H2 => tb { D with nx := Pv (i + 1), ct := Pv (i + 1), bk := D.nx } σ2 H2)
    (hd : ∀ σ H, Pv xs.length σ H → D.nx σ H) :
    ∃ W : Nat → Nat → L2.St → Hp → Prop, (∃ m, W 0 m σ H) ∧ ∀ i m σ H, W i m σ H →
      ((Iet K a).stop i H ∧ D.nx σ H) ∨ ((Iet K a).go i H ∧ ∃ N : L2.St → Hp → Prop, (∀ σ' H', N σ' H' → ∃ m', m' < m ∧ W (i + 1) m' σ' H') ∧ ∀ x H', (Iet K a).yld i H x H' → g x σ H' fun σ2 H2 => tb { D with nx := N, ct := N, bk := D.nx } σ2 H2) := by
  refine ⟨fun i m σ H => m = xs.length - i ∧ i ≤ xs.length ∧ Pv i σ H, ⟨_, rfl, Nat.zero_le _, h0⟩, ?_⟩
  rintro i m σ H ⟨rfl, hi, p⟩
  have q := hl i σ H p
  by_cases hlt : i < xs.length
  · refine .inr ⟨⟨xs, xs[i], q, List.getElem?_eq_getElem hlt⟩, Pv (i + 1), fun σ' H' p' => ⟨xs.length - (i + 1), by omega, rfl, hlt, p'⟩, fun x H' y => ?_⟩
    obtain ⟨T, z, rfl, nT, rfl, hz⟩ := y
    exact hs i z T σ H (hz xs q) p nT
  · have e : i = xs.length := by omega
    refine .inl ⟨⟨xs, q, Nat.le_of_eq e.symm⟩, hd σ H ?_⟩
    rw [← e]
    exact p

/-! ### xs[i] op= e -/
def gtL (K : PySem.W.Frag) : V → V → Hp → VK → Prop := fun x y H Q => ∃ p xs j v, x = .ref p ∧ y = .int ((j : Nat) : Int) ∧ SqL K H p xs ∧ j < 2 ^ 62 ∧ xs[j]? = some v ∧ Q v H
theorem get_list {X : Cx} : PGet X (gtL X.K) := by
  intro pins s σ H o i ov iv Q I ro ri h
  obtain ⟨p, xs, j, v, rfl, rfl, hq, hj, hv, q⟩ := h
  cases ro
  obtain ⟨t, rfl⟩ := ri
  obtain ⟨its, r, pl, hz⟩ := I.list hq
  obtain ⟨u, hu, ru⟩ := r.get hv
  exact wpAny_getItem_list pl.isList (by omega) (by omega) (by simpa using hu) ⟨v, H, I, ru, q⟩
end Ka
/-! t[::-1] of a tuple. -/
namespace Ka
open PySem PySem.Spec PyProof.Rows L2 HT

theorem back_places (n : Nat) : Builtin.Slice.slicePlaces ((n : Int) - 1) (-1) (-1) = n := by
  unfold Builtin.Slice.slicePlaces
  rw [if_neg (by decide)]
  by_cases h : n = 0
  · subst h
    rfl
  · rw [if_pos (by omega)]
    have e : ((n : Int) - 1 - -1 - 1) / (- -1) + 1 = n := by
      rw [show (-(-1 : Int)) = 1 by decide, Int.ediv_one]
      omega
    rw [e]
    exact Int.toNat_natCast n

theorem back_some (xs : Array Value) (f : Nat → Option Value) (hf : ∀ k, k < xs.size → f k = xs.toList.reverse[k]?) : ∀ l : List Nat, (∀ k ∈ l, k < xs.size) → l.filterMap f = l.map fun k => xs.toList.reverse[k]?.getD .none
  | [], _ => rfl
  | k :: l, h => by
    have hk : k < xs.size := h k List.mem_cons_self
    have h2 : k < xs.toList.reverse.length := by simpa using hk
    rw [List.filterMap_cons, hf k hk, List.map_cons, back_some xs f hf l fun j hj => h j (List.mem_cons_of_mem _ hj), List.getElem?_eq_getElem h2]
    rfl
theorem back_items (xs : Array Value) : ((List.range xs.size).filterMap fun (k : Nat) => xs[((xs.size : Int) - 1 + (k : Int) * -1).toNat]?) = xs.toList.reverse := by
  rw [back_some xs _ (fun k hk => ?_) _ fun k hk => List.mem_range.mp hk]
  · apply List.ext_getElem?
    intro i
    rw [List.getElem?_map]
    by_cases hi : i < xs.size
    · have h2 : i < xs.toList.reverse.length := by simpa using hi
      rw [List.getElem?_range hi, Option.map_some, List.getElem?_eq_getElem h2]
      rfl
    · rw [List.getElem?_eq_none (by simpa using hi), List.getElem?_eq_none (by simpa using hi)]
      rfl
  · have e : ((xs.size : Int) - 1 + (k : Int) * -1).toNat = xs.size - 1 - k := by omega
    rw [e, List.getElem?_reverse (by simpa using hk), Array.length_toList, Array.getElem?_toList]

section
variable {prog : Program} {w : World} {A : Around} {E : Value → Shared → Prop} {s : Shared}
theorem applied_back {sl : Addr} {vl vu vs : Value} {n : Nat} {Q : Int × Int × Nat → Shared → Prop} (hs : s.heap.IsSliceOf sl vl vu vs) (pl : IsPart vl none) (pu : IsPart vu none) (ps : IsPart vs (some (-1)))
    (h : Q ((n : Int) - 1, -1, n) s) : wpAny (model prog w) A (Builtin.Slice.sliceApplied (.ref sl) (pure (n : Int))) Q E s := by
  obtain ⟨o, ho, _, hd⟩ := hs
  unfold Builtin.Slice.sliceApplied Builtin.Slice.sliceFields
  refine wpAny_bind (wpAny_bind (wpAny_field ho hd (x := vl) rfl (wpAny_bind (wpAny_field ho hd (x := vu) rfl (wpAny_bind (wpAny_field ho hd (x := vs) rfl (wpAny_pure ?_)))))))
  refine wpAny_bind (slicePart_ ps ?_)
  refine wpAny_ite_split (fun z => absurd z (by decide)) fun _ => ?_
  refine wpAny_bind (slicePart_ pl (wpAny_bind (slicePart_ pu (wpAny_bind (wpAny_pure (wpAny_pure ?_))))))
  have e : Builtin.Slice.slicePlaces ((n : Int) - 1) (-1) (-1) = n := back_places n
  show Q ((n : Int) - 1, -1, Builtin.Slice.slicePlaces ((n : Int) - 1) (-1) (-1)) s
  rw [e]
  exact h

theorem getItem_back {t sl : Addr} {items : Array Value} {vl vu vs : Value} {Q : Value → Shared → Prop} (ht : IsTup s.heap t items) (hs : s.heap.IsSliceOf sl vl vu vs) (pl : IsPart vl none) (pu : IsPart vu none) (ps : IsPart vs (some (-1)))
    (hz : items.size ≤ sizeLine) (h : Q (.ref s.heap.objs.size) { s with heap := s.heap.push { cls := .type "tuple", data := .seq items.toList.reverse.toArray } }) : wpAny (model prog w) A (getItem (.ref t) (.ref sl)) Q E s := by
  have hT : s.TypeIs (.ref sl) "slice" := let ⟨o, ho, hc, _⟩ := hs; ⟨o, ho, hc⟩
  have hok : sizeOk (.seq items.toList.reverse.toArray) := by
    show items.toList.reverse.toArray.size ≤ sizeLine
    simpa using hz
  unfold getItem
  try with_reducible refine wpAny_holding ?_
  first | refine wpAny_bind (wpAny_pure ?_) | skip
  refine wpAny_bind (wpAny_sequenceKey ht.typeIs (by decide) ?_)
  refine wpAny_bind (wpAny_callSpecial?_slot (name := Str.ofString "__getitem__") ht.typeIs PyProof.Rows.slot_tuple_getitem
    (wpAny_call_entry PyProof.Rows.slot_tuple_getitem ht.typeIs entry_tuple_getitem ?_ (args_tuple_getitem _ _)))
  show wpAny _ _ (Builtin.Tuple.tupleItemsOf (.ref t) >>= _) _ _ s
  refine wpAny_bind (tupleItemsOf_ ht (wpAny_bind (wpAny_typeOf hT ?_)))
  rw [if_pos (by decide)]
  refine wpAny_bind (applied_back hs pl pu ps ?_)
  refine wpAny_ite_split (fun z => ?_) fun _ => ?_
  · exfalso
    simp at z
  · rw [back_items]
    first
      | exact wpAny_bind (m := Builtin.Tuple.tupleExact _) (wpAny_newObj_type (wpAny_pure ⟨_, rfl, wpAny_pure h⟩) hok)
      | exact wpAny_bind (m := Builtin.Tuple.tupleExact _) (wpAny_newObj_type (wpAny_bind (wpAny_pure (wpAny_pure ⟨_, rfl, wpAny_pure h⟩))) hok)
      | exact wpAny_bind (wpAny_bind (m := Builtin.Tuple.tupleExact _) (wpAny_newObj_type (wpAny_pure (wpAny_pure ⟨_, rfl, wpAny_pure h⟩)) hok))
      | exact wpAny_bind (wpAny_bind (m := Builtin.Tuple.tupleExact _) (wpAny_newObj_type (wpAny_pure ⟨_, rfl, wpAny_pure h⟩) hok))
end

def tRevT (K : PySem.W.Frag) (te : TE) : TE := fun σ H Q => te σ H fun x H1 => ∃ a xs, x = .ref a ∧ SqT K H1 a xs ∧ ∀ p, H1 p = none → Q (.ref p) (upd H1 p (.tup xs.reverse))
theorem pe_revT {X : Cx} {e : Expr} {te : TE} {k : Nat} {p1 p2 p3 pos : Pos} (he : PE X e te) : PE X (.Subscript e (.Slice none none (some (.UnaryOp .USub (.Constant (.int 1) k p1) p2)) p3) pos) (tRevT X.K te) := by
  refine ⟨fun pins s σ H Q I h => Subscript_ (thn (he.run pins s σ H _ I h) fun v s1 ⟨x, H1, I1, r1, a, xs, ex, hx, q⟩ => ?_)⟩
  subst ex
  cases r1
  have hm : PO X (some (.UnaryOp .USub (.Constant (.int 1) k p1) p2)) (tPart (tUn (rU fun i => .int (-i)) (tC (.int 1)))) := po_some (pe_un un_neg pe_int)
  refine wpAny_Slice (thn (po_none.run pins s1 σ H1 (fun o H2 => o = none ∧ H2 = H1) I1 ⟨rfl, rfl⟩) fun vl s2 ⟨l, H2, I2, pl, el, e2⟩ => ?_)
  subst el e2
  refine thn (po_none.run pins s2 σ H2 (fun o H3 => o = none ∧ H3 = H2) I2 ⟨rfl, rfl⟩) fun vu s3 ⟨u, H3, I3, pu, eu, e3⟩ => ?_
  subst eu e3
  refine thn (hm.run pins s3 σ H3 (fun o H4 => o = some (-1) ∧ H4 = H3) I3 ⟨1, rfl, -1, rfl, rfl, rfl⟩) fun vs s4 ⟨o, H4, I4, ps, eo, e4⟩ => ?_
  subst eo e4
  have I5 : Inv X pins σ H4 { s4 with heap := s4.heap.push { cls := .type "slice", data := .fields #[vl, vu, vs] } } := I4.kept (t' := s4.toks) fun b ob z => Heap.get?_push_of_some _ z
  obtain ⟨its, r, ht, hz⟩ := I5.tuple hx
  have hl := r.length
  show wpAny (model X.prog X.w) X.A (subscriptTail e (.Slice none none (some (.UnaryOp .USub (.Constant (.int 1) k p1) p2)) p3) (.ref a) (.ref s4.heap.objs.size)) (EP X pins σ Q) X.xe { s4 with heap := s4.heap.push { cls := .type "slice", data := .fields #[vl, vu, vs] } }
  refine tail_any (ops := [.ref a, .ref s4.heap.objs.size]) ht.typeIs PyProof.Rows.slot_tuple_getitem.lookup ?_ (by with_unfolding_all rfl)
  refine getItem_back ht (Heap.IsSliceOf.new _ vl vu vs) pl pu ps (by rw [List.size_toArray]; omega) ?_
  refine ⟨.ref _, _, I5.laid (t' := s4.toks) (o := .tup xs.reverse) (fun b ob z => Heap.get?_push_of_some _ z) (Nat.le_refl _) ?_, rfl, q _ (I5.hok.fresh (Nat.le_refl _))⟩
  exact ⟨by rw [List.length_reverse]; exact hz, _, r.reverse, IsTup.new _ _⟩
end Ka
/-! sorted(rows, key=f), f(row) = (len(row), row), rows of texts. -/
namespace Ka
open PySem PySem.Spec PyProof.Rows L2 PySem.W

/-- a row of texts as data, and its key -/
def rowD (r : List Str) : PyData := .tuple (r.map .str)
def keyOf (r : List Str) : PyData := .tuple [.int r.length, rowD r]
/-- the order of rows -/
def rowLe : List Str → List Str → Bool := dataLe false keyOf

theorem reads_strs {h : Heap} : ∀ {zs : List Str} {us : List Value}, Vals (zs.map V.str) us → ReadsAll h us (zs.map .str) []
  | [], [], _ => .nil
  | z :: zs, u :: us, r => by
    cases r with
    | cons a b =>
      obtain ⟨t, rfl⟩ := a
      exact ReadsAll.cons (as := []) (bs := []) (.str z t) (reads_strs b)
  | [], _ :: _, r => nomatch r
  | _ :: _, [], r => nomatch r

theorem alike_strs : ∀ (a b : List Str), alikeAll (a.map PyData.str) (b.map PyData.str) = true
  | [], _ => by simp [alikeAll]
  | _ :: _, [] => by simp [alikeAll]
  | x :: a, y :: b => by
    rw [List.map_cons, List.map_cons, alikeAll, alike_strs a b]
    simp [alike]
theorem alike_keys (a b : List Str) : alike (keyOf a) (keyOf b) = true := by
  unfold keyOf rowD
  simp [alike, alikeAll, alike_strs]
theorem depth_strs : ∀ a : List Str, PyData.depthAll (a.map PyData.str) ≤ 1
  | [] => by simp [PyData.depthAll]
  | x :: a => by
    have := depth_strs a
    rw [List.map_cons]
    simp only [PyData.depthAll, PyData.depth]
    omega
theorem depth_key (a : List Str) : (keyOf a).depth ≤ 3 := by
  have := depth_strs a
  unfold keyOf rowD
  simp only [PyData.depth, PyData.depthAll]
  omega

section
variable {prog : Program} {w : World} {A : Around} {E : Value → Shared → Prop} {s : Shared}
/-- what the tuple (len(x), x) is worth, where x holds a row -/
theorem key_expr {env : Env} {a : Addr} {zs : List Str} {its : List Value} {x : Str} {p1 p2 p3 p4 p5 : Pos} {k : Nat} (hsx : starEach [.Name x p2] env = [(false, eval (.Name x p2) env)])
    (hst : starEach [.Call (.Name "len" p1) [.Name x p2] [] p3, .Name x p4] env = [(false, eval (.Call (.Name "len" p1) [.Name x p2] [] p3) env), (false, eval (.Name x p4) env)])
    (hrow : ∀ (p : Pos) (Q : Value → Shared → Prop) (tk : Nat), Q (.ref a) { s with toks := tk } → wpAny (model prog w) A (eval (.Name x p) env) Q E { s with toks := tk })
    (hlen : ∀ (Q : Value → Shared → Prop), Q (.builtin "len") s → wpAny (model prog w) A (eval (.Name "len" p1) env) Q E s)
    (rv : Vals (zs.map V.str) its) (ht : IsTup s.heap a its.toArray) (hz : zs.length ≤ sizeLine) : wpAny (model prog w) A (eval (.Tuple [.Call (.Name "len" p1) [.Name x p2] [] p3, .Name x p4] k p5) env) (KeyPure (keyOf zs) s) E s := by
  have hl := rv.length
  have hs : sizeLine = 16777216 := sizeLine_eq
  rw [List.length_map] at hl
  refine wpAny_Tuple_spliced ?_
  rw [hst]
  refine Calls.spliced_cons (wpAny_Call_Name_kw (hlen _ (PyProof.Rows.callWith_builtin1 ?_ (by rw [hsx]; rfl) rfl)))
  rw [hsx]
  refine Calls.spliced_cons (hrow p2 _ s.toks (Calls.spliced_nil ?_))
  refine len_tuple ht (by rw [List.size_toArray]; omega) ?_
  refine Calls.spliced_cons (hrow p4 _ _ (Calls.spliced_nil ⟨by show 2 ≤ sizeLine; rw [hs]; decide, ?_⟩))
  refine ⟨_, _, rfl, fun b o e => Heap.get?_push_of_some _ e, ?_⟩
  refine Reads.tuple (Heap.get?_push_size _ rfl) rfl rfl (ReadsAll.cons (as := []) (bs := []) ?_ (ReadsAll.cons (as := []) (bs := []) ?_ .nil))
  · have e : ((its.toArray.size : Nat) : Int) = zs.length := by rw [List.size_toArray, hl]
    rw [e]
    exact .int _ _
  · obtain ⟨o, ho, hc, n, hd⟩ := ht
    exact Reads.keeps (fun b o e => Heap.get?_push_of_some _ e) (Reads.tuple ho hc hd (reads_strs rv))

/-- the frame of such a def: where its names are found -/
theorem key_frame {scope : Scope} {qual x : Str} {f a : Addr} {cd : Value} {clos : List (Str × Addr)} {mg mb : Str → Option Value} {zs : List Str} {its : List Value} {p1 p2 p3 p4 p5 : Pos} {k : Nat} {h₁ : Heap} {tk : Nat}
    (hk : scope.kind = .function) (hx : scope.names.lookup x = some .local) (hl : scope.names.lookup ("len" : Str) = some .globalImplicit) (hdx : (x == ("__debug__" : Str)) = false)
    (hg : s.heap.Ns mainGlobals mg) (hm : mg ("len" : Str) = none) (hb : s.heap.Ns builtinsNs mb) (hv : mb ("len" : Str) = some (.builtin "len"))
    (hns : h₁.Ns s.heap.objs.size fun y => [(x, Value.ref a)].reverse.lookup y) (kp : ∀ b o, s.heap.get? b = some o → h₁.get? b = some o) (rv : Vals (zs.map V.str) its) (ht : IsTup s.heap a its.toArray) (hz : zs.length ≤ sizeLine) :
    wpAny (model prog w) A (eval (.Tuple [.Call (.Name "len" p1) [.Name x p2] [] p3, .Name x p4] k p5) (newEnv scope s.heap.objs.size mainGlobals clos qual (some f) cd none builtinsNs)) (KeyPure (keyOf zs) s) E { s with heap := h₁, toks := tk } := by
  have nsk : ∀ {b : Addr} {m : Str → Option Value}, s.heap.Ns b m → h₁.Ns b m := fun ⟨o, es, ep, e, r⟩ => ⟨o, es, ep, kp _ _ e, r⟩
  have hrow : ∀ (p : Pos) (Q : Value → Shared → Prop) (tk' : Nat), Q (.ref a) { s with heap := h₁, toks := tk' } → wpAny (model prog w) A (eval (.Name x p) (newEnv scope s.heap.objs.size mainGlobals clos qual (some f) cd none builtinsNs)) Q E { s with heap := h₁, toks := tk' } :=
    fun p Q tk' q => wpAny_Name (wpAny_loadName_local (m := fun y => [(x, Value.ref a)].reverse.lookup y) hk hx hns (by simp) q) hdx
  have hlen : ∀ (Q : Value → Shared → Prop), Q (.builtin "len") { s with heap := h₁, toks := tk } → wpAny (model prog w) A (eval (.Name "len" p1) (newEnv scope s.heap.objs.size mainGlobals clos qual (some f) cd none builtinsNs)) Q E { s with heap := h₁, toks := tk } :=
    fun Q q => Calls.Name_function_global hk hl (Calls.loadGlobal_builtin (nsk hg) hm (nsk hb) hv q) (by decide)
  have ht' : IsTup h₁ a its.toArray := let ⟨o, ho, r⟩ := ht; ⟨o, kp _ _ ho, r⟩
  refine wpAny_mono (key_expr (s := { s with heap := h₁, toks := tk }) (by rfl) (by rfl) hrow hlen rv ht' hz) (fun v s' q => ?_) fun _ _ e => e
  obtain ⟨h', tk', rfl, k', r⟩ := q
  exact ⟨h', tk', rfl, fun b o e => k' b o (kp b o e), r⟩

/-- def f(x): return (len(x), x) -/
theorem call_keyDef {name qual : Str} {params : Arguments} {scope : Scope} {dV kV doc pm cdv ct : Value} {an : Option Addr} {x : Str} {f a : Addr} {o : Obj} {mg mb : Str → Option Value} {zs : List Str} {its : List Value} {p1 p2 p3 p4 p5 p6 : Pos} {k : Nat}
    (ho : s.heap.get? f = some o) (hd : o.data = .func (fnOf name qual params [.Return (some (.Tuple [.Call (.Name "len" p1) [.Name x p2] [] p3, .Name x p4] k p5)) p6] scope dV kV doc pm an cdv ct))
    (hroom : A.depth < recursionLimit) (hlim : s.heap.NoLimit) (hcd : s.heap.CodeRec cdv qual) (hbind : bindArgs (fnOf name qual params [.Return (some (.Tuple [.Call (.Name "len" p1) [.Name x p2] [] p3, .Name x p4] k p5)) p6] scope dV kV doc pm an cdv ct) ⟨[.ref a], []⟩ = pure [(x, .ref a)])
    (hk : scope.kind = .function) (hco : scope.isCoroutine = false) (hge : scope.isGenerator = false) (hc : ∀ y ∈ scope.names, y.2 ≠ .cell) (hx : scope.names.lookup x = some .local) (hl : scope.names.lookup ("len" : Str) = some .globalImplicit) (hdx : (x == ("__debug__" : Str)) = false)
    (hg : s.heap.Ns mainGlobals mg) (hm : mg ("len" : Str) = none) (hb : s.heap.Ns builtinsNs mb) (hv : mb ("len" : Str) = some (.builtin "len")) (rv : Vals (zs.map V.str) its) (ht : IsTup s.heap a its.toArray) (hz : zs.length ≤ sizeLine) :
    wpAny (model prog w) A (call (.ref f) [.ref a]) (KeyPure (keyOf zs) s) E s := by
  refine wpAny_call (codeAny_mono (R := fun r s' => ∃ v, r = .ok (.ret v) ∧ KeyPure (keyOf zs) s v s') ?_ fun r s' ⟨v, e, q⟩ => by subst e; exact q)
  refine codeAny_call_function hroom ho hd hco hge rfl hcd ?_
  rw [hbind]
  refine wpAny_pure (wpAny_newFunctionEnv hc (fun y hy => by
    have e : y = (x, Value.ref a) := by simpa using hy
    rw [e]
    exact hx) (fun h₁ hns hsb => ⟨hlim.fresh _ hsb, ?_⟩) hk)
  refine codeAny_func (wpAny_execs_cons (wpAny_Return_some ?_))
  refine wpAny_mono (key_frame (E := fun _ _ => False) hk hx hl hdx hg hm hb hv hns (fun b o' e => hsb.extBut b o' (Nat.ne_of_lt (Heap.lt_size e)) (Heap.get?_push_of_some _ e)) rv ht hz) (fun v s' q => ⟨v, rfl, q⟩) fun _ _ z => z.elim

/-- lambda x: (len(x), x) -/
theorem call_keyLam {name qual : Str} {params : Arguments} {scope : Scope} {pm ct : Value} {c' : Addr} {x : Str} {f a : Addr} {clos : List (Str × Addr)} {mg mb : Str → Option Value} {zs : List Str} {its : List Value} {p1 p2 p3 p4 p5 : Pos} {k : Nat}
    (ho : s.heap.get? f = some (kla_obj name qual params (.Tuple [.Call (.Name "len" p1) [.Name x p2] [] p3, .Name x p4] k p5) scope clos pm c' ct))
    (hroom : A.depth < recursionLimit) (hlim : s.heap.NoLimit) (hcd : s.heap.CodeRec (.ref c') qual) (hbind : bindArgs (kla_fn name qual params (.Tuple [.Call (.Name "len" p1) [.Name x p2] [] p3, .Name x p4] k p5) scope clos pm (.ref c') ct) ⟨[.ref a], []⟩ = pure [(x, .ref a)])
    (hk : scope.kind = .function) (hco : scope.isCoroutine = false) (hge : scope.isGenerator = false) (hc : ∀ y ∈ scope.names, y.2 ≠ .cell) (hx : scope.names.lookup x = some .local) (hl : scope.names.lookup ("len" : Str) = some .globalImplicit) (hdx : (x == ("__debug__" : Str)) = false)
    (hg : s.heap.Ns mainGlobals mg) (hm : mg ("len" : Str) = none) (hb : s.heap.Ns builtinsNs mb) (hv : mb ("len" : Str) = some (.builtin "len")) (rv : Vals (zs.map V.str) its) (ht : IsTup s.heap a its.toArray) (hz : zs.length ≤ sizeLine) :
    wpAny (model prog w) A (call (.ref f) [.ref a]) (KeyPure (keyOf zs) s) E s := by
  refine wpAny_call (codeAny_mono (R := fun r s' => ∃ v, r = .ok (.ret v) ∧ KeyPure (keyOf zs) s v s') ?_ fun r s' ⟨v, e, q⟩ => by subst e; exact q)
  refine kla_callFunE hroom ho rfl hco hge rfl hcd ?_
  rw [hbind]
  refine wpAny_pure (wpAny_newFunctionEnv hc (fun y hy => by
    have e : y = (x, Value.ref a) := by simpa using hy
    rw [e]
    exact hx) (fun h₁ hns hsb => ⟨hlim.fresh _ hsb, ?_⟩) hk)
  refine kla_codeExpr ?_
  refine wpAny_mono (key_frame (E := fun _ _ => False) hk hx hl hdx hg hm hb hv hns (fun b o' e => hsb.extBut b o' (Nat.ne_of_lt (Heap.lt_size e)) (Heap.get?_push_of_some _ e)) rv ht hz) (fun v s' q => ⟨v, rfl, q⟩) fun _ _ z => z.elim
end

/-! ### over the layer -/
/-- a row of texts at an address -/
abbrev Row := Addr × List Str
def leRow (r q : Row) : Bool := rowLe r.2 q.2
/-- a call of the key: it keeps the heap, and gives the row's key -/
def KeyAt (X : Cx) (s : Shared) (f : Addr) : Prop := ∀ (h : Heap) (tk : Nat), (∀ b o, s.heap.get? b = some o → h.get? b = some o) → ∀ (a : Addr) (zs : List Str) (its : List Value), Vals (zs.map V.str) its → IsTup h a its.toArray → zs.length ≤ sizeLine →
  wpAny (model X.prog X.w) X.A.in1.in1 (call (.ref f) [.ref a]) (KeyPure (keyOf zs) { s with heap := h, toks := tk }) (fun _ _ => False) { s with heap := h, toks := tk }

theorem rows_each {rs : List Row} {us : List Value} (r : Vals (rs.map fun r => V.ref r.1) us) : EachIs (fun v (b : Row) => v = Value.ref b.1) us rs := by
  induction rs generalizing us with
  | nil =>
    cases r
    exact .nil
  | cons x rs ih =>
    cases r with
    | cons a b =>
      cases a
      exact .cons rfl (ih b)
theorem each_rows {rs : List Row} {us : List Value} (e : EachIs (fun v (b : Row) => v = Value.ref b.1) us rs) : Vals (rs.map fun r => V.ref r.1) us := by
  induction e with
  | nil => exact .nil
  | cons h t ih =>
    subst h
    exact .cons rfl ih
theorem all_alike (rs : List Row) : AllAlike (rs.map fun r => keyOf r.2) := by
  intro d hd d' hd'
  obtain ⟨r, _, rfl⟩ := List.mem_map.mp hd
  obtain ⟨q, _, rfl⟩ := List.mem_map.mp hd'
  exact alike_keys _ _
theorem all_sortable (rs : List Row) : Sortable (rs.map fun r => keyOf r.2) := Sortable.tuples fun r => ⟨_, _, rfl⟩

section
variable {X : Cx} {pins : List (Addr × Obj)} {σ : L2.St} {H : Hp} {s : Shared}
theorem sorted_list {a f : Addr} {rs : List Row} {Q : VK} (I : Inv X pins σ H s) (hu : X.A.units + 64 < cLine) (hs : SqL X.K H a (rs.map fun r => V.ref r.1)) (hr : ∀ r ∈ rs, SqT X.K H r.1 (r.2.map V.str)) (hf : KeyAt X s f)
    (q : ∀ p, H p = none → Q (.ref p) (upd H p (.lst ((rs.mergeSort leRow).map fun r => V.ref r.1)))) : wpAny (model X.prog X.w) X.A (call (.builtin "sorted") [.ref a] [(Str.ofString "key", .ref f)]) (EP X pins σ Q) X.xe s := by
  obtain ⟨its, rv, hl, hz⟩ := I.list hs
  rw [List.length_map] at hz
  have e := rows_each rv
  refine sorted_key_data (b := false) (fun r : Row => keyOf r.2) hl.isList e (all_alike rs) (all_sortable rs) hz (fun r _ => ?_) (ksk_s1 _ _) (fun _ => ksk_l1 _ _) (fun _ => ksk_t1 _ _) (fun v r ev hm h tk kp => ?_) fun out c h' tk kp hn hD hlen eo => ?_
  · have := depth_key r.2
    omega
  · subst ev
    obtain ⟨its', rv', ht, hz'⟩ := I.tuple (hr r hm)
    rw [List.length_map] at hz'
    obtain ⟨o, ho, hr'⟩ := ht
    exact hf h tk kp r.1 r.2 its' rv' ⟨o, kp _ _ ho, hr'⟩ hz'
  · have hle : ((rs.mergeSort leRow).map fun r => V.ref r.1).length ≤ sizeLine := by
      rw [List.length_map, List.length_mergeSort]
      exact hz
    refine ⟨.ref _, _, I.laid (t' := tk) (o := .lst ((rs.mergeSort leRow).map fun r => V.ref r.1)) kp (Nat.le_succ _) ⟨hle, out, c, each_rows eo, hD⟩, rfl, q _ (I.hok.fresh (Nat.le_succ _))⟩

/-- the keys of a dict of rows -/
theorem dict_rows {kvs : List (List Key × V)} {xs : List (List Key × Addr × Value)} (r : KT H kvs xs) {rows : List (List Str)} (hk : kvs.map (·.1) = rows.map fun r => r.map Sum.inr) :
    ∃ rs : List Row, rs.map (·.2) = rows ∧ rs.map (·.1) = xs.map (fun x => x.2.1) ∧ ∀ r ∈ rs, H r.1 = some (.tup (r.2.map V.str)) := by
  induction r generalizing rows with
  | nil =>
    cases rows with
    | nil => exact ⟨[], rfl, rfl, fun r h => by cases h⟩
    | cons x y => simp at hk
  | @cons p q ps qs hq t ih =>
    cases rows with
    | nil => simp at hk
    | cons x rows =>
      rw [List.map_cons, List.map_cons, List.cons.injEq] at hk
      obtain ⟨rs, h1, h2, h3⟩ := ih hk.2
      refine ⟨(q.2.1, x) :: rs, by rw [List.map_cons, h1], by rw [List.map_cons, List.map_cons, h2], fun r hr => ?_⟩
      rcases List.mem_cons.mp hr with e | hr
      · subst e
        have e2 := hq.2.1
        rw [hk.1, List.map_map] at e2
        exact e2
      · exact h3 r hr

theorem sorted_dict {a f : Addr} {kvs : List (List Key × V)} {rows : List (List Str)} {Q : VK} (I : Inv X pins σ H s) (hc : X.calm = true) (hu : X.A.units + 64 < cLine) (hd : H a = some (.dT kvs)) (hk : kvs.map (·.1) = rows.map fun r => r.map Sum.inr) (hf : KeyAt X s f)
    (q : ∀ (rs : List Row) (p : Addr), rs.map (·.2) = rows.mergeSort rowLe → (∀ r ∈ rs, H r.1 = some (.tup (r.2.map V.str))) → H p = none → Q (.ref p) (upd H p (.lst (rs.map fun r => V.ref r.1)))) :
    wpAny (model X.prog X.w) X.A (call (.builtin "sorted") [.ref a] [(Str.ofString "key", .ref f)]) (EP X pins σ Q) X.xe s := by
  obtain ⟨z, lo, xs, rel, o, es, ep, ho, hx, hdat, hes, hno⟩ := I.hok a _ hd
  obtain ⟨rs, h1, h2, h3⟩ := dict_rows rel hk
  have hlen : rs.length = es.size := by
    have e1 := congrArg List.length h2
    have e2 := congrArg List.length hes
    rw [List.length_map, List.length_map] at e1
    rw [Array.length_toList, List.length_map] at e2
    omega
  have hz : rs.length ≤ sizeLine := by
    have e1 := congrArg List.length h2
    have e2 := Paired.length rel
    rw [List.length_map, List.length_map] at e1
    omega
  have raw : s.heap.DictRaw a es ep := ⟨o, ho, hx, hdat⟩
  refine call_function_entry_kw PyProof.Rows.kind_sorted PyProof.Rows.plain_sorted PyProof.Rows.entry_sorted (ksk_s1 _ _) ?_
  unfold Builtin.«sorted»
  refine wpAny_bind (m := checkCount "sorted" 1 1 _) (wpAny_pure ?_)
  refine wpAny_bind (kdu_collect (A := X.A.in1) (KdlSrc.rawDict (es := es) (ep := ep) lo) (I.ok.hd hc) raw (by omega) fun h' tk acc hkp hacc => ?_)
  have hal : acc.toList.length = rs.length := by rw [Array.length_toList, hacc.1, hlen]
  have each : EachIs (fun v (b : Row) => v = Value.ref b.1) acc.toList rs := by
    refine EachIs.of_zip hal fun p hp => ?_
    obtain ⟨i, hi⟩ := List.getElem?_of_mem hp
    rw [List.getElem?_zip_eq_some] at hi
    obtain ⟨hia, hib⟩ := hi
    obtain ⟨hsz, ev⟩ := hacc.2 i p.1 (by rw [← Array.getElem?_toList]; exact hia)
    have e1 : (rs.map (·.1))[i]? = some p.2.1 := by rw [List.getElem?_map, hib]; rfl
    have e2 : es.toList[i]? = some es[i] := by rw [Array.getElem?_toList, Array.getElem?_eq_getElem hsz]
    rw [h2, List.getElem?_map] at e1
    rw [hes, List.getElem?_map] at e2
    cases ex : xs[i]? with
    | none =>
      rw [ex] at e1
      cases e1
    | some x =>
      rw [ex] at e1 e2
      have e1' : x.2.1 = p.2.1 := Option.some.inj e1
      have e2' := Option.some.inj e2
      rw [ev, ← e2', ← e1']
      rfl
  have I1 : Inv X pins σ H { s with heap := h', toks := tk } := I.kept hkp
  refine wpAny_bind (wpAny_newList ?_ (by omega))
  have hoL : (h'.push (seqObj "list" acc.toList.toArray 0)).get? h'.objs.size = some (seqObj "list" acc.toList.toArray 0) := Heap.get?_push_size _ rfl
  have ne : ∀ {b : Addr} {o : Obj}, s.heap.get? b = some o → b ≠ h'.objs.size := fun e => Nat.ne_of_lt (Heap.lt_size (hkp _ _ e))
  refine wpAny_bind (wpAny_holding ?_)
  show wpAny (model X.prog X.w) X.A.in1 (call (.builtin "list.sort") [.ref h'.objs.size] [(Str.ofString "key", .ref f)]) _ _ { s with heap := h'.push (seqObj "list" acc.toList.toArray 0), toks := tk }
  refine list_sort_key_data (b := false) (s := { s with heap := h'.push (seqObj "list" acc.toList.toArray 0), toks := tk }) (fun r : Row => keyOf r.2) hoL each (all_alike rs) (all_sortable rs) hz (fun r _ => ?_) (ksk_l1 _ _) (ksk_t1 _ _) (fun v r ev hm h tk kp => ?_) fun out c h'' tk' kp hD hle eo => ?_
  · have hdep := depth_key r.2
    show X.A.units + 1 + 1 + (keyOf r.2).depth < cLine
    omega
  · subst ev
    obtain ⟨its', rv', ht, hz'⟩ := I.tuple (.inl (.inl (h3 r hm)))
    rw [List.length_map] at hz'
    obtain ⟨o, ho, hr'⟩ := ht
    have up : ∀ b o, s.heap.get? b = some o → h.get? b = some o := fun b o e => kp b o (ne e) (Heap.get?_push_of_some _ (hkp _ _ e))
    exact hf h tk up r.1 r.2 its' rv' ⟨o, up _ _ ho, hr'⟩ hz'
  · have hle2 : ((rs.mergeSort leRow).map fun r => V.ref r.1).length ≤ sizeLine := by
      rw [List.length_map, List.length_mergeSort]
      exact hz
    have up : ∀ b o, h'.get? b = some o → h''.get? b = some o := fun b o e => kp b o (Nat.ne_of_lt (Heap.lt_size e)) (Heap.get?_push_of_some _ e)
    refine wpAny_pure ⟨_, rfl, .ref h'.objs.size, _, I1.laid (t' := tk') (o := .lst ((rs.mergeSort leRow).map fun r => V.ref r.1)) up (Nat.le_refl _) ⟨hle2, out, c, each_rows eo, hD⟩, rfl, q _ _ ?_ (fun r hr => h3 r (List.mem_mergeSort.mp hr)) (I1.hok.fresh (Nat.le_refl _))⟩
    rw [← h1]
    exact sort_maps (fun r : Row => r.2) fun _ _ _ _ => rfl
end
end Ka
/-! sorted(e, key=f) of rows: f a def of the text, or a lambda. -/
namespace Ka
open PySem PySem.Spec PyProof.Rows L2 PySem.W

section
variable {X : Cx} {pins : List (Addr × Obj)} {σ : L2.St} {H : Hp} {s : Shared}
theorem deep2 {k : Nat} (hr : Room k X.A) : X.A.in1.in1.depth < recursionLimit := hr.depth
theorem ns_up {h h' : Heap} (kp : ∀ b o, h.get? b = some o → h'.get? b = some o) {b : Addr} {m : Str → Option Value} (n : h.Ns b m) : h'.Ns b m :=
  let ⟨o, es, ep, e, r⟩ := n; ⟨o, es, ep, kp _ _ e, r⟩
theorem code_up {h h' : Heap} (kp : ∀ b o, h.get? b = some o → h'.get? b = some o) {c : Value} {q : Str} (n : h.CodeRec c q) : h'.CodeRec c q :=
  let ⟨c, oc, vs, t, e1, e2, r⟩ := n; ⟨c, oc, vs, t, e1, kp _ _ e2, r⟩

/-- a def of the text that gives the key -/
theorem keyAt_def {name qual : Str} {params : Arguments} {scope : Scope} {dV kV doc pm cdv ct oc : Value} {an od : Option Addr} {osl : Array (Option Value)} {x : Str} {f : Addr} {p1 p2 p3 p4 p5 p6 : Pos} {k j : Nat} (I : Inv X pins σ H s) (hr : Room j X.A)
    (lk : X.K.lookup f = some ⟨oc, od, .func (fnOf name qual params [.Return (some (.Tuple [.Call (.Name "len" p1) [.Name x p2] [] p3, .Name x p4] k p5)) p6] scope dV kV doc pm an cdv ct), osl⟩) (hcd : codeIn X.K cdv qual = true) (hm : X.mg "len" = none)
    (hbind : ∀ v : Value, bindArgs (fnOf name qual params [.Return (some (.Tuple [.Call (.Name "len" p1) [.Name x p2] [] p3, .Name x p4] k p5)) p6] scope dV kV doc pm an cdv ct) ⟨[v], []⟩ = pure [(x, v)])
    (hk : scope.kind = .function) (hco : scope.isCoroutine = false) (hge : scope.isGenerator = false) (hc : ∀ y ∈ scope.names, y.2 ≠ .cell) (hx : scope.names.lookup x = some .local) (hl : scope.names.lookup ("len" : Str) = some .globalImplicit) (hdx : (x == ("__debug__" : Str)) = false) : KeyAt X s f := by
  intro h tk kp a zs its rv ht hz
  obtain ⟨mb, b1, b2⟩ := I.mod.blt
  exact call_keyDef (s := { s with heap := h, toks := tk }) (kp _ _ (I.kIn _ _ lk)) rfl (deep2 hr) (I.nolimit.keeps kp) (code_up kp (codeRec_of I.kIn hcd)) (hbind _) hk hco hge hc hx hl hdx (ns_up kp (I.mod.glob.keeps I.bk)) hm (ns_up kp (b1.keeps I.bk)) ((b2 "len" (by decide)).trans PySem.boot_len) rv ht hz

/-- a lambda that gives the key -/
theorem keyAt_lam {params : Arguments} {scope : Scope} {pm ct : Value} {c' : Addr} {q : Str} {x : Str} {f : Addr} {clos : List (Str × Addr)} {p1 p2 p3 p4 p5 : Pos} {k j : Nat} (I : Inv X pins σ H s) (hr : Room j X.A)
    (hf : s.heap.get? f = some (kla_obj "<lambda>" q params (.Tuple [.Call (.Name "len" p1) [.Name x p2] [] p3, .Name x p4] k p5) scope clos pm c' ct)) (hcd : H c' = some (LamX.CodeO c' q)) (hm : X.mg "len" = none)
    (hbind : ∀ v : Value, bindArgs (kla_fn "<lambda>" q params (.Tuple [.Call (.Name "len" p1) [.Name x p2] [] p3, .Name x p4] k p5) scope clos pm (.ref c') ct) ⟨[v], []⟩ = pure [(x, v)])
    (hk : scope.kind = .function) (hco : scope.isCoroutine = false) (hge : scope.isGenerator = false) (hc : ∀ y ∈ scope.names, y.2 ≠ .cell) (hx : scope.names.lookup x = some .local) (hl : scope.names.lookup ("len" : Str) = some .globalImplicit) (hdx : (x == ("__debug__" : Str)) = false) : KeyAt X s f := by
  intro h tk kp a zs its rv ht hz
  obtain ⟨mb, b1, b2⟩ := I.mod.blt
  obtain ⟨⟨oc, vs, t, hoc, hdc, hvc⟩, _, _⟩ := I.hok c' _ hcd
  exact call_keyLam (s := { s with heap := h, toks := tk }) (kp _ _ hf) (deep2 hr) (I.nolimit.keeps kp) ⟨c', oc, vs, t, rfl, kp _ _ hoc, hdc, hvc⟩ (hbind _) hk hco hge hc hx hl hdx (ns_up kp (I.mod.glob.keeps I.bk)) hm (ns_up kp (b1.keeps I.bk)) ((b2 "len" (by decide)).trans PySem.boot_len) rv ht hz
end

section
variable {X : Cx}
/-- sorted(e, key=f), e a list of rows or a dict of rows -/
def rSortK (K : PySem.W.Frag) (f : Addr) : List V → List V → Hp → VK → Prop := fun vs zs H Q => zs = [.ref f] ∧
  ((∃ (a : Addr) (rs : List Row), vs = [.ref a] ∧ SqL K H a (rs.map fun r => V.ref r.1) ∧ (∀ r ∈ rs, SqT K H r.1 (r.2.map V.str)) ∧ ∀ p, H p = none → Q (.ref p) (upd H p (.lst ((rs.mergeSort leRow).map fun r => V.ref r.1)))) ∨
   (∃ (a : Addr) (kvs : List (List L2.Key × V)) (rows : List (List Str)), vs = [.ref a] ∧ H a = some (.dT kvs) ∧ kvs.map (·.1) = rows.map (fun r => r.map Sum.inr) ∧
     ∀ (rs : List Row) (p : Addr), rs.map (·.2) = rows.mergeSort rowLe → (∀ r ∈ rs, H r.1 = some (.tup (r.2.map V.str))) → H p = none → Q (.ref p) (upd H p (.lst (rs.map fun r => V.ref r.1)))))
theorem cr_sortRows {f : Addr} (hc : X.calm = true) (hu : X.A.units + 64 < cLine) (hf : ∀ (pins : List (Addr × Obj)) (s : Shared) (σ : L2.St) (H : Hp), Inv X pins σ H s → KeyAt X s f) : CallRK X (.builtin "sorted") [Str.ofString "key"] (rSortK X.K f) := by
  intro pins s σ H vs zs us ws Q I r rz h
  obtain ⟨rfl, h⟩ := h
  obtain ⟨w1, rfl, e1⟩ := vals1 rz
  obtain rfl : w1 = Value.ref f := e1
  rcases h with ⟨a, rs, rfl, hs, hr, q⟩ | ⟨a, kvs, rows, rfl, hd, hk, q⟩
  · obtain rfl := Vals.ref1 r
    exact sorted_list I hu hs hr (hf _ _ _ _ I) q
  · obtain rfl := Vals.ref1 r
    exact sorted_dict I hc hu hd hk (hf _ _ _ _ I) q

/-- sorted(e, key=lambda x: (len(x), x)) -/
def tSortLam (K : PySem.W.Frag) (T : List (Addr × Str)) (te : TE) : TE := fun σ H Q => te σ H fun v H1 => ∃ (a : Addr) (rs : List Row), v = .ref a ∧ SqL K H1 a (rs.map fun r => V.ref r.1) ∧ (∀ r ∈ rs, SqT K H1 r.1 (r.2.map V.str)) ∧ LamX.Tabs T H1 ∧
  ∀ H2 p, LamX.ExtN H1 H2 → LamX.Tabs T H2 → H2 p = none → Q (.ref p) (upd H2 p (.lst ((rs.mergeSort leRow).map fun r => V.ref r.1)))
theorem rd_ext {H H' : Hp} {a : Addr} {u : HO} (h : Rd H a u) (e : LamX.ExtN H H') (hn : ∀ ps, u ≠ .tbl ps) : Rd H' a u := by
  rcases h with h | ⟨o, h⟩
  · exact .inl (e _ _ h hn)
  · exact .inr ⟨o, e _ _ h fun ps z => by cases z⟩
theorem sqL_ext {K : PySem.W.Frag} {H H' : Hp} {a : Addr} {xs : List V} (h : SqL K H a xs) (e : LamX.ExtN H H') : SqL K H' a xs := by
  rcases h with h | h
  · exact .inl (rd_ext h e fun ps z => by cases z)
  · exact .inr h
theorem sqT_ext {K : PySem.W.Frag} {H H' : Hp} {a : Addr} {xs : List V} (h : SqT K H a xs) (e : LamX.ExtN H H') : SqT K H' a xs := by
  rcases h with h | h
  · exact .inl (rd_ext h e fun ps z => by cases z)
  · exact .inr h
theorem pe_sortedLam {T : List (Addr × Str)} {c P : Addr} {params : Arguments} {scope : Scope} {x : Str} {e : Expr} {te : TE} {p lpos kpos pos p1 p2 p3 p4 p5 : Pos} {k j : Nat} (hr : Room j X.A) (hu : X.A.units + 64 < cLine) (hg : Gl X "sorted") (hm : X.mg "sorted" = none) (hml : X.mg "len" = none) (he : PE X e te)
    (TB : LamX.TabB X.base X.mg c P) (hcode : X.env.code = .ref c) (hmT : (P, X.env.qual ++ "<lambda>") ∈ T) (hu2 : ∀ p ∈ T, p.1 = P → p.2 = X.env.qual ++ "<lambda>") (hdef : defaultsOf params X.env = ([], [])) (hfree : ∀ y ∈ scope.names, y.2 ≠ .free)
    (hbind : ∀ (q : Str) (clos : List (Str × Addr)) (pm cd ct v : Value), bindArgs (kla_fn "<lambda>" q params (.Tuple [.Call (.Name "len" p1) [.Name x p2] [] p3, .Name x p4] k p5) scope clos pm cd ct) ⟨[v], []⟩ = pure [(x, v)])
    (hk : scope.kind = .function) (hco : scope.isCoroutine = false) (hge : scope.isGenerator = false) (hc : ∀ y ∈ scope.names, y.2 ≠ .cell) (hx : scope.names.lookup x = some .local) (hl : scope.names.lookup ("len" : Str) = some .globalImplicit) (hdx : (x == ("__debug__" : Str)) = false)
    (h1 : backTo pos (starEach [e] X.env) = (false, eval e X.env) :: backTo pos (starEach [] X.env) := by rfl) :
    PE X (.Call (.Name "sorted" p) [e] [⟨some "key", .Lambda params (.Tuple [.Call (.Name "len" p1) [.Name x p2] [] p3, .Name x p4] k p5) scope lpos, kpos⟩] pos) (tSortLam X.K T te) := by
  refine ⟨fun pins s σ H Q I h => ?_⟩
  refine wpAny_Call_Name_kw (ld_blt (u := .builtin "sorted") I hg hm (by decide +kernel) ?_ (by decide) (by decide))
  refine PyProof.Rows.callWith_kw ?_ h1 (by rw [h1]; rfl) (by rfl) (by rfl)
  rw [h1]
  refine Calls.spliced_cons (thn (he.run pins s σ H _ I h) fun u s1 ⟨v, H1, I1, r1, a, rs, ev, hs, hr', hT, q⟩ => Calls.spliced_nil ?_)
  subst ev
  obtain rfl : u = Value.ref a := r1
  show wpAny _ _ (evalAll [do let v ← eval (.Lambda params (.Tuple [.Call (.Name "len" p1) [.Name x p2] [] p3, .Name x p4] k p5) scope lpos) X.env; standAt pos; pure v]) _ _ s1
  refine wpAny_evalAll_cons (wpAny_bind (LamX.lam_make2 I1 TB hcode hmT hu2 hT hdef (fun y hy e => absurd e (hfree y hy)) fun f c' pm' ctv H2 s2 I2 eN T2 hf hfn hfr hco' => wpAny_bind (wpAny_standAt (wpAny_pure (wpAny_evalAll_nil ?_)))))
  refine sorted_list I2 hu (sqL_ext hs eN) (fun r hr0 => sqT_ext (hr' r hr0) eN) (keyAt_lam I2 hr hf hco' hml (fun v => hbind _ _ _ _ _ v) hk hco hge hc hx hl hdx) fun p' np => q H2 p' eN T2 np
end
end Ka
/-! {k: v for target in iter if ..} whose keys are tuples of texts and ints. -/
namespace Ka
open PySem PySem.Spec PyProof.Rows L2

theorem dT_set {X : Cx} {pins : List (Addr × Obj)} {σ : L2.St} {H : Hp} {s : Shared} {E : Value → Shared → Prop} {D b : Addr} {kvs : List (List L2.Key × V)} {k : List L2.Key} {v : V} {u r : Value} {Q : Unit → Shared → Prop} (hu : X.A.units + 1 < cLine) (I : Inv X pins σ H s) (hD : H D = some (.dT kvs)) (hz : kvs.length < sizeLine)
    (hb : H b = some (.tup (k.map kV))) (ry : RelV (.ref b) u) (rv : RelV v r) (h : ∀ s', Inv X pins σ (upd H D (.dT (putK kvs k v))) s' → Q () s') : wpAny (model X.prog X.w) X.A (dictSet D u r) Q E s := by
  cases (show u = Value.ref b from ry)
  obtain ⟨z, hd, xs, rel, dd⟩ := dt_of I.hok hD
  have hzx : xs.length ≤ sizeLine := by rw [← Paired.length rel]; exact z
  have hl : (putK kvs k v).length ≤ sizeLine := by have := length_putK kvs k v; omega
  refine wpAny_dictSet_heap (hsz := hzx) (knd := tupleKind (mixKind X.prog X.w)) ?_ (key_of I.hok hb) dd fun h' dd' hs => h _ ?_
  · show X.A.units < cLine
    omega
  · obtain ⟨q, es, ep, hq, h2, h3, h4, _, h5⟩ := dd'
    refine d_write I (by rw [hD]; exact True.intro) hs ⟨q, hq⟩ ⟨hl, hd, _, (rel.put k hb rv).keeps fun c ys ec => ?_, q, es, ep, hq, h2, h3, h4, h5⟩
    rw [upd_ne (ne_of ec hD fun z => nomatch z)]
    exact ec

section
variable {X : Cx}
/-- {k: v for target in iter}, keys tuples: D the new dict -/
def tDcT (wi : TI) (g : TG) (tk tv : TE) (vs : List Nat) : TE := fun σ H Q => wi σ H fun J H1 => ∀ D, H1 D = none → ∃ W : Nat → Nat → Hp → Prop, (∃ m, W 0 m (upd H1 D (.dT []))) ∧ ∀ i m H, W i m H →
  (J.stop i H ∧ Q (.ref D) H) ∨ (J.go i H ∧ ∃ Nx : Hp → Prop, (∀ H', Nx H' → ∃ m', m' < m ∧ W (i + 1) m' H') ∧ ∀ x H', J.yld i H x H' → g x (wipe σ vs) H' fun σ2 H2 => wipe σ2 vs = wipe σ vs ∧
    tk σ2 H2 fun y H4 => tv σ2 H4 fun z H5 => ∃ kvs k b, y = .ref b ∧ H5 b = some (.tup (k.map kV)) ∧ H5 D = some (.dT kvs) ∧ kvs.length < sizeLine ∧ Nx (upd H5 D (.dT (putK kvs k z))))

/-- one turn of the block, from the item drawn on -/
theorem dct_turn {Z : Cx} {kx vx tg : Expr} {g : TG} {tk tv : TE} {D : Addr} {τ : L2.St} {vs : List Nat} {H : Hp} {s : Shared} {x : V} {u : Value} {Nx : Hp → Prop} {R : Shared → Prop} {pins : List (Addr × Obj)} {E' : Value → Shared → Prop} (hE : Z.xe = fun _ _ => False) (hu : Z.A.units + 1 < cLine)
    (pg : PG Z tg g) (pk : PE Z kx tk) (pe : PE Z vx tv) (I : Inv Z pins τ H s) (rx : RelV x u)
    (h : g x τ H fun σ2 H2 => wipe σ2 vs = τ ∧ tk σ2 H2 fun y H4 => tv σ2 H4 fun z H5 => ∃ kvs k b, y = .ref b ∧ H5 b = some (.tup (k.map kV)) ∧ H5 D = some (.dT kvs) ∧ kvs.length < sizeLine ∧ Nx (upd H5 D (.dT (putK kvs k z))))
    (fin : ∀ σ2 H' s', wipe σ2 vs = τ → Inv Z pins σ2 H' s' → Nx H' → R s') :
    wpAny (model Z.prog Z.w) Z.A (assign tg Z.env u) (fun _ s₂ => wpAny (model Z.prog Z.w) Z.A (forIn ([] : List Expr) true fun c r => if r = true then do let ok ← isTrue c Z.env (eval c Z.env); pure (ForInStep.yield ok) else pure (ForInStep.yield r)) (fun ok s₃ =>
      if ok = true then wpAny (model Z.prog Z.w) Z.A (eval kx Z.env) (fun kv s₄ => wpAny (model Z.prog Z.w) Z.A (eval vx Z.env) (fun vv s₅ => wpAny (model Z.prog Z.w) Z.A (dictSet D kv vv) (fun _ s₆ => R s₆) E' s₅) E' s₄) E' s₃ else R s₃) E' s₂) E' s := by
  have a1 := pg.run pins s τ H x u _ I rx h
  rw [hE] at a1
  refine thnF a1 fun _ s8 ⟨σ8, H8, I8, hw, q8⟩ => wpAny_tests_nil ?_
  rw [if_pos rfl]
  have a2 := pk.run pins s8 σ8 H8 _ I8 q8
  rw [hE] at a2
  refine thnF a2 fun kv s10 ⟨y, H10, I10, r10, q10⟩ => ?_
  have a3 := pe.run pins s10 σ8 H10 _ I10 q10
  rw [hE] at a3
  refine thnF a3 fun vv s11 ⟨z, H11, I11, r11, kvs, k, b, ey, hb, hD, hz, nx⟩ => ?_
  subst ey
  exact dT_set hu I11 hD hz hb r10 r11 fun s12 I12 => fin σ8 _ s12 hw I12 nx

/-- what stands between two turns of the block -/
def BetweenT (Z : Cx) (fp : List Addr) (tn : Nat → Heap → Prop) (τ : L2.St) (W : Nat → Nat → Hp → Prop) (n : Nat) (s : Shared) : Prop := ∃ i H, Inv Z [] τ H s ∧ tn i s.heap ∧ (∀ b ∈ fp, H b = none) ∧ W i n H

theorem pe_dcT {kx vx tg iter : Expr} {scope : Scope} {own : List (Str × Nat)} {pos : Pos} {wi : TI} {g : TG} {tk tv : TE} (hc : X.calm = true) (hu : X.A.units + 1 < cLine) (hN : X.N.Nodup) (hi : PI X tg iter wi) (ok : BlkOk X.N X.env.scope scope own)
    (hg : ∀ (s : Shared) (H : Hp) (C : Addr) (cl : List (Str × Addr)) (fp : List Addr), PG (X.blk s H scope (compEnvC scope cl C X.env) fp) tg g)
    (hk : ∀ (s : Shared) (H : Hp) (C : Addr) (cl : List (Str × Addr)) (fp : List Addr), PE (X.blk s H scope (compEnvC scope cl C X.env) fp) kx tk)
    (hv : ∀ (s : Shared) (H : Hp) (C : Addr) (cl : List (Str × Addr)) (fp : List Addr), PE (X.blk s H scope (compEnvC scope cl C X.env) fp) vx tv) (hs : ∀ x, foldedSetIterable iter X.env x = pure x := by intro _; rfl) :
    PE X (.DictComp kx vx [⟨tg, iter, [], 0⟩] scope pos) (tDcT wi g tk tv (own.map (·.2))) := by
  refine ⟨fun pins s σ H Q I h => ?_⟩
  rw [arm_eval_DictComp]
  have free : ∀ y ∈ scope.names, y.2 = .free → ∃ c, X.env.cells.lookup y.1 = some c := fun y hy e => (ok.free y hy e).elim (fun k => I.ok.has _ (.inl k)) (fun k => I.ok.has _ (.inr k))
  refine wpAny_comprehension_free rfl hs (closure_ok free) ok.kind (fun y hy e => by rw [ok.uniq y hy, e]) (thn (hi.run pins s σ H _ I h) fun _ s1 hx => thn hx fun _ s2 ⟨it, fp, tn, J, H2, e, I2, T, st2, f2, q⟩ => ?_)
  subst e
  refine wpAny_newObj_type (newEnv_comp ?_)
  generalize hD : s2.heap.objs.size = D
  have nD : H2 D = none := I2.hok.fresh (Nat.le_of_eq hD)
  obtain ⟨W, ⟨m0, w0⟩, turn⟩ := q D nD
  generalize hs3 : ({ s2 with heap := s2.heap.push { cls := .type "dict", data := .dict #[] } } : Shared) = s3
  have h3 : s3.heap = s2.heap.push { cls := .type "dict", data := .dict #[] } := by rw [← hs3]
  have I3 : Inv X pins σ (upd H2 D (.dT [])) s3 := by
    subst hs3 hD
    exact I2.laid (t' := s2.toks) (fun b o z => Heap.get?_push_of_some _ z) (Nat.le_refl _) (dt_empty s2.heap I2.big)
  have f3 : ∀ b ∈ fp, FpOk X pins (upd H2 D (.dT [])) b ∧ b < s3.heap.objs.size := fun b hb => by
    obtain ⟨o, e, _⟩ := T.obj _ _ st2 b hb
    have lt : b < s2.heap.objs.size := Heap.lt_size e
    refine ⟨⟨?_, (f2 b hb).2⟩, by rw [h3, Heap.size_push]; exact Nat.lt_succ_of_lt lt⟩
    rw [upd_ne (by rw [← hD]; exact Nat.ne_of_lt lt)]
    exact (f2 b hb).1
  have I4 := block_start I3 ok hN f3
  have pg := hg s3 (upd H2 D (.dT [])) s3.heap.objs.size (cellsFrom (s3.heap.objs.size + 1) scope.names (cloFrom X.env.cells scope.names [])) fp
  have pk := hk s3 (upd H2 D (.dT [])) s3.heap.objs.size (cellsFrom (s3.heap.objs.size + 1) scope.names (cloFrom X.env.cells scope.names [])) fp
  have pv := hv s3 (upd H2 D (.dT [])) s3.heap.objs.size (cellsFrom (s3.heap.objs.size + 1) scope.names (cloFrom X.env.cells scope.names [])) fp
  show codeAny _ _ (.compStart (.DictComp kx vx [⟨tg, iter, [], 0⟩] scope pos) 0 (.ref it) (.ref D) (compEnvC scope (cellsFrom (s3.heap.objs.size + 1) scope.names (cloFrom X.env.cells scope.names [])) s3.heap.objs.size X.env)) (compPost (model X.prog X.w) X.A X.xe none (EP X pins σ Q) (.ref D) s3.heap.objs.size) { s3 with heap := pushCells (s3.heap.push { cls := .type "dict", data := .dict #[] }) scope.names }
  generalize hce : compEnvC scope (cellsFrom (s3.heap.objs.size + 1) scope.names (cloFrom X.env.cells scope.names [])) s3.heap.objs.size X.env = ce at I4 pg pk pv ⊢
  have cL : ce.locals = s3.heap.objs.size := by subst hce; rfl
  generalize hH3 : upd H2 D (.dT []) = H3 at I3 I4 pg pk pv w0 f3
  generalize hs4 : ({ s3 with heap := pushCells (s3.heap.push { cls := .type "dict", data := .dict #[] }) scope.names } : Shared) = s4 at I4 ⊢
  have st4 : tn 0 s4.heap := T.keep _ _ _ st2 fun b _ o z => by
    rw [← hs4]
    exact pushCells_keeps _ _ _ _ (Heap.get?_push_of_some _ (by rw [h3]; exact Heap.get?_push_of_some _ z))
  have blk : ∀ {σ' : L2.St} {H' : Hp} {s' : Shared}, Inv (X.blk s3 H3 scope ce fp) [] σ' H' s' → (∀ b ∈ fp, H' b = none) → ∀ b ∈ fp, FpOk (X.blk s3 H3 scope ce fp) [] H' b := fun J' hn b hb =>
    ⟨hn b hb, (J'.ok.exf b hb).1, J'.ok.exfs b hb, .inl hb, fun x c z => (J'.ok.exf b hb).2 x c z, fun p hp => absurd (show p ∈ ([] : List (Addr × Obj)) ++ [] from hp) (by simp)⟩
  have loop : codeAny (model X.prog X.w) X.A (.compLoop (.DictComp kx vx [⟨tg, iter, [], 0⟩] scope pos) 0 (.ref it) (.ref D) ce) (compPost (model X.prog X.w) X.A X.xe none (EP X pins σ Q) (.ref D) s3.heap.objs.size) s4 := by
    refine compLoop_anyD (BetweenT (X.blk s3 H3 scope ce fp) fp tn (wipe σ (own.map (·.2))) W) ?_ m0 ⟨0, H3, I4, st4, fun b hb => (f3 b hb).1.1, w0⟩
    rintro n s5 ⟨i, H5, I5, st5, n5, w5⟩
    rcases turn i n H5 w5 with ⟨stop, qq⟩ | ⟨go, Nx, hNx, step⟩
    · refine thnF (T.done (X.blk s3 H3 scope ce fp) rfl rfl rfl hc i [] s5 _ H5 (fun _ _ => False) I5 (blk I5 n5) st5 stop) fun r s6 ⟨hr, I6⟩ => ?_
      subst hr
      have I7 : Inv X pins σ H5 s6 := I3.call' (ch := fp) I6.os I6.base I6.hok I6.bare fun b hb => ⟨(f3 b hb).1.2.2.2.1, (f3 b hb).1.2.1, (f3 b hb).1.2.2.2.2.1, (f3 b hb).1.2.2.2.2.2⟩
      have nC : H5 s3.heap.objs.size = none := by
        have z : H5 ce.locals = none := I6.free
        rwa [cL] at z
      obtain ⟨m, hn, _⟩ := I6.loc
      have hn : s6.heap.Ns ce.locals m := hn
      rw [cL] at hn
      obtain ⟨f0, f1, f2, f4, f5, f6⟩ := I3.fpOk (Nat.le_refl _) nC
      exact ⟨m, hn, fun h'' sb => ⟨.ref D, H5, I7.turned (t' := s6.toks) (fun b o hb z => (sb.2 b hb).trans z) f0 f1 f4 f5 f6, rfl, qq⟩⟩
    · refine thnF (T.item (X.blk s3 H3 scope ce fp) rfl rfl rfl hc i [] s5 _ H5 (fun _ _ => False) I5 (blk I5 n5) st5 go) fun r s6 ⟨u, hr, h6⟩ => ?_
      subst hr
      refine thnF h6 fun _ s7 ⟨x, H7, I7, r7, y7, st7, n7⟩ => ?_
      have I7' := I7.pinned (blk I7 n7) (T.obj _ _ st7)
      have main := dct_turn (s := s7) (Z := X.blk s3 H3 scope ce fp) (vs := own.map (·.2)) (D := D) (Nx := Nx) (E' := notedBy (model X.prog X.w) X.A ce fun e s' => compPost (model X.prog X.w) X.A X.xe none (EP X pins σ Q) (.ref D) s3.heap.objs.size (.error e) s') (R := fun s' => ∃ m, m < n ∧ BetweenT (X.blk s3 H3 scope ce fp) fp tn (wipe σ (own.map (·.2))) W m s') rfl hu pg pk pv I7' r7 (step x H7 y7) fun σ8 H' s' hw I' nx => by
        obtain ⟨m', hm, w'⟩ := hNx H' nx
        have keep : ∀ b ∈ fp, ∀ o, s7.heap.get? b = some o → s'.heap.get? b = some o ∧ H' b = none := fun b hb o z =>
          let y := I'.pin (b, o) (List.mem_append_right _ (List.mem_append_right _ (mem_pinsAt hb z)))
          ⟨y.1, y.2.1⟩
        refine ⟨m', hm, i + 1, H', (I'.unpinned (pins := [])).weak (by rw [← hw, wipe_length]) (fun j v z => ?_), T.keep _ _ _ st7 fun b hb o z => (keep b hb o z).1, fun b hb => ?_, w'⟩
        · rw [← hw] at z
          exact (wipe_some z).1
        · obtain ⟨o, z, _⟩ := T.obj _ _ st7 b hb
          exact (keep b hb o z).2
      exact main
  exact codeAny_compStart_dict loop (T.self X.A 0 _ _ _ st4 loop)
end
end Ka
/-! {k: v for t0 in i0 if .. for t1 in i1 if ..}, whatever the keys are. -/
namespace Ka
open PySem PySem.Spec PyProof.Rows L2
section
variable {P : Program} {w : World} {A : Around} {R : Result → Shared → Prop} {s : Shared} {kx vx t0 i0 t1 i1 : Expr} {f0 f1 : List Expr} {sc : Scope} {ps : Pos} {it : Value} {D : Addr} {ev : Env}
/-- the expression -/
abbrev dcE (kx vx t0 i0 : Expr) (f0 : List Expr) (t1 i1 : Expr) (f1 : List Expr) (sc : Scope) (ps : Pos) : Expr :=
  .DictComp kx vx [⟨t0, i0, f0, 0⟩, ⟨t1, i1, f1, 0⟩] sc ps
/-- whether a clause's tests hold -/
abbrev testsOf (fs : List Expr) (ev : Env) : Sem Bool :=
  forIn fs true fun c r => if r = true then do let ok ← isTrue c ev (eval c ev); pure (ForInStep.yield ok) else pure (ForInStep.yield r)
abbrev Raised (P : Program) (w : World) (A : Around) (ev : Env) (R : Result → Shared → Prop) : Value → Shared → Prop :=
  notedBy (model P w) A ev fun e s' => R (.error e) s'
theorem outer_eq : compTurn (dcE kx vx t0 i0 f0 t1 i1 f1 sc ps) 0 it (.ref D) ev = (do
    standAt i0.pos
    match ← pyNext it with
    | none => pure (.done .next)
    | some v =>
      letOwnedTupleGo t0 it v
      assign t0 ev v
      let ok ← testsOf f0 ev
      if ok then
        let z ← eval i1 ev
        standAt i1.pos
        let z ← foldedSetIterable i1 ev z
        let _ ← runOwn (.compStart (dcE kx vx t0 i0 f0 t1 i1 f1 sc ps) 1 (← holding [z] (pyIter z)) (.ref D) ev) ev
      again (.compLoop (dcE kx vx t0 i0 f0 t1 i1 f1 sc ps) 0 it (.ref D) ev)) := by rfl
theorem inner_eq : compTurn (dcE kx vx t0 i0 f0 t1 i1 f1 sc ps) 1 it (.ref D) ev = (do
    standAt i1.pos
    match ← pyNext it with
    | none => pure (.done .next)
    | some v =>
      letOwnedTupleGo t1 it v
      assign t1 ev v
      let ok ← testsOf f1 ev
      if ok then
        (do
          let y ← eval kx ev
          let z ← holding [y] (eval vx ev)
          standAt { kx.pos with endLine := vx.pos.endLine, endCol := vx.pos.endCol }
          holding [y, z] (dictSet D y z))
      again (.compLoop (dcE kx vx t0 i0 f0 t1 i1 f1 sc ps) 1 it (.ref D) ev)) := by rfl
/-- a turn of the first clause -/
def OutTurn (P : Program) (w : World) (A : Around) (R : Result → Shared → Prop) (kx vx t0 i0 : Expr) (f0 : List Expr) (t1 i1 : Expr) (f1 : List Expr) (sc : Scope) (ps : Pos) (it : Value) (D : Addr) (ev : Env) (go : Shared → Prop) (s : Shared) : Prop :=
  wpAny (model P w) A (pyNext it) (fun r s1 => match r with
    | none => R (.ok .next) s1
    | some v => wpAny (model P w) A (letOwnedTupleGo t0 it v) (fun _ s2 => wpAny (model P w) A (assign t0 ev v) (fun _ s3 => wpAny (model P w) A (testsOf f0 ev) (fun ok s4 =>
        if ok = true then wpAny (model P w) A (eval i1 ev) (fun z s5 => wpAny (model P w) A (pyIter z) (fun it1 s6 => codeAny (model P w) A (.compStart (dcE kx vx t0 i0 f0 t1 i1 f1 sc ps) 1 it1 (.ref D) ev) (fun r s' => match r with
            | .ok _ => go s'
            | .error _ => False) s6) (Raised P w A ev R) s5) (Raised P w A ev R) s4
        else go s4) (Raised P w A ev R) s3) (Raised P w A ev R) s2) (Raised P w A ev R) s1) (Raised P w A ev R) s
theorem outer_loop (hs : ∀ x, foldedSetIterable i1 ev x = pure x) (I : Nat → Shared → Prop) (turn : ∀ n s, I n s → OutTurn P w A R kx vx t0 i0 f0 t1 i1 f1 sc ps it D ev (fun s' => ∃ m, m < n ∧ I m s') s) (n : Nat) (h : I n s) :
    codeAny (model P w) A (.compLoop (dcE kx vx t0 i0 f0 t1 i1 f1 sc ps) 0 it (.ref D) ev) R s := by
  refine codeAny_loop rfl I (fun n s hI => ?_) n h
  have T := turn n s hI
  show wpAny _ A ((compTurn (dcE kx vx t0 i0 f0 t1 i1 f1 sc ps) 0 it (.ref D) ev).onRaise (fun x => do noteFrame x ev; theTreesLotGoes x)) _ _ s
  refine wpAny_noted ?_
  rw [outer_eq]
  refine wpAny_bind (wpAny_standAt (wpAny_bind (wpAny_mono T (fun r a1 b1 => ?_) fun _ _ z => z)))
  cases r with
  | none => exact wpAny_pure b1
  | some v =>
    refine wpAny_bind (wpAny_mono b1 (fun _ a2 b2 => wpAny_bind (wpAny_mono b2 (fun _ a3 b3 => wpAny_bind (wpAny_mono b3 (fun ok a4 b4 => ?_) fun _ _ z => z)) fun _ _ z => z)) fun _ _ z => z)
    cases ok with
    | false => exact wpAny_pure ⟨rfl, b4⟩
    | true =>
      refine wpAny_bind (wpAny_mono b4 (fun z a5 b5 => wpAny_bind (wpAny_standAt (wpAny_bind (wpAny_of_eq (hs z) (wpAny_bind (wpAny_holding (wpAny_mono b5 (fun it1 a6 b6 => ?_) fun _ _ z => z))))))) fun _ _ z => z)
      refine wpAny_bind (wpAny_runOwn ?_)
      rw [Around.mark_none]
      refine codeAny_mono b6 fun r s' hr => ?_
      cases r with
      | error e => exact hr.elim
      | ok f => first | exact wpAny_pure ⟨rfl, hr⟩ | exact wpAny_bind (wpAny_pure (wpAny_pure ⟨rfl, hr⟩))
/-- a turn of the second -/
def InTurn (P : Program) (w : World) (A : Around) (R : Result → Shared → Prop) (kx vx t1 : Expr) (f1 : List Expr) (it : Value) (D : Addr) (ev : Env) (go : Shared → Prop) (s : Shared) : Prop :=
  wpAny (model P w) A (pyNext it) (fun r s1 => match r with
    | none => R (.ok .next) s1
    | some v => wpAny (model P w) A (letOwnedTupleGo t1 it v) (fun _ s2 => wpAny (model P w) A (assign t1 ev v) (fun _ s3 => wpAny (model P w) A (testsOf f1 ev) (fun ok s4 =>
        if ok = true then wpAny (model P w) A (eval kx ev) (fun y s5 => wpAny (model P w) A (eval vx ev) (fun z s6 => wpAny (model P w) A (dictSet D y z) (fun _ s7 => go s7) (Raised P w A ev R) s6) (Raised P w A ev R) s5) (Raised P w A ev R) s4
        else go s4) (Raised P w A ev R) s3) (Raised P w A ev R) s2) (Raised P w A ev R) s1) (Raised P w A ev R) s
theorem inner_loop (I : Nat → Shared → Prop) (turn : ∀ n s, I n s → InTurn P w A R kx vx t1 f1 it D ev (fun s' => ∃ m, m < n ∧ I m s') s) (n : Nat) (h : I n s) :
    codeAny (model P w) A (.compLoop (dcE kx vx t0 i0 f0 t1 i1 f1 sc ps) 1 it (.ref D) ev) R s := by
  refine codeAny_loop rfl I (fun n s hI => ?_) n h
  have T := turn n s hI
  show wpAny _ A ((compTurn (dcE kx vx t0 i0 f0 t1 i1 f1 sc ps) 1 it (.ref D) ev).onRaise (fun x => do noteFrame x ev; theTreesLotGoes x)) _ _ s
  refine wpAny_noted ?_
  rw [inner_eq]
  refine wpAny_bind (wpAny_standAt (wpAny_bind (wpAny_mono T (fun r a1 b1 => ?_) fun _ _ z => z)))
  cases r with
  | none => exact wpAny_pure b1
  | some v =>
    refine wpAny_bind (wpAny_mono b1 (fun _ a2 b2 => wpAny_bind (wpAny_mono b2 (fun _ a3 b3 => wpAny_bind (wpAny_mono b3 (fun ok a4 b4 => ?_) fun _ _ z => z)) fun _ _ z => z)) fun _ _ z => z)
    cases ok with
    | false => exact wpAny_pure ⟨rfl, b4⟩
    | true =>
      exact wpAny_bind (wpAny_bind (wpAny_mono b4 (fun y a5 b5 => wpAny_bind (wpAny_holding (wpAny_mono b5 (fun z a6 b6 => wpAny_bind (wpAny_standAt (wpAny_holding (wpAny_mono b6 (fun _ a7 b7 => wpAny_pure ⟨rfl, b7⟩) fun _ _ z => z)))) fun _ _ z => z))) fun _ _ z => z))
/-- the second clause begins -/
theorem inner_start (h0 : codeAny (model P w) A (.compLoop (dcE kx vx t0 i0 f0 t1 i1 f1 sc ps) 1 it (.ref D) ev) R s)
    (h : wpAny (model P w) A (pyIter it) (fun j s' => codeAny (model P w) A (.compLoop (dcE kx vx t0 i0 f0 t1 i1 f1 sc ps) 1 j (.ref D) ev) R s') (Raised P w A ev R) s) :
    codeAny (model P w) A (.compStart (dcE kx vx t0 i0 f0 t1 i1 f1 sc ps) 1 it (.ref D) ev) R s := by
  refine codeAny_of_tree ?_
  show wpAny _ _ ((compStart (dcE kx vx t0 i0 f0 t1 i1 f1 sc ps) 1 it (.ref D) ev).onRaise (fun x => do noteFrame x ev; standAt theWindowsPlace)) _ _ s
  refine wpAny_notedAt ?_
  unfold compStart
  show wpAny _ _ (ask >>= _) _ _ s
  refine wpAny_bind (wpAny_askSetting (wpAny_ite ?_))
  have l1 : ∀ (j : Value) (s' : Shared), codeAny (model P w) A (.compLoop (dcE kx vx t0 i0 f0 t1 i1 f1 sc ps) 1 j (.ref D) ev) R s' → codeAny (model P w) A (.compLoop (dcE kx vx t0 i0 f0 t1 i1 f1 sc ps) 1 j (.ref D) ev) R s' := fun _ _ z => z
  split
  · first | exact wpAny_pure ⟨rfl, h0⟩ | exact wpAny_bind (wpAny_pure (wpAny_pure ⟨rfl, h0⟩))
  · refine wpAny_bind (wpAny_rule ?_)
    first
      | exact wpAny_bind (wpAny_standAt (wpAny_bind (wpAny_mono h (fun j s' z => wpAny_pure ⟨rfl, z⟩) fun _ _ z => z)))
      | (show wpAny _ _ (standAt i1.pos >>= _) _ _ s; exact wpAny_bind (wpAny_standAt (wpAny_bind (wpAny_mono h (fun j s' z => wpAny_pure ⟨rfl, z⟩) fun _ _ z => z))))
end
/-- what is stored: o0 an empty dict, up what it takes to put a key and a value into the dict at an address -/
structure Store (X : Cx) (o0 : HO) (up : Addr → V → V → Hp → (Hp → Prop) → Prop) : Prop where
  fresh : ∀ {pins : List (Addr × Obj)} {σ : L2.St} {H : Hp} {s : Shared}, Inv X pins σ H s → Inv X pins σ (upd H s.heap.objs.size o0) { s with heap := s.heap.push { cls := .type "dict", data := .dict #[] } }
  put : ∀ {Z : Cx} {pins : List (Addr × Obj)} {σ : L2.St} {H : Hp} {s : Shared} {E : Value → Shared → Prop} {D : Addr} {y z : V} {u r : Value} {Nx : Hp → Prop} {Q : Unit → Shared → Prop}, Z.A = X.A → Inv Z pins σ H s → RelV y u → RelV z r → up D y z H Nx →
    (∀ H' s', Inv Z pins σ H' s' → Nx H' → Q () s') → wpAny (model Z.prog Z.w) Z.A (dictSet D u r) Q E s
/-- keys numbers or texts -/
def upK : Addr → V → V → Hp → (Hp → Prop) → Prop := fun D y z H Nx => ∃ kvs k, y = kV k ∧ H D = some (.dK kvs) ∧ kvs.length < sizeLine ∧ Nx (upd H D (.dK (putK kvs k z)))
/-- keys tuples of them -/
def upT : Addr → V → V → Hp → (Hp → Prop) → Prop := fun D y z H Nx => ∃ kvs k b, y = .ref b ∧ H b = some (.tup (k.map kV)) ∧ H D = some (.dT kvs) ∧ kvs.length < sizeLine ∧ Nx (upd H D (.dT (putK kvs k z)))
theorem storeK {X : Cx} : Store X (.dK []) upK where
  fresh := fun {pins σ H s} I => I.laid (t' := s.toks) (fun b o z => Heap.get?_push_of_some _ z) (Nat.le_refl _) (dk_empty s.heap I.big)
  put := fun _ I ry rz ⟨kvs, k, ey, hD, hz, nx⟩ q => by
    subst ey
    exact d_dictSet I hD hz ry rz fun s' I' => q _ s' I' nx
theorem storeT {X : Cx} (hu : X.A.units + 1 < cLine) : Store X (.dT []) upT where
  fresh := fun {pins σ H s} I => I.laid (t' := s.toks) (fun b o z => Heap.get?_push_of_some _ z) (Nat.le_refl _) (dt_empty s.heap I.big)
  put := fun e I ry rz ⟨kvs, k, b, ey, hb, hD, hz, nx⟩ q => by
    subst ey
    exact dT_set (by rw [e]; exact hu) I hD hz hb ry rz fun s' I' => q _ s' I' nx
/-- the turns of the second clause, from which Nx is reached -/
def InP (up : Addr → V → V → Hp → (Hp → Prop) → Prop) (D : Addr) (g1 : TG) (tt1 : TT) (tk tv : TE) (vs1 : List Nat) (τ : L2.St) (Nx : Hp → Prop) (J : It) (H0 : Hp) : Prop :=
  ∃ W : Nat → Nat → Hp → Prop, (∃ m, W 0 m H0) ∧ ∀ j k H, W j k H → (J.stop j H ∧ Nx H) ∨ (J.go j H ∧ ∃ N1 : Hp → Prop, (∀ H', N1 H' → ∃ k', k' < k ∧ W (j + 1) k' H') ∧
    ∀ x H', J.yld j H x H' → g1 x (wipe τ vs1) H' fun τ2 H5 => wipe τ2 vs1 = wipe τ vs1 ∧ tt1 τ2 H5 fun b H6 => if b = true then tk τ2 H6 fun y H7 => tv τ2 H7 fun z H8 => up D y z H8 N1 else N1 H6)
/-- {k: v for target in iter if .. for target in iter if ..} -/
def tDc2 (o0 : HO) (up : Addr → V → V → Hp → (Hp → Prop) → Prop) (wi : TI) (g : TG) (tt : TT) (wi1 : TI) (g1 : TG) (tt1 : TT) (tk tv : TE) (vs vs1 : List Nat) : TE := fun σ H Q => wi σ H fun J H1 => ∀ D, H1 D = none →
  ∃ W : Nat → Nat → Hp → Prop, (∃ m, W 0 m (upd H1 D o0)) ∧ ∀ i m H, W i m H → (J.stop i H ∧ Q (.ref D) H) ∨ (J.go i H ∧ ∃ Nx : Hp → Prop, (∀ H', Nx H' → ∃ m', m' < m ∧ W (i + 1) m' H') ∧
    ∀ x H', J.yld i H x H' → g x (wipe σ vs) H' fun τ H2 => wipe τ vs = wipe σ vs ∧ tt τ H2 fun b H3 => if b = true then wi1 τ H3 fun J1 H4 => InP up D g1 tt1 tk tv vs1 τ Nx J1 H4 else Nx H3)
section
variable {X : Cx}
/-- a block's part, for any frame that it may get -/
abbrev inB (X : Cx) (sc : Scope) (s : Shared) (H : Hp) (C : Addr) (cl : List (Str × Addr)) (fp : List Addr) : Cx := X.blk s H sc (compEnvC sc cl C X.env) fp
theorem keep_out {σ τ : L2.St} {vs vs1 : List Nat} (hv : ∀ i ∈ vs1, i ∈ vs) (e : wipe τ vs = wipe σ vs) {j : Nat} {v : V} (h : (wipe σ vs)[j]? = some (some v)) : (wipe τ vs1)[j]? = some (some v) := by
  rw [← e] at h
  have h2 := wipe_some h
  rw [wipe_out fun z => h2.2 (hv j z)]
  exact h2.1
/-- what stands between two turns of a clause -/
def Btw (Z : Cx) (pins : List (Addr × Obj)) (fp : List Addr) (tn : Nat → Heap → Prop) (τ : L2.St) (W : Nat → Nat → Hp → Prop) (n : Nat) (s : Shared) : Prop :=
  ∃ i H, Inv Z pins τ H s ∧ tn i s.heap ∧ (∀ b ∈ fp, H b = none) ∧ W i n H
/-- from a turn to the next -/
theorem btw_next {Z : Cx} {pins : List (Addr × Obj)} {t : Expr} {J : It} {fp : List Addr} {it : Addr} {tn : Nat → Heap → Prop} {h : Heap} (T : Turn Z.prog Z.w Z.K t J fp it tn) {τ τ2 : L2.St} {W : Nat → Nat → Hp → Prop} {i n m : Nat} {H : Hp} {s : Shared} (sth : tn (i + 1) h)
    (I : Inv Z (pins ++ pinsAt fp h) τ2 H s) (hl : τ.length = τ2.length) (hk : ∀ (j : Nat) v, τ[j]? = some (some v) → τ2[j]? = some (some v)) (hm : m < n) (w : W (i + 1) m H) : ∃ m, m < n ∧ Btw Z pins fp tn τ W m s := by
  have pin : ∀ b ∈ fp, ∀ o, h.get? b = some o → s.heap.get? b = some o ∧ H b = none := fun b hb o e =>
    let z := I.pin (b, o) (List.mem_append_right _ (List.mem_append_right _ (mem_pinsAt hb e)))
    ⟨z.1, z.2.1⟩
  refine ⟨m, hm, i + 1, H, (I.unpinned (pins := pins)).weak hl hk, T.keep _ _ _ sth fun b hb o e => (pin b hb o e).1, fun b hb => ?_, w⟩
  obtain ⟨o, e, _⟩ := T.obj _ _ sth b hb
  exact (pin b hb o e).2
theorem len_of {τ τ2 : L2.St} {vs : List Nat} (e : wipe τ2 vs = wipe τ vs) : (wipe τ vs).length = τ2.length := by rw [← e, wipe_length]
theorem knows_of {τ τ2 : L2.St} {vs : List Nat} (e : wipe τ2 vs = wipe τ vs) (j : Nat) (v : V) (h : (wipe τ vs)[j]? = some (some v)) : τ2[j]? = some (some v) := by
  rw [← e] at h
  exact (wipe_some h).1
theorem in_turn {Z : Cx} {R : Result → Shared → Prop} {kx vx t1 : Expr} {f1 : List Expr} {o0 : HO} {up : Addr → V → V → Hp → (Hp → Prop) → Prop} (st : Store X o0 up) (zA : Z.A = X.A) (hE : Z.xe = fun _ _ => False) (hc : Z.calm = true) {D : Addr} {J1 : It} {fp1 : List Addr} {it1 : Addr} {tn1 : Nat → Heap → Prop} (T1 : Turn Z.prog Z.w Z.K t1 J1 fp1 it1 tn1)
    {τ : L2.St} {vs1 : List Nat} {pins : List (Addr × Obj)} {Nx : Hp → Prop} {W1 : Nat → Nat → Hp → Prop} {g1 : TG} {tt1 : TT} {tk tv : TE} (pg1 : PG Z t1 g1) (pt1 : PTs Z f1 tt1) (pk : PE Z kx tk) (px : PE Z vx tv) (far : ∀ {H' : Hp}, (∀ b ∈ fp1, H' b = none) → ∀ b ∈ fp1, FpOk Z pins H' b)
    (turn : ∀ j k H, W1 j k H → (J1.stop j H ∧ Nx H) ∨ (J1.go j H ∧ ∃ N1 : Hp → Prop, (∀ H', N1 H' → ∃ k', k' < k ∧ W1 (j + 1) k' H') ∧
      ∀ x H', J1.yld j H x H' → g1 x (wipe τ vs1) H' fun τ2 H5 => wipe τ2 vs1 = wipe τ vs1 ∧ tt1 τ2 H5 fun b H6 => if b = true then tk τ2 H6 fun y H7 => tv τ2 H7 fun z H8 => up D y z H8 N1 else N1 H6))
    (fin : ∀ {H' : Hp} {s' : Shared}, Inv Z pins (wipe τ vs1) H' s' → Nx H' → R (.ok .next) s') (k : Nat) (s : Shared) (h : Btw Z pins fp1 tn1 (wipe τ vs1) W1 k s) :
    InTurn Z.prog Z.w Z.A R kx vx t1 f1 (.ref it1) D Z.env (fun s' => ∃ m, m < k ∧ Btw Z pins fp1 tn1 (wipe τ vs1) W1 m s') s := by
  obtain ⟨j, H, I, stj, no, w⟩ := h
  rcases turn j k H w with ⟨stop, nx⟩ | ⟨go, N1, hN, step⟩
  · refine thnF (T1.done Z rfl rfl rfl hc j _ s _ H (fun _ _ => False) I (far no) stj stop) fun r a1 ⟨hr, I1⟩ => ?_
    subst hr
    exact fin I1 nx
  · refine thnF (T1.item Z rfl rfl rfl hc j _ s _ H (fun _ _ => False) I (far no) stj go) fun r a1 ⟨u, hr, h1⟩ => ?_
    subst hr
    refine thnF h1 fun _ a2 ⟨x, H2, I2, r2, y2, st2, n2⟩ => ?_
    have I2' := I2.pinned (far n2) (T1.obj _ _ st2)
    have b3 := pg1.run _ a2 _ H2 x u _ I2' r2 (step x H2 y2)
    rw [hE] at b3
    refine thnF b3 fun _ a3 ⟨τ2, H3, I3, e3, q3⟩ => ?_
    have b4 := pt1.run _ a3 τ2 H3 _ I3 q3
    rw [hE] at b4
    refine thnF b4 fun b a4 ⟨H4, I4, q4⟩ => ?_
    have next : ∀ {H' : Hp} {s' : Shared}, Inv Z (pins ++ pinsAt fp1 a2.heap) τ2 H' s' → N1 H' → ∃ m, m < k ∧ Btw Z pins fp1 tn1 (wipe τ vs1) W1 m s' := fun I' n' => by
      obtain ⟨m, hm, w'⟩ := hN _ n'
      exact btw_next T1 st2 I' (len_of e3) (knows_of e3) hm w'
    cases b with
    | false =>
      rw [if_neg Bool.false_ne_true] at q4 ⊢
      exact next I4 q4
    | true =>
      rw [if_pos rfl] at q4 ⊢
      have b5 := pk.run _ a4 τ2 H4 _ I4 q4
      rw [hE] at b5
      refine thnF b5 fun v5 a5 ⟨y, H5, I5, r5, q5⟩ => ?_
      have b6 := px.run _ a5 τ2 H5 _ I5 q5
      rw [hE] at b6
      refine thnF b6 fun v6 a6 ⟨z, H6, I6, r6, q6⟩ => ?_
      exact st.put zA I6 r5 r6 q6 fun H' s' I' n' => next I' n'
theorem out_turn {Z : Cx} {R : Result → Shared → Prop} {kx vx t0 i0 t1 i1 : Expr} {f0 f1 : List Expr} {sc : Scope} {ps : Pos} {o0 : HO} {up : Addr → V → V → Hp → (Hp → Prop) → Prop} (st : Store X o0 up) (zA : Z.A = X.A) (hE : Z.xe = fun _ _ => False) (hc : Z.calm = true) {D : Addr} {J : It} {fp : List Addr} {it : Addr} {tn : Nat → Heap → Prop} (T : Turn Z.prog Z.w Z.K t0 J fp it tn)
    {σ : L2.St} {vs vs1 : List Nat} (hv : ∀ i ∈ vs1, i ∈ vs) {Qd : Hp → Prop} {W : Nat → Nat → Hp → Prop} {wi1 : TI} {g g1 : TG} {tt tt1 : TT} {tk tv : TE} (pg : PG Z t0 g) (pt : PTs Z f0 tt) (pi1 : PI Z t1 i1 wi1) (pg1 : PG Z t1 g1) (pt1 : PTs Z f1 tt1) (pk : PE Z kx tk) (px : PE Z vx tv)
    (far : ∀ {τ' : L2.St} {H' : Hp} {s' : Shared}, Inv Z [] τ' H' s' → (∀ b ∈ fp, H' b = none) → ∀ b ∈ fp, FpOk Z [] H' b)
    (turn : ∀ i m H, W i m H → (J.stop i H ∧ Qd H) ∨ (J.go i H ∧ ∃ Nx : Hp → Prop, (∀ H', Nx H' → ∃ m', m' < m ∧ W (i + 1) m' H') ∧
      ∀ x H', J.yld i H x H' → g x (wipe σ vs) H' fun τ H2 => wipe τ vs = wipe σ vs ∧ tt τ H2 fun b H3 => if b = true then wi1 τ H3 fun J1 H4 => InP up D g1 tt1 tk tv vs1 τ Nx J1 H4 else Nx H3))
    (fin : ∀ {H' : Hp} {s' : Shared}, Inv Z [] (wipe σ vs) H' s' → Qd H' → R (.ok .next) s') (n : Nat) (s : Shared) (h : Btw Z [] fp tn (wipe σ vs) W n s) :
    OutTurn Z.prog Z.w Z.A R kx vx t0 i0 f0 t1 i1 f1 sc ps (.ref it) D Z.env (fun s' => ∃ m, m < n ∧ Btw Z [] fp tn (wipe σ vs) W m s') s := by
  obtain ⟨i, H, I, sti, no, w⟩ := h
  rcases turn i n H w with ⟨stop, qd⟩ | ⟨go, Nx, hN, step⟩
  · refine thnF (T.done Z rfl rfl rfl hc i _ s _ H (fun _ _ => False) I (far I no) sti stop) fun r a1 ⟨hr, I1⟩ => ?_
    subst hr
    exact fin I1 qd
  · refine thnF (T.item Z rfl rfl rfl hc i _ s _ H (fun _ _ => False) I (far I no) sti go) fun r a1 ⟨u, hr, h1⟩ => ?_
    subst hr
    refine thnF h1 fun _ a2 ⟨x, H2, I2, r2, y2, st2, n2⟩ => ?_
    have I2' := I2.pinned (far I2 n2) (T.obj _ _ st2)
    have b3 := pg.run _ a2 _ H2 x u _ I2' r2 (step x H2 y2)
    rw [hE] at b3
    refine thnF b3 fun _ a3 ⟨τ, H3, I3, e3, q3⟩ => ?_
    have b4 := pt.run _ a3 τ H3 _ I3 q3
    rw [hE] at b4
    refine thnF b4 fun b a4 ⟨H4, I4, q4⟩ => ?_
    have next : ∀ {τ2 : L2.St} {H' : Hp} {s' : Shared}, Inv Z ([] ++ pinsAt fp a2.heap) τ2 H' s' → (wipe σ vs).length = τ2.length → (∀ (j : Nat) v, (wipe σ vs)[j]? = some (some v) → τ2[j]? = some (some v)) → Nx H' → ∃ m, m < n ∧ Btw Z [] fp tn (wipe σ vs) W m s' := fun I' hl hk n' => by
      obtain ⟨m, hm, w'⟩ := hN _ n'
      exact btw_next T st2 I' hl hk hm w'
    cases b with
    | false =>
      rw [if_neg Bool.false_ne_true] at q4 ⊢
      exact next I4 (len_of e3) (knows_of e3) q4
    | true =>
      rw [if_pos rfl] at q4 ⊢
      have b5 := pi1.run _ a4 τ H4 _ I4 q4
      rw [hE] at b5
      refine thnF b5 fun xv a5 h5 => thnF h5 fun itv a6 ⟨it1, fp1, tn1, J1, H6, e6, I6, T1, st6, f6, W1, ⟨m1, w1⟩, turn1⟩ => ?_
      subst e6
      have loop := inner_loop (t0 := t0) (i0 := i0) (i1 := i1) (f0 := f0) (sc := sc) (ps := ps) (P := Z.prog) (w := Z.w) (A := Z.A) (kx := kx) (vx := vx) (t1 := t1) (f1 := f1) (it := .ref it1) (D := D) (ev := Z.env)
        (R := fun r s' => match r with
          | .ok _ => ∃ m, m < n ∧ Btw Z [] fp tn (wipe σ vs) W m s'
          | .error _ => False)
        (Btw Z ([] ++ pinsAt fp a2.heap) fp1 tn1 (wipe τ vs1) W1)
        (in_turn st zA hE hc T1 (Nx := Nx) pg1 pt1 pk px (fun hn b hb => ⟨hn b hb, (f6 b hb).2⟩) turn1 (fun I' nx => next I' ((len_of e3).trans (wipe_length τ vs1).symm) (fun j v z => keep_out hv e3 z) nx))
        m1 (s := a6) ⟨0, H6, I6.weak (wipe_length _ _) (fun j v z => (wipe_some z).1), st6, fun b hb => (f6 b hb).1, w1⟩
      exact inner_start loop (T1.self _ _ _ _ _ st6 loop)
theorem pe_dc2 {kx vx t0 i0 t1 i1 : Expr} {f0 f1 : List Expr} {sc : Scope} {own : List (Str × Nat)} {vs1 : List Nat} {ps : Pos} {o0 : HO} {up : Addr → V → V → Hp → (Hp → Prop) → Prop} {wi wi1 : TI} {g g1 : TG} {tt tt1 : TT} {tk tv : TE} (st : Store X o0 up) (hc : X.calm = true) (hN : X.N.Nodup) (hi : PI X t0 i0 wi) (ok : BlkOk X.N X.env.scope sc own) (hv : ∀ i ∈ vs1, i ∈ own.map (·.2))
    (hg : ∀ s H C cl fp, PG (inB X sc s H C cl fp) t0 g) (ht : ∀ s H C cl fp, PTs (inB X sc s H C cl fp) f0 tt) (hi1 : ∀ s H C cl fp, PI (inB X sc s H C cl fp) t1 i1 wi1) (hg1 : ∀ s H C cl fp, PG (inB X sc s H C cl fp) t1 g1) (ht1 : ∀ s H C cl fp, PTs (inB X sc s H C cl fp) f1 tt1) (hk : ∀ s H C cl fp, PE (inB X sc s H C cl fp) kx tk) (hx : ∀ s H C cl fp, PE (inB X sc s H C cl fp) vx tv)
    (hs : ∀ x, foldedSetIterable i0 X.env x = pure x := by intro _; rfl) (hs1 : ∀ ev x, foldedSetIterable i1 ev x = pure x := by intro _ _; rfl) : PE X (dcE kx vx t0 i0 f0 t1 i1 f1 sc ps) (tDc2 o0 up wi g tt wi1 g1 tt1 tk tv (own.map (·.2)) vs1) := by
  refine ⟨fun pins s σ H Q I h => ?_⟩
  rw [arm_eval_DictComp]
  have free : ∀ y ∈ sc.names, y.2 = .free → ∃ c, X.env.cells.lookup y.1 = some c := fun y hy e => (ok.free y hy e).elim (fun k => I.ok.has _ (.inl k)) (fun k => I.ok.has _ (.inr k))
  refine wpAny_comprehension_free rfl hs (closure_ok free) ok.kind (fun y hy e => by rw [ok.uniq y hy, e]) (thn (hi.run pins s σ H _ I h) fun _ s1 hx1 => thn hx1 fun _ s2 ⟨it, fp, tn, J, H2, e, I2, T, st2, f2, q⟩ => ?_)
  subst e
  refine wpAny_newObj_type (newEnv_comp ?_)
  have I3 := st.fresh I2
  generalize hD : s2.heap.objs.size = D at I3
  have nD : H2 D = none := I2.hok.fresh (Nat.le_of_eq hD)
  obtain ⟨W, ⟨m0, w0⟩, turn⟩ := q D nD
  generalize hs3 : ({ s2 with heap := s2.heap.push { cls := .type "dict", data := .dict #[] } } : Shared) = s3 at I3
  have h3 : s3.heap = s2.heap.push { cls := .type "dict", data := .dict #[] } := by rw [← hs3]
  have f3 : ∀ b ∈ fp, FpOk X pins (upd H2 D o0) b ∧ b < s3.heap.objs.size := fun b hb => by
    obtain ⟨o, e, _⟩ := T.obj _ _ st2 b hb
    have lt : b < s2.heap.objs.size := Heap.lt_size e
    exact ⟨⟨by rw [upd_ne (by rw [← hD]; exact Nat.ne_of_lt lt)]; exact (f2 b hb).1, (f2 b hb).2⟩, by rw [h3, Heap.size_push]; exact Nat.lt_succ_of_lt lt⟩
  have I4 := block_start I3 ok hN f3
  generalize hcl : cellsFrom (s3.heap.objs.size + 1) sc.names (cloFrom X.env.cells sc.names []) = cl at I4
  have pg := hg s3 (upd H2 D o0) s3.heap.objs.size cl fp
  have pt := ht s3 (upd H2 D o0) s3.heap.objs.size cl fp
  have pi1 := hi1 s3 (upd H2 D o0) s3.heap.objs.size cl fp
  have pg1 := hg1 s3 (upd H2 D o0) s3.heap.objs.size cl fp
  have pt1 := ht1 s3 (upd H2 D o0) s3.heap.objs.size cl fp
  have pk := hk s3 (upd H2 D o0) s3.heap.objs.size cl fp
  have px := hx s3 (upd H2 D o0) s3.heap.objs.size cl fp
  dsimp only [inB] at pg pt pi1 pg1 pt1 pk px
  show codeAny _ _ (.compStart (dcE kx vx t0 i0 f0 t1 i1 f1 sc ps) 0 (.ref it) (.ref D) (compEnvC sc cl s3.heap.objs.size X.env)) (compPost (model X.prog X.w) X.A X.xe none (EP X pins σ Q) (.ref D) s3.heap.objs.size) { s3 with heap := pushCells (s3.heap.push { cls := .type "dict", data := .dict #[] }) sc.names }
  generalize hce : compEnvC sc cl s3.heap.objs.size X.env = ce at I4 pg pt pi1 pg1 pt1 pk px ⊢
  have cL : ce.locals = s3.heap.objs.size := by subst hce; rfl
  generalize hH3 : upd H2 D o0 = H3 at I3 I4 pg pt pi1 pg1 pt1 pk px w0 f3
  generalize hs4 : ({ s3 with heap := pushCells (s3.heap.push { cls := .type "dict", data := .dict #[] }) sc.names } : Shared) = s4 at I4 ⊢
  have st4 : tn 0 s4.heap := T.keep _ _ _ st2 fun b _ o z => by
    rw [← hs4]
    exact pushCells_keeps _ _ _ _ (Heap.get?_push_of_some _ (by rw [h3]; exact Heap.get?_push_of_some _ z))
  have far : ∀ {τ : L2.St} {H' : Hp} {s' : Shared}, Inv (X.blk s3 H3 sc ce fp) [] τ H' s' → (∀ b ∈ fp, H' b = none) → ∀ b ∈ fp, FpOk (X.blk s3 H3 sc ce fp) [] H' b := fun J' hn b hb =>
    ⟨hn b hb, (J'.ok.exf b hb).1, J'.ok.exfs b hb, .inl hb, fun x c z => (J'.ok.exf b hb).2 x c z, fun p hp => absurd (show p ∈ ([] : List (Addr × Obj)) ++ [] from hp) (by simp)⟩
  have loop : codeAny (model X.prog X.w) X.A (.compLoop (dcE kx vx t0 i0 f0 t1 i1 f1 sc ps) 0 (.ref it) (.ref D) ce) (compPost (model X.prog X.w) X.A X.xe none (EP X pins σ Q) (.ref D) s3.heap.objs.size) s4 := by
    refine outer_loop (hs1 ce) (Btw (X.blk s3 H3 sc ce fp) [] fp tn (wipe σ (own.map (·.2))) W) (fun n s' b => ?_) m0 ⟨0, H3, I4, st4, fun b hb => (f3 b hb).1.1, w0⟩
    refine out_turn (Z := X.blk s3 H3 sc ce fp) st rfl rfl hc T hv (Qd := fun H => Q (.ref D) H) pg pt pi1 pg1 pt1 pk px far turn (fun {H' s'} I' qq => ?_) n s' b
    have I7 : Inv X pins σ H' s' := I3.call' (ch := fp) I'.os I'.base I'.hok I'.bare fun b hb => ⟨(f3 b hb).1.2.2.2.1, (f3 b hb).1.2.1, (f3 b hb).1.2.2.2.2.1, (f3 b hb).1.2.2.2.2.2⟩
    have nC : H' s3.heap.objs.size = none := by
      have z : H' ce.locals = none := I'.free
      rwa [cL] at z
    obtain ⟨m, hn, _⟩ := I'.loc
    have hn : s'.heap.Ns ce.locals m := hn
    rw [cL] at hn
    obtain ⟨z0, z1, z2, z4, z5, z6⟩ := I3.fpOk (Nat.le_refl _) nC
    exact ⟨m, hn, fun h'' sb => ⟨.ref D, H', I7.turned (t' := s'.toks) (fun b o hb z => (sb.2 b hb).trans z) z0 z1 z4 z5 z6, rfl, qq⟩⟩
  exact codeAny_compStart_dict loop (T.self X.A 0 _ _ _ st4 loop)
end
end Ka
/-! Heaps as lists (own text; no part of the kit). -/
namespace Kp
variable {α : Type} {lt : α → α → Bool}
/-- less, as a heap wants it -/
structure Ord (lt : α → α → Bool) : Prop where
  asym : ∀ a b, lt a b = true → lt b a = false
  cot : ∀ a b c, lt a b = false → lt b c = false → lt a c = false
theorem Ord.trans (o : Ord lt) {a b c : α} (h1 : lt a b = true) (h2 : lt b c = true) : lt a c = true := by
  cases h : lt a c with
  | true => rfl
  | false =>
    have := o.cot a c b h (o.asym b c h2)
    rw [h1] at this
    cases this
theorem Ord.irr (o : Ord lt) (a : α) : lt a a = false := by
  cases h : lt a a with
  | false => rfl
  | true => rw [← h]; exact o.asym a a h
def par (i : Nat) : Nat := (i - 1) / 2
theorem par_lt {i : Nat} (h : 0 < i) : par i < i := by unfold par; omega
/-- no item is less than the one above it -/
def IsHeap (lt : α → α → Bool) (l : List α) : Prop := ∀ (i : Nat) (x y : α), 0 < i → l[i]? = some x → l[par i]? = some y → lt x y = false
/-- so but at one place, which is as if it were not there -/
structure But (lt : α → α → Bool) (l : List α) (p : Nat) : Prop where
  far : ∀ (i : Nat) (x y : α), 0 < i → i ≠ p → par i ≠ p → l[i]? = some x → l[par i]? = some y → lt x y = false
  near : ∀ (i : Nat) (x y : α), 0 < i → 0 < p → par i = p → l[i]? = some x → l[par p]? = some y → lt x y = false
/-- so but the one at p may be less than the one above it -/
structure Up (lt : α → α → Bool) (l : List α) (p : Nat) : Prop where
  far : ∀ (i : Nat) (x y : α), 0 < i → i ≠ p → l[i]? = some x → l[par i]? = some y → lt x y = false
  near : ∀ (i : Nat) (x y : α), 0 < i → 0 < p → par i = p → l[i]? = some x → l[par p]? = some y → lt x y = false
theorem heap_nil : IsHeap lt ([] : List α) := fun i x y _ h => by simp at h
theorem root_least (o : Ord lt) {l : List α} (h : IsHeap lt l) {r : α} (hr : l[0]? = some r) : ∀ (i : Nat) (x : α), l[i]? = some x → lt x r = false := by
  intro i
  induction i using Nat.strongRecOn with
  | ind i ih =>
    intro x hx
    by_cases h0 : i = 0
    · subst h0
      rw [hr] at hx
      cases hx
      exact o.irr _
    · have hp := par_lt (i := i) (by omega)
      have hl := (List.getElem?_eq_some_iff.mp hx).1
      have hy : l[par i]? = some (l[par i]'(by omega)) := List.getElem?_eq_getElem (by omega)
      exact o.cot _ _ _ (h i x _ (by omega) hx hy) (ih _ hp _ hy)
/-- two exchanged -/
def swp (l : List α) (i j : Nat) (x y : α) : List α := (l.set i y).set j x
theorem swp_at {l : List α} {i j : Nat} {x y : α} (hi : i < l.length) (hj : j < l.length) (hij : i ≠ j) (k : Nat) : (swp l i j x y)[k]? = if k = j then some x else if k = i then some y else l[k]? := by
  unfold swp
  rw [List.getElem?_set]
  by_cases h1 : j = k
  · subst h1
    rw [if_pos rfl, if_pos rfl, if_pos (by rw [List.length_set]; exact hj)]
  · rw [if_neg h1, if_neg (fun e => h1 e.symm), List.getElem?_set]
    by_cases h2 : i = k
    · subst h2
      rw [if_pos rfl, if_pos rfl, if_pos hi]
    · rw [if_neg h2, if_neg (fun e => h2 e.symm)]
theorem swp_perm {l : List α} {i j : Nat} {x y : α} (hx : l[i]? = some x) (hy : l[j]? = some y) : (swp l i j x y).Perm l := by
  obtain ⟨hi, rfl⟩ := List.getElem?_eq_some_iff.mp hx
  obtain ⟨hj, rfl⟩ := List.getElem?_eq_some_iff.mp hy
  exact List.set_set_perm hi hj
theorem swp_len {l : List α} {i j : Nat} {x y : α} : (swp l i j x y).length = l.length := by
  unfold swp
  rw [List.length_set, List.length_set]
theorem up_done (l : List α) {p : Nat} (h : Up lt l p) (hp : p = 0 ∨ ∀ x y, l[p]? = some x → l[par p]? = some y → lt x y = false) : IsHeap lt l := by
  intro i x y h0 hx hy
  by_cases e : i = p
  · subst e
    rcases hp with z | z
    · omega
    · exact z x y hx hy
  · exact h.far i x y h0 e hx hy
theorem up_step (o : Ord lt) {l : List α} {p : Nat} {x y : α} (h : Up lt l p) (h0 : 0 < p) (hx : l[p]? = some x) (hy : l[par p]? = some y) (hxy : lt x y = true) : Up lt (swp l (par p) p y x) (par p) := by
  have hpl := par_lt h0
  have hp := (List.getElem?_eq_some_iff.mp hx).1
  have hq : par p < l.length := by omega
  have hat := fun k => swp_at (x := y) (y := x) hq hp (Nat.ne_of_lt hpl) k
  refine ⟨fun i a b hi0 hiq ha hb => ?_, fun i a b hi0 hq0 hpi ha hb => ?_⟩
  · rw [hat] at ha hb
    by_cases e1 : i = p
    · subst e1
      rw [if_pos rfl] at ha
      rw [if_neg (Nat.ne_of_lt hpl), if_pos rfl] at hb
      cases ha
      cases hb
      exact o.asym _ _ hxy
    · rw [if_neg e1, if_neg hiq] at ha
      by_cases e2 : par i = p
      · rw [if_pos e2] at hb
        cases hb
        exact h.near i a y hi0 h0 e2 ha hy
      · rw [if_neg e2] at hb
        by_cases e3 : par i = par p
        · rw [if_pos e3] at hb
          cases hb
          have h1 := h.far i a y hi0 e1 ha (by rw [e3]; exact hy)
          cases h2 : lt a x with
          | false => rfl
          | true =>
            have := o.trans h2 hxy
            rw [h1] at this
            cases this
        · rw [if_neg e3] at hb
          exact h.far i a b hi0 e1 ha hb
  · have hgq := par_lt hq0
    rw [hat] at ha hb
    rw [if_neg (by omega), if_neg (by omega)] at hb
    have hyb : lt y b = false := h.far (par p) y b hq0 (Nat.ne_of_lt hpl) hy hb
    by_cases e1 : i = p
    · rw [if_pos e1] at ha
      cases ha
      exact hyb
    · have hiq : i ≠ par p := by
        have := par_lt hi0
        omega
      rw [if_neg e1, if_neg hiq] at ha
      exact o.cot _ _ _ (h.far i a y hi0 e1 ha (by rw [hpi]; exact hy)) hyb
/-- no child: it may be as if less -/
theorem but_up {l : List α} {p : Nat} (h : But lt l p) (hp : ¬ p < l.length / 2) : Up lt l p := by
  refine ⟨fun i x y h0 hi hx hy => ?_, h.near⟩
  by_cases e : par i = p
  · have := (List.getElem?_eq_some_iff.mp hx).1
    unfold par at e
    omega
  · exact h.far i x y h0 hi e hx hy
/-- the child c, not greater than the other one, goes up -/
theorem but_step (o : Ord lt) {l : List α} {p c : Nat} {x y : α} (h : But lt l p) (hc0 : 0 < c) (hcp : par c = p) (hx : l[c]? = some x) (hy : l[p]? = some y) (hmin : ∀ (i : Nat) (z : α), 0 < i → par i = p → l[i]? = some z → lt z x = false) : But lt (swp l c p x y) c := by
  have hpc : p < c := by have := par_lt hc0; omega
  have hc := (List.getElem?_eq_some_iff.mp hx).1
  have hp : p < l.length := by omega
  have hat := fun k => swp_at (x := x) (y := y) hc hp (Nat.ne_of_gt hpc) k
  refine ⟨fun i a b hi0 hic hpi ha hb => ?_, fun i a b hi0 _ hpi ha hb => ?_⟩
  · rw [hat] at ha hb
    rw [if_neg hic] at ha
    rw [if_neg hpi] at hb
    by_cases e1 : i = p
    · subst e1
      rw [if_pos rfl] at ha
      have hpi0 := par_lt hi0
      rw [if_neg (Nat.ne_of_lt hpi0)] at hb
      cases ha
      exact h.near c x b hc0 hi0 hcp hx hb
    · rw [if_neg e1] at ha
      by_cases e2 : par i = p
      · rw [if_pos e2] at hb
        cases hb
        exact hmin i a hi0 e2 ha
      · rw [if_neg e2] at hb
        exact h.far i a b hi0 e1 e2 ha hb
  · rw [hat] at ha hb
    have hci : c < i := by have := par_lt hi0; omega
    rw [if_neg (by omega), if_neg (by omega)] at ha
    rw [hcp, if_pos rfl] at hb
    cases hb
    exact h.far i a x hi0 (by omega) (by omega) ha (by rw [hpi]; exact hx)
theorem but_of_heap {l : List α} (h : IsHeap lt l) (z : α) : But lt (l.set 0 z) 0 := by
  refine ⟨fun i x y h0 _ hp hx hy => ?_, fun i x y _ h0 => absurd h0 (Nat.lt_irrefl _)⟩
  rw [List.getElem?_set_ne (by omega)] at hx
  rw [List.getElem?_set_ne (fun e => hp e.symm)] at hy
  exact h i x y h0 hx hy
theorem up_of_heap {l : List α} (h : IsHeap lt l) (z : α) : Up lt (l ++ [z]) l.length := by
  refine ⟨fun i x y h0 hi hx hy => ?_, fun i x y h0 hp hpi hx hy => ?_⟩
  · have hl := (List.getElem?_eq_some_iff.mp hx).1
    rw [List.length_append, List.length_singleton] at hl
    have hil : i < l.length := by omega
    have hpl := par_lt h0
    rw [List.getElem?_append_left hil] at hx
    rw [List.getElem?_append_left (by omega)] at hy
    exact h i x y h0 hx hy
  · have hl := (List.getElem?_eq_some_iff.mp hx).1
    rw [List.length_append, List.length_singleton] at hl
    have := par_lt h0
    omega
theorem heap_dropLast {l : List α} (h : IsHeap lt l) : IsHeap lt l.dropLast := by
  intro i x y h0 hx hy
  rw [List.dropLast_eq_take, List.getElem?_take] at hx hy
  split at hx
  · split at hy
    · exact h i x y h0 hx hy
    · cases hy
  · cases hx
end Kp
/-! heappush and heappop of a list of tuples, by their data. -/
namespace Ka
open PySem PySem.Spec PyProof.Rows L2 PySem.W PySem.SeqAt
theorem plain_push : plainId "_heapq.heappush" = true := by decide +kernel
theorem plain_pop : plainId "_heapq.heappop" = true := by decide +kernel
theorem plain_sift : plainId "_heapq.heapify.sift" = true := by decide +kernel
theorem kind_push : builtinKind "_heapq.heappush" = none := by decide +kernel
theorem kind_pop : builtinKind "_heapq.heappop" = none := by decide +kernel
theorem entry_push : entryFor table "_heapq.heappush" = some Builtin.«_heapq.heappush» := entryFor_of_fast (by kernel_rfl)
theorem entry_pop : entryFor table "_heapq.heappop" = some Builtin.«_heapq.heappop» := entryFor_of_fast (by kernel_rfl)
theorem entry_sift : entryFor table "_heapq.heapify.sift" = some Builtin.«_heapq.heapify.sift» := entryFor_of_fast (by kernel_rfl)
theorem args_push (a b : Value) : argsOk "_heapq.heappush" ⟨[a, b], []⟩ := by unfold argsOk; kernel_rfl
theorem args_pop (a : Value) : argsOk "_heapq.heappop" ⟨[a], []⟩ := by unfold argsOk; kernel_rfl
theorem sub_list : isSubtype (.type "list") (.type "list") = pure true := by rw [isSubtype_type]; kernel_rfl
/-- an item with its data -/
abbrev HZ := V × PyData
def hzV (zs : List HZ) : List V := zs.map (·.1)
theorem hzV_len (zs : List HZ) : (hzV zs).length = zs.length := List.length_map _
def hzLt (a b : HZ) : Bool := dataLt a.2 b.2
/-- the data stands so long as the tuples stand -/
def DpS (K : PySem.W.Frag) (H : Hp) (z : HZ) : Prop := ∀ H' : Hp, (∀ b xs, H b = some (.tup xs) → H' b = some (.tup xs)) → Dp K H' z.1 z.2
structure HzOk (K : PySem.W.Frag) (H : Hp) (zs : List HZ) : Prop where
  st : ∀ z ∈ zs, DpS K H z
  al : ∀ z ∈ zs, ∀ y ∈ zs, alike z.2 y.2 = true
  nn : ∀ z ∈ zs, z.2 ≠ .none
  dep : ∀ z ∈ zs, z.2.depth ≤ 50
theorem HzOk.sub {K : PySem.W.Frag} {H : Hp} {zs ys : List HZ} (h : HzOk K H zs) (s : ∀ y ∈ ys, y ∈ zs) : HzOk K H ys :=
  ⟨fun z hz => h.st z (s z hz), fun z hz y hy => h.al z (s z hz) y (s y hy), fun z hz => h.nn z (s z hz), fun z hz => h.dep z (s z hz)⟩
theorem hz_at {zs : List HZ} {its : List Value} (r : Vals (hzV zs) its) {i : Nat} {z : HZ} (h : zs[i]? = some z) : ∃ u, its[i]? = some u ∧ RelV z.1 u := r.get (x := z.1) (by unfold hzV; rw [List.getElem?_map, h]; rfl)
theorem swp_vals {zs : List HZ} {its : List Value} (r : Vals (hzV zs) its) {i j : Nat} {x y : HZ} {u v : Value} (hu : RelV x.1 u) (hv : RelV y.1 v) : Vals (hzV (Kp.swp zs i j x y)) ((its.set i v).set j u) := by
  have := Vals.set hu j (Vals.set hv i r)
  unfold Kp.swp hzV
  rw [List.map_set, List.map_set]
  exact this
section
variable {X : Cx} {pins : List (Addr × Obj)} {σ : L2.St} {H : Hp} {a : Addr} {xs0 : List V}
/-- the heap with the list at a -/
abbrev HL (H : Hp) (a : Addr) (zs : List HZ) : Hp := upd H a (.lst (hzV zs))
theorem HL.lst (zs : List HZ) : HL H a zs a = some (.lst (hzV zs)) := upd_same
theorem hl_tup (ha : H a = some (.lst xs0)) (zs : List HZ) : ∀ b xs, H b = some (.tup xs) → HL H a zs b = some (.tup xs) := fun b xs e => by
  show upd H a _ b = _
  rw [upd_ne (fun q => by rw [q, ha] at e; cases e)]
  exact e
/-- two items compared, at any state on the way -/
theorem hz_less (hu : X.A.units + 64 < cLine) (ha : H a = some (.lst xs0)) {ys zs : List HZ} (ok : HzOk X.K H ys) {s : Shared} (I : Inv X pins σ (HL H a zs) s) {x y : HZ} (hx : x ∈ ys) (hy : y ∈ ys) {u v : Value} (ru : RelV x.1 u) (rv : RelV y.1 v) : RcLt X.A.in1 s u v (hzLt x y) := by
  obtain ⟨as, r1⟩ := Dp.reads I x.2 x.1 u (ok.st x hx _ (hl_tup ha zs)) ru
  obtain ⟨bs, r2⟩ := Dp.reads I y.2 y.1 v (ok.st y hy _ (hl_tup ha zs)) rv
  refine rcLt_alike _ _ _ s u v _ _ r1 r2 (ok.al x hx y hy) (ok.nn x hx) ?_
  have h1 := ok.dep x hx
  have h2 : X.A.in1.units = X.A.units + 1 := rfl
  have := Nat.min_le_left x.2.depth y.2.depth
  omega
theorem hl_obj {zs : List HZ} {s : Shared} (I : Inv X pins σ (HL H a zs) s) : ∃ (its : List Value) (n : Nat), Vals (hzV zs) its ∧ s.heap.get? a = some { cls := .type "list", data := .seq its.toArray n } ∧ (hzV zs).length ≤ sizeLine := I.lst HL.lst'
  where HL.lst' : HL H a zs a = some (.lst (hzV zs)) := upd_same
theorem hl_upd {zs zs' : List HZ} {s : Shared} {its its' : List Value} {n n' : Nat} {f : Obj → Obj} (I : Inv X pins σ (HL H a zs) s) (ho : s.heap.get? a = some { cls := .type "list", data := .seq its.toArray n })
    (hf : f { cls := .type "list", data := .seq its.toArray n } = { cls := .type "list", data := .seq its'.toArray n' }) (r : Vals (hzV zs') its') (hz : (hzV zs').length ≤ sizeLine) : Inv X pins σ (HL H a zs') { s with heap := s.heap.update a f } := by
  have := I.lstUpd (p := a) upd_same ho hf r hz s.toks
  rw [upd_upd] at this
  exact this
theorem hl_set {zs zs' : List HZ} {s : Shared} {its its' : List Value} {n : Nat} {f : Array Value → Array Value} (I : Inv X pins σ (HL H a zs) s) (ho : s.heap.get? a = some { cls := .type "list", data := .seq its.toArray n })
    (hf : f its.toArray = its'.toArray) (r : Vals (hzV zs') its') (hz : (hzV zs').length ≤ sizeLine) : Inv X pins σ (HL H a zs') { s with heap := s.heap.update a (Obj.mapSeq f) } := by
  have := I.lset (l := a) (t' := s.toks) upd_same ho hf r hz
  rw [upd_upd] at this
  exact this
/-- up -/
theorem sift_up (o : Kp.Ord hzLt) (hu : X.A.units + 64 < cLine) (ha : H a = some (.lst xs0)) {ys : List HZ} (ok : HzOk X.K H ys) {result : Value} {R : Result → Shared → Prop} : ∀ (n pos : Nat) (zs : List HZ) (s : Shared), pos ≤ n → pos < zs.length → zs.Perm ys → Inv X pins σ (HL H a zs) s → Kp.Up hzLt zs pos →
    (∀ (zs' : List HZ) (s' : Shared), zs'.Perm ys → Kp.IsHeap hzLt zs' → Inv X pins σ (HL H a zs') s' → R (.ok (.ret result)) s') →
    codeAny (model X.prog X.w) X.A (.builtin "_heapq.heapify.sift" ⟨[.ref a, .bool false, .bool false, rawInt pos, rawInt 0, result, rawInt (-1)], []⟩) R s := by
  intro n
  induction n with
  | zero =>
    intro pos zs s hpn hpl hp I hup hR
    obtain rfl : pos = 0 := by omega
    obtain ⟨its, m, rv, hob, hz⟩ := hl_obj I
    refine codeAny_builtin entry_sift ?_
    rw [Around.under_plainId plain_sift _]
    show wpAny _ X.A.in1 ((seqItems? (.ref a) >>= _) >>= _) _ _ s
    refine wpAny_bind (wpAny_bind (wpAny_seqItems hob rfl ?_))
    refine wpAny_pure ?_
    show wpAny _ X.A.in1 (ret result) _ _ s
    refine wpAny_pure ?_
    exact hR zs s hp (Kp.up_done zs hup (.inl rfl)) I
  | succ n ih =>
    intro pos zs s hpn hpl hp I hup hR
    obtain ⟨its, m, rv, hob, hz⟩ := hl_obj I
    have hlen : its.length = zs.length := by rw [← rv.length, hzV_len]
    refine codeAny_builtin entry_sift ?_
    rw [Around.under_plainId plain_sift _]
    show wpAny _ X.A.in1 ((seqItems? (.ref a) >>= _) >>= _) _ _ s
    refine wpAny_bind (wpAny_bind (wpAny_seqItems hob rfl ?_))
    refine wpAny_pure ?_
    by_cases h0 : pos = 0
    · subst h0
      show wpAny _ X.A.in1 (ret result) _ _ s
      refine wpAny_pure ?_
      exact hR zs s hp (Kp.up_done zs hup (.inl rfl)) I
    · have hq : Kp.par pos < pos := Kp.par_lt (by omega)
      have hx : zs[pos]? = some zs[pos] := List.getElem?_eq_getElem hpl
      have hy : zs[Kp.par pos]? = some (zs[Kp.par pos]'(by omega)) := List.getElem?_eq_getElem (by omega)
      generalize zs[pos] = x at hx
      generalize zs[Kp.par pos]'(by omega) = y at hy
      obtain ⟨u, hu1, ru⟩ := hz_at rv hx
      obtain ⟨v, hv1, rv1⟩ := hz_at rv hy
      have hxm : x ∈ ys := hp.subset (List.mem_of_getElem? hx)
      have hym : y ∈ ys := hp.subset (List.mem_of_getElem? hy)
      show wpAny _ X.A.in1 (if pos > 0 then _ else _) _ _ s
      rw [if_pos (by omega)]
      have e1 : its.toArray[pos]? = some u := by simpa using hu1
      have e2 : its.toArray[(pos - 1) / 2]? = some v := by
        show its.toArray[Kp.par pos]? = some v
        simpa using hv1
      refine wpAny_bind (wpAny_of_eq (a := u) (by show (match its.toArray[pos]? with | some v => (pure v : Sem Value) | none => unsupported _) = _; rw [e1]) ?_)
      refine wpAny_bind (wpAny_of_eq (a := v) (by show (match its.toArray[(pos - 1) / 2]? with | some v => (pure v : Sem Value) | none => unsupported _) = _; rw [e2]) ?_)
      show wpAny _ X.A.in1 ((holding [u, v] (richCompare .Lt u v >>= _) >>= _) >>= _) _ _ s
      refine wpAny_bind (wpAny_bind (wpAny_holding (wpAny_bind (hz_less hu ha ok I hxm hym ru rv1 _ _ _ _ ?_))))
      refine wpAny_truthy_bool ?_
      show wpAny _ X.A.in1 ((seqItems? (.ref a) >>= _) >>= _) _ _ s
      refine wpAny_bind (wpAny_bind (wpAny_seqItems hob rfl ?_))
      refine wpAny_pure ?_
      show wpAny _ X.A.in1 (if (its.toArray.size != its.toArray.size) = true then _ else pure (hzLt x y)) _ _ s
      rw [if_neg (by simp)]
      refine wpAny_pure ?_
      cases hxy : hzLt x y with
      | false =>
        show wpAny _ X.A.in1 (ret result) _ _ s
        refine wpAny_pure ?_
        exact hR zs s hp (Kp.up_done zs hup (.inr fun x' y' hx' hy' => by
          rw [hx] at hx'
          rw [hy] at hy'
          cases hx'
          cases hy'
          exact hxy)) I
      | true =>
        show wpAny _ X.A.in1 (((seqItems? (.ref a) >>= _) >>= _) >>= _) _ _ s
        refine wpAny_bind (wpAny_bind (wpAny_bind (wpAny_seqItems hob rfl ?_)))
        refine wpAny_pure ?_
        refine wpAny_bind (wpAny_of_eq (a := v) (by show (match its.toArray[(pos - 1) / 2]? with | some v => (pure v : Sem Value) | none => unsupported _) = _; rw [e2]) ?_)
        refine wpAny_bind (wpAny_of_eq (a := u) (by show (match its.toArray[pos]? with | some v => (pure v : Sem Value) | none => unsupported _) = _; rw [e1]) ?_)
        refine wpAny_updateSeq hob rfl ?_ (by rw [List.size_toArray, hlen, ← hzV_len]; exact hz) (by rw [Array.size_setIfInBounds, Array.size_setIfInBounds, List.size_toArray, hlen, ← hzV_len]; omega)
        refine wpAny_pure ⟨plainId_quiet plain_sift _, ih (Kp.par pos) (Kp.swp zs (Kp.par pos) pos y x) _ (by omega) (by rw [Kp.swp_len]; omega) ((Kp.swp_perm hy hx).trans hp) ?_ (Kp.up_step o hup (by omega) hx hy hxy) hR⟩
        exact hl_upd (its' := (its.set ((pos - 1) / 2) u).set pos v) (n' := m) I hob (by simp [Obj.mapSeq]) (swp_vals rv rv1 ru) (by rw [hzV_len, Kp.swp_len, ← hzV_len]; exact hz)
theorem par_l (p : Nat) : Kp.par (2 * p + 1) = p := by unfold Kp.par; omega
theorem par_r (p : Nat) : Kp.par (2 * p + 1 + 1) = p := by unfold Kp.par; omega
theorem par_two {i p : Nat} (h0 : 0 < i) (h : Kp.par i = p) : i = 2 * p + 1 ∨ i = 2 * p + 1 + 1 := by unfold Kp.par at h; omega
/-- down -/
theorem sift_down (o : Kp.Ord hzLt) (hu : X.A.units + 64 < cLine) (ha : H a = some (.lst xs0)) {ys : List HZ} (ok : HzOk X.K H ys) {result : Value} {R : Result → Shared → Prop} : ∀ (n pos : Nat) (zs : List HZ) (s : Shared), zs.length ≤ pos + n → pos < zs.length → zs.Perm ys → Inv X pins σ (HL H a zs) s → Kp.But hzLt zs pos →
    (∀ (zs' : List HZ) (s' : Shared), zs'.Perm ys → Kp.IsHeap hzLt zs' → Inv X pins σ (HL H a zs') s' → R (.ok (.ret result)) s') →
    codeAny (model X.prog X.w) X.A (.builtin "_heapq.heapify.sift" ⟨[.ref a, .bool false, .bool true, rawInt pos, rawInt 0, result, rawInt (-1)], []⟩) R s := by
  intro n
  induction n with
  | zero =>
    intro pos zs s hpn hpl
    omega
  | succ n ih =>
    intro pos zs s hpn hpl hp I hbut hR
    obtain ⟨its, m, rv, hob, hz⟩ := hl_obj I
    have hlen : its.length = zs.length := by rw [← rv.length, hzV_len]
    have hsz : its.toArray.size = zs.length := by rw [List.size_toArray, hlen]
    refine codeAny_builtin entry_sift ?_
    rw [Around.under_plainId plain_sift _]
    show wpAny _ X.A.in1 ((seqItems? (.ref a) >>= _) >>= _) _ _ s
    refine wpAny_bind (wpAny_bind (wpAny_seqItems hob rfl ?_))
    refine wpAny_pure ?_
    show wpAny _ X.A.in1 (if pos < its.toArray.size / 2 then _ else _) _ _ s
    by_cases hh : pos < zs.length / 2
    · rw [if_pos (by rw [hsz]; exact hh)]
      have hll : 2 * pos + 1 < zs.length := by omega
      have hyp : zs[pos]? = some zs[pos] := List.getElem?_eq_getElem hpl
      generalize zs[pos] = y at hyp
      obtain ⟨v, hv1, rvy⟩ := hz_at rv hyp
      have ey : its.toArray[pos]? = some v := by simpa using hv1
      -- the swap, once the child is known
      have swap : ∀ (c : Nat) (x : HZ) (jp : Unit → Nat → Sem Fin), 0 < c → Kp.par c = pos → zs[c]? = some x → (∀ (i : Nat) (z : HZ), 0 < i → Kp.par i = pos → zs[i]? = some z → hzLt z x = false) →
          ∀ (u : Value), its.toArray[c]? = some u → RelV x.1 u →
          ∃ s' : Shared, s' = { s with heap := s.heap.update a (Obj.mapSeq fun xs => (xs.setIfInBounds c v).setIfInBounds pos u) } ∧ Inv X pins σ (HL H a (Kp.swp zs c pos x y)) s' ∧
            codeAny (model X.prog X.w) X.A (.builtin "_heapq.heapify.sift" ⟨[.ref a, .bool false, .bool true, rawInt c, rawInt 0, result, rawInt (-1)], []⟩) R s' := by
        intro c x _ hc0 hcp hxc hmin u hu1 ru
        have hcl := (List.getElem?_eq_some_iff.mp hxc).1
        have hlt : pos < c := by have := Kp.par_lt hc0; omega
        have I' : Inv X pins σ (HL H a (Kp.swp zs c pos x y)) { s with heap := s.heap.update a (Obj.mapSeq fun xs => (xs.setIfInBounds c v).setIfInBounds pos u) } :=
          hl_upd (its' := (its.set c v).set pos u) (n' := m) I hob (by simp [Obj.mapSeq]) (swp_vals rv ru rvy) (by rw [hzV_len, Kp.swp_len, ← hzV_len]; exact hz)
        exact ⟨_, rfl, I', ih c _ _ (by rw [Kp.swp_len]; omega) (by rw [Kp.swp_len]; exact hcl) ((Kp.swp_perm hxc hyp).trans hp) I' (Kp.but_step o hbut hc0 hcp hxc hyp hmin) hR⟩
      have hxl : zs[2 * pos + 1]? = some zs[2 * pos + 1] := List.getElem?_eq_getElem hll
      generalize zs[2 * pos + 1] = xl at hxl
      obtain ⟨ul, hul, rul⟩ := hz_at rv hxl
      have el : its.toArray[2 * pos + 1]? = some ul := by simpa using hul
      show wpAny _ X.A.in1 (if 2 * pos + 1 + 1 < its.toArray.size then _ else _) _ _ s
      by_cases hr : 2 * pos + 1 + 1 < zs.length
      · rw [if_pos (by rw [hsz]; exact hr)]
        have hxr : zs[2 * pos + 1 + 1]? = some zs[2 * pos + 1 + 1] := List.getElem?_eq_getElem hr
        generalize zs[2 * pos + 1 + 1] = xr at hxr
        obtain ⟨ur, hur, rur⟩ := hz_at rv hxr
        have er : its.toArray[2 * pos + 1 + 1]? = some ur := by simpa using hur
        have hlm : xl ∈ ys := hp.subset (List.mem_of_getElem? hxl)
        have hrm : xr ∈ ys := hp.subset (List.mem_of_getElem? hxr)
        refine wpAny_bind (wpAny_of_eq (a := ul) (by show (match its.toArray[2 * pos + 1]? with | some v => (pure v : Sem Value) | none => unsupported _) = _; rw [el]) ?_)
        refine wpAny_bind (wpAny_of_eq (a := ur) (by show (match its.toArray[2 * pos + 1 + 1]? with | some v => (pure v : Sem Value) | none => unsupported _) = _; rw [er]) ?_)
        show wpAny _ X.A.in1 ((holding [ul, ur] (richCompare .Lt ul ur >>= _) >>= _) >>= _) _ _ s
        refine wpAny_bind (wpAny_bind (wpAny_holding (wpAny_bind (hz_less hu ha ok I hlm hrm rul rur _ _ _ _ ?_))))
        refine wpAny_truthy_bool ?_
        show wpAny _ X.A.in1 ((seqItems? (.ref a) >>= _) >>= _) _ _ s
        refine wpAny_bind (wpAny_bind (wpAny_seqItems hob rfl ?_))
        refine wpAny_pure ?_
        show wpAny _ X.A.in1 (if (its.toArray.size != its.toArray.size) = true then _ else pure (hzLt xl xr)) _ _ s
        rw [if_neg (by simp)]
        refine wpAny_pure ?_
        cases hlr : hzLt xl xr with
        | true =>
          obtain ⟨s', rfl, I', hC⟩ := swap (2 * pos + 1) xl (fun _ _ => ret result) (by omega) (par_l pos) hxl (fun i z hi0 hip hz' => by
            rcases par_two hi0 hip with rfl | rfl
            · rw [hxl] at hz'
              cases hz'
              exact o.irr _
            · rw [hxr] at hz'
              cases hz'
              exact o.asym _ _ hlr) ul el rul
          show wpAny _ X.A.in1 (((seqItems? (.ref a) >>= _) >>= _) >>= _) _ _ s
          refine wpAny_bind (wpAny_bind (wpAny_bind (wpAny_seqItems hob rfl ?_)))
          refine wpAny_pure ?_
          refine wpAny_bind (wpAny_of_eq (a := ul) (by show (match its.toArray[2 * pos + 1]? with | some v => (pure v : Sem Value) | none => unsupported _) = _; rw [el]) ?_)
          refine wpAny_bind (wpAny_of_eq (a := v) (by show (match its.toArray[pos]? with | some v => (pure v : Sem Value) | none => unsupported _) = _; rw [ey]) ?_)
          refine wpAny_updateSeq hob rfl ?_ (by rw [List.size_toArray, hlen, ← hzV_len]; exact hz) (by rw [Array.size_setIfInBounds, Array.size_setIfInBounds, List.size_toArray, hlen, ← hzV_len]; omega)
          exact wpAny_pure ⟨plainId_quiet plain_sift _, hC⟩
        | false =>
          obtain ⟨s', rfl, I', hC⟩ := swap (2 * pos + 1 + 1) xr (fun _ _ => ret result) (by omega) (par_r pos) hxr (fun i z hi0 hip hz' => by
            rcases par_two hi0 hip with rfl | rfl
            · rw [hxl] at hz'
              cases hz'
              exact hlr
            · rw [hxr] at hz'
              cases hz'
              exact o.irr _) ur er rur
          show wpAny _ X.A.in1 (((seqItems? (.ref a) >>= _) >>= _) >>= _) _ _ s
          refine wpAny_bind (wpAny_bind (wpAny_bind (wpAny_seqItems hob rfl ?_)))
          refine wpAny_pure ?_
          refine wpAny_bind (wpAny_of_eq (a := ur) (by show (match its.toArray[2 * pos + 1 + 1]? with | some v => (pure v : Sem Value) | none => unsupported _) = _; rw [er]) ?_)
          refine wpAny_bind (wpAny_of_eq (a := v) (by show (match its.toArray[pos]? with | some v => (pure v : Sem Value) | none => unsupported _) = _; rw [ey]) ?_)
          refine wpAny_updateSeq hob rfl ?_ (by rw [List.size_toArray, hlen, ← hzV_len]; exact hz) (by rw [Array.size_setIfInBounds, Array.size_setIfInBounds, List.size_toArray, hlen, ← hzV_len]; omega)
          exact wpAny_pure ⟨plainId_quiet plain_sift _, hC⟩
      · rw [if_neg (by rw [hsz]; exact hr)]
        obtain ⟨s', rfl, I', hC⟩ := swap (2 * pos + 1) xl (fun _ _ => ret result) (by omega) (par_l pos) hxl (fun i z hi0 hip hz' => by
          rcases par_two hi0 hip with rfl | rfl
          · rw [hxl] at hz'
            cases hz'
            exact o.irr _
          · have := (List.getElem?_eq_some_iff.mp hz').1
            omega) ul el rul
        show wpAny _ X.A.in1 (((seqItems? (.ref a) >>= _) >>= _) >>= _) _ _ s
        refine wpAny_bind (wpAny_bind (wpAny_bind (wpAny_seqItems hob rfl ?_)))
        refine wpAny_pure ?_
        refine wpAny_bind (wpAny_of_eq (a := ul) (by show (match its.toArray[2 * pos + 1]? with | some v => (pure v : Sem Value) | none => unsupported _) = _; rw [el]) ?_)
        refine wpAny_bind (wpAny_of_eq (a := v) (by show (match its.toArray[pos]? with | some v => (pure v : Sem Value) | none => unsupported _) = _; rw [ey]) ?_)
        refine wpAny_updateSeq hob rfl ?_ (by rw [List.size_toArray, hlen, ← hzV_len]; exact hz) (by rw [Array.size_setIfInBounds, Array.size_setIfInBounds, List.size_toArray, hlen, ← hzV_len]; omega)
        exact wpAny_pure ⟨plainId_quiet plain_sift _, hC⟩
    · rw [if_neg (by rw [hsz]; exact hh)]
      show wpAny _ X.A.in1 (again _) _ _ s
      refine wpAny_pure ⟨plainId_quiet plain_sift _, sift_up o hu ha ok pos pos zs s (Nat.le_refl _) hpl hp I (Kp.but_up hbut hh) hR⟩
theorem hz_ord : Kp.Ord hzLt where
  asym := fun a b h => by
    unfold hzLt dataLt at *
    cases h2 : PyProof.Rows.lexLt itemOrd (keyToks b.2) (keyToks a.2) with
    | false => rfl
    | true =>
      have := lex_trans _ _ _ h h2
      rw [lex_irrefl] at this
      cases this
  cot := fun a b c h1 h2 => by
    unfold hzLt dataLt at *
    cases h3 : PyProof.Rows.lexLt itemOrd (keyToks a.2) (keyToks c.2) with
    | false => rfl
    | true =>
      rcases lex_negTrans _ (keyToks b.2) _ h3 with z | z
      · rw [h1] at z
        cases z
      · rw [h2] at z
        cases z
/-- heappush(l, x) -/
def rPush (K : PySem.W.Frag) : List V → Hp → VK → Prop := fun vs H Q => ∃ (a : Addr) (z : HZ) (zs : List HZ), vs = [.ref a, z.1] ∧ H a = some (.lst (hzV zs)) ∧ HzOk K H (zs ++ [z]) ∧ zs.length < 1000000 ∧ Kp.IsHeap hzLt zs ∧
  ∀ ys, ys.Perm (zs ++ [z]) → Kp.IsHeap hzLt ys → Q .non (upd H a (.lst (hzV ys)))
theorem cr_push (hu : X.A.units + 64 < cLine) : CallR X (.builtin "_heapq.heappush") (rPush X.K) := by
  intro pins s σ H vs us Q I r h
  obtain ⟨a, z, zs, rfl, ha, ok, hlen, hh, q⟩ := h
  obtain ⟨u1, u, rfl, r1, ru⟩ := vals2 r
  cases (show u1 = Value.ref a from r1)
  have h0 : upd H a (.lst (hzV zs)) = H := by
    funext b
    by_cases e : b = a
    · rw [e, upd_same, ha]
    · rw [upd_ne e]
  have I0 : Inv X pins σ (HL H a zs) s := by
    show Inv X pins σ (upd H a (.lst (hzV zs))) s
    rw [h0]
    exact I
  obtain ⟨its, m, rv, hob, hz⟩ := hl_obj I0
  have hil : its.length = zs.length := by rw [← rv.length, hzV_len]
  refine call_function_tree kind_push plain_push entry_push (args_push _ _) ?_
  show wpAny _ X.A.in1 ((noKeywords "_heapq.heappush" ⟨[.ref a, u], []⟩ >>= _) >>= _) _ _ s
  refine wpAny_bind (wpAny_bind (wpAny_of_eq (show noKeywords "_heapq.heappush" ⟨[.ref a, u], []⟩ = pure () from rfl) ?_))
  refine wpAny_bind (wpAny_of_eq (show checkCount "heappush" 2 2 ([.ref a, u] : List Value).length = pure () from rfl) ?_)
  show wpAny _ X.A.in1 ((isInstance (.ref a) (.type "list") >>= _) >>= _) _ _ s
  refine wpAny_bind (wpAny_bind (wpAny_isInstance (T := "list") (b := true) ⟨_, hob, rfl⟩ sub_list ?_))
  show wpAny _ X.A.in1 (pure a) _ _ s
  refine wpAny_pure (wpAny_pure ?_)
  show wpAny _ X.A.in1 (updateSeq a (·.push u) >>= _) _ _ s
  refine wpAny_bind (wpAny_updateSeq hob rfl ?_ (by rw [List.size_toArray, hil, ← hzV_len]; exact hz) (by rw [Array.size_push, List.size_toArray, hil, ← hzV_len]; omega))
  have l6 : zs.length + 1 ≤ sizeLine := by rw [sizeLine_eq]; omega
  have I1 : Inv X pins σ (HL H a (zs ++ [z])) { s with heap := s.heap.update a (Obj.mapSeq (·.push u)) } :=
    hl_set (its' := its ++ [u]) I0 hob (by simp) (by unfold hzV; rw [List.map_append]; exact rv.append (.cons ru .nil)) (by rw [hzV_len, List.length_append, List.length_singleton]; exact l6)
  obtain ⟨its1, m1, rv1, hob1, hz1⟩ := hl_obj I1
  have hil1 : its1.length = zs.length + 1 := by rw [← rv1.length, hzV_len, List.length_append, List.length_singleton]
  show wpAny _ X.A.in1 (((seqItems? (.ref a) >>= _) >>= _)) _ _ _
  refine wpAny_bind (wpAny_bind (wpAny_seqItems hob1 rfl ?_))
  refine wpAny_pure ?_
  show wpAny _ X.A.in1 (again (.builtin "_heapq.heapify.sift" ⟨[.ref a, .bool false, .bool false, rawInt ((its1.toArray.size - 1 : Nat)), rawInt ((0 : Nat)), .none, rawInt (-1)], []⟩)) _ _ _
  have hsz1 : its1.toArray.size - 1 = zs.length := by
    rw [List.size_toArray, hil1]
    omega
  rw [hsz1]
  refine wpAny_pure ⟨plainId_quiet plain_sift _, sift_up hz_ord hu ha ok zs.length zs.length (zs ++ [z]) _ (Nat.le_refl _) (by rw [List.length_append, List.length_singleton]; omega) (List.Perm.refl _) I1 (Kp.up_of_heap hh z) fun ys s' hp hh' I' => ?_⟩
  exact ⟨.non, _, I', rfl, q ys hp hh'⟩
/-- heappop(l), l not empty -/
def rPop (K : PySem.W.Frag) : List V → Hp → VK → Prop := fun vs H Q => ∃ (a : Addr) (zs : List HZ), vs = [.ref a] ∧ H a = some (.lst (hzV zs)) ∧ HzOk K H zs ∧ 0 < zs.length ∧ Kp.IsHeap hzLt zs ∧
  ∀ (z : HZ) (ys : List HZ), zs.Perm (z :: ys) → Kp.IsHeap hzLt ys → (∀ y ∈ ys, hzLt y z = false) → Q z.1 (upd H a (.lst (hzV ys)))
theorem cr_pop (hu : X.A.units + 64 < cLine) : CallR X (.builtin "_heapq.heappop") (rPop X.K) := by
  intro pins s σ H vs us Q I r h
  obtain ⟨a, zs, rfl, ha, ok, hpos, hh, q⟩ := h
  rw [Vals.ref1 r]
  have h0 : upd H a (.lst (hzV zs)) = H := by
    funext b
    by_cases e : b = a
    · rw [e, upd_same, ha]
    · rw [upd_ne e]
  have I0 : Inv X pins σ (HL H a zs) s := by
    show Inv X pins σ (upd H a (.lst (hzV zs))) s
    rw [h0]
    exact I
  obtain ⟨its, m, rv, hob, hz⟩ := hl_obj I0
  have hil : its.length = zs.length := by rw [← rv.length, hzV_len]
  have hxl : zs[zs.length - 1]? = some (zs[zs.length - 1]'(by omega)) := List.getElem?_eq_getElem (by omega)
  generalize zs[zs.length - 1]'(by omega) = zl at hxl
  obtain ⟨ul, hul, rul⟩ := hz_at rv hxl
  have hx0 : zs[0]? = some (zs[0]'hpos) := List.getElem?_eq_getElem hpos
  generalize zs[0]'hpos = z0 at hx0
  obtain ⟨u0, hu0, ru0⟩ := hz_at rv hx0
  have hback : its.toArray.back? = some ul := by
    rw [Array.back?_eq_getElem?]
    simp only [List.size_toArray, List.getElem?_toArray]
    rw [hil]
    exact hul
  have hroot := Kp.root_least hz_ord hh hx0
  refine call_function_tree kind_pop plain_pop entry_pop (args_pop _) ?_
  show wpAny _ X.A.in1 ((oneArg "_heapq.heappop" ⟨[.ref a], []⟩ >>= _) >>= _) _ _ s
  refine wpAny_bind (wpAny_bind (wpAny_of_eq (show oneArg "_heapq.heappop" ⟨[.ref a], []⟩ = pure (.ref a) from rfl) ?_))
  show wpAny _ X.A.in1 ((isInstance (.ref a) (.type "list") >>= _) >>= _) _ _ s
  refine wpAny_bind (wpAny_bind (wpAny_isInstance (T := "list") (b := true) ⟨_, hob, rfl⟩ sub_list ?_))
  show wpAny _ X.A.in1 (pure a) _ _ s
  refine wpAny_pure (wpAny_pure ?_)
  show wpAny _ X.A.in1 ((seqItems? (.ref a) >>= _) >>= _) _ _ s
  refine wpAny_bind (wpAny_bind (wpAny_seqItems hob rfl ?_))
  refine wpAny_pure ?_
  simp only [hback]
  have hlz : (hzV zs).length = zs.length := hzV_len zs
  refine wpAny_bind (wpAny_updateSeq hob rfl ?_ (by rw [List.size_toArray, hil, ← hzV_len]; exact hz) (by rw [Array.size_pop, List.size_toArray, hil]; omega))
  have I1 : Inv X pins σ (HL H a zs.dropLast) { s with heap := s.heap.update a (Obj.mapSeq (·.pop)) } :=
    hl_set (its' := its.dropLast) I0 hob (by simp) (by unfold hzV; rw [List.map_dropLast, List.dropLast_eq_take, List.dropLast_eq_take, List.length_map, hil]; exact rv.take _) (by rw [hzV_len, List.length_dropLast]; omega)
  obtain ⟨its1, m1, rv1, hob1, hz1⟩ := hl_obj I1
  by_cases h1 : zs.length = 1
  · rw [if_pos (by rw [List.size_toArray, hil, h1]; rfl)]
    match zs, h1, hxl, q, I1 with
    | [z], _, hxl, q, I1 =>
      cases hxl
      refine wpAny_pure ⟨zl.1, _, I1, rul, ?_⟩
      exact q zl [] (List.Perm.refl _) Kp.heap_nil fun y hy => nomatch hy
  · rw [if_neg (by rw [List.size_toArray, hil]; simpa using h1)]
    obtain ⟨mid, hmid⟩ : ∃ mid, zs = z0 :: (mid ++ [zl]) := by
      match zs, h1, hx0, hxl with
      | [], _, hx0, _ => cases hx0
      | x :: rest, h1, hx0, hxl =>
        cases hx0
        have hr : rest ≠ [] := fun e => h1 (by rw [e]; rfl)
        refine ⟨rest.dropLast, ?_⟩
        have hg : rest.getLast hr = zl := by
          have : (z0 :: rest)[(z0 :: rest).length - 1]? = some (rest.getLast hr) := by
            rw [List.length_cons, Nat.add_sub_cancel]
            cases rest with
            | nil => exact absurd rfl hr
            | cons y t =>
              rw [List.length_cons, List.getElem?_cons_succ, List.getLast_eq_getElem]
              simp
          rw [hxl] at this
          exact (Option.some.inj this).symm
        rw [← hg, List.dropLast_concat_getLast]
    have e0 : its.toArray[0]? = some u0 := by simpa using hu0
    refine wpAny_bind (wpAny_of_eq (a := u0) (by show (match its.toArray[0]? with | some v => (pure v : Sem Value) | none => unsupported _) = _; rw [e0]) ?_)
    have hil1 : its1.length = zs.dropLast.length := by rw [← rv1.length, hzV_len]
    refine wpAny_bind (wpAny_updateSeq hob1 rfl ?_ (by rw [List.size_toArray, hil1, ← hzV_len]; exact hz1) (by rw [Array.size_setIfInBounds, List.size_toArray, hil1, ← hzV_len]; omega))
    have hdl : zs.dropLast = z0 :: mid := by
      rw [hmid, ← List.cons_append, List.dropLast_concat]
    have hset : zs.dropLast.set 0 zl = zl :: mid := by rw [hdl]; rfl
    have hperm : (zl :: mid).Perm (zl :: mid) := List.Perm.refl _
    have hsub : ∀ y ∈ zl :: mid, y ∈ zs := fun y hy => by
      rw [hmid]
      rcases List.mem_cons.mp hy with e | e
      · rw [e]
        exact List.mem_cons_of_mem _ (List.mem_append_right _ List.mem_cons_self)
      · exact List.mem_cons_of_mem _ (List.mem_append_left _ e)
    have I2 := hl_set (zs' := zl :: mid) (its' := its1.set 0 ul) (f := fun xs => xs.setIfInBounds 0 ul) I1 hob1 (by simp) (by rw [← hset]; unfold hzV; rw [List.map_set]; exact Vals.set rul 0 rv1) (by rw [hzV_len, ← hset, List.length_set, ← hzV_len]; exact hz1)
    have hbut : Kp.But hzLt (zl :: mid) 0 := by
      rw [← hset]
      exact Kp.but_of_heap (Kp.heap_dropLast hh) zl
    refine wpAny_pure ⟨plainId_quiet plain_sift _, sift_down hz_ord hu ha (ok.sub hsub) (zl :: mid).length 0 (zl :: mid) _ (by omega) (Nat.succ_pos _) hperm I2 hbut fun ys s' hp hh' I' => ?_⟩
    refine ⟨z0.1, _, I', ru0, q z0 ys ?_ hh' fun y hy => ?_⟩
    · rw [hmid]
      refine List.Perm.cons _ ?_
      exact (List.perm_append_comm (l₁ := mid) (l₂ := [zl])).trans hp.symm
    · obtain ⟨i, hi⟩ := List.mem_iff_getElem?.mp (hsub y (hp.subset hy))
      exact hroot i y hi
end
end Ka
/-! sorted(l) of a list of tuples by their data; sorted(d) of a dict whose keys are tuples. -/
namespace Ka
open PySem PySem.Spec PyProof.Rows L2 PySem.W PySem.SeqAt
def hzLe (a b : HZ) : Bool := !hzLt b a
theorem hz_each : ∀ {zs : List HZ} {us : List Value}, Vals (hzV zs) us → EachIs (fun v (b : HZ) => RelV b.1 v) us zs
  | [], _, r => by
    cases r
    exact .nil
  | x :: zs, _, r => by
    cases r with
    | cons a b => exact .cons a (hz_each b)
theorem each_hz : ∀ {zs : List HZ} {us : List Value}, EachIs (fun v (b : HZ) => RelV b.1 v) us zs → Vals (hzV zs) us
  | _, _, .nil => .nil
  | _, _, .cons h t => .cons h (each_hz t)
def rSortG (K : PySem.W.Frag) : List V → Hp → VK → Prop := fun vs H Q => ∃ (a : Addr) (zs : List HZ), vs = [V.ref a] ∧ SqL K H a (hzV zs) ∧ (∀ z ∈ zs, Dp K H z.1 z.2) ∧ (∀ z ∈ zs, ∀ y ∈ zs, alike z.2 y.2 = true) ∧ (∀ z ∈ zs, ∃ x r, z.2 = .tuple (x :: r)) ∧ (∀ z ∈ zs, z.2.depth ≤ 50) ∧
  ∀ p, H p = none → Q (.ref p) (upd H p (.lst (hzV (zs.mergeSort hzLe))))
theorem cr_sortG {X : Cx} (hu : X.A.units + 64 < cLine) : CallR X (.builtin "sorted") (rSortG X.K) := by
  intro pins s σ H vs us Q I r h
  obtain ⟨a, zs, rfl, hs, hr, hal, ht, hdep, q⟩ := h
  obtain ⟨its, rv, hl, hz⟩ := I.list hs
  rw [Vals.ref1 r]
  rw [hzV_len] at hz
  have e := hz_each rv
  have er : EachIs (fun v (b : HZ) => ∃ as, Reads s.heap v b.2 as) its zs := (each_mem e).mono fun v b ⟨ev, hm⟩ => Dp.reads I b.2 b.1 v (hr b hm) ev
  refine sorted_data (enc := fun r : HZ => r.2) hl.isList e er (fun d hd d' hd' => ?_) (.inl fun d hd => ?_) hz (fun b hb => ?_) fun out hol eo => ?_
  · obtain ⟨r, h1, rfl⟩ := List.mem_map.mp hd
    obtain ⟨q, h2, rfl⟩ := List.mem_map.mp hd'
    exact hal r h1 q h2
  · obtain ⟨r, hm, rfl⟩ := List.mem_map.mp hd
    exact ht r hm
  · have := hdep b hb
    omega
  · obtain ⟨ep, he'⟩ := PyProof.Rows.sortedAll_at s.heap its out.toArray
    have hle : (hzV (zs.mergeSort hzLe)).length ≤ sizeLine := by
      rw [hzV_len, List.length_mergeSort]
      exact hz
    exact ⟨.ref _, upd H (s.heap.objs.size + 1) (.lst (hzV (zs.mergeSort hzLe))), I.laid (t' := s.toks) (fun _ _ => PyProof.Rows.sortedAll_old) (Nat.le_succ _) ⟨hle, out, ep, each_hz eo, he'⟩, rfl, q _ (I.hok.fresh (Nat.le_succ _))⟩
/-! ### keys that are tuples -/
def keyD : L2.Key → PyData
  | .inl i => .int i
  | .inr x => .str x
def keysD (k : List L2.Key) : PyData := .tuple (k.map keyD)
def kLe (a b : List L2.Key) : Bool := !dataLt (keysD b) (keysD a)
theorem depth_keys : ∀ k : List L2.Key, PyData.depthAll (k.map keyD) ≤ 1
  | [] => by simp [PyData.depthAll]
  | x :: k => by
    have := depth_keys k
    rw [List.map_cons]
    simp only [PyData.depthAll]
    have : (keyD x).depth ≤ 1 := by cases x <;> simp [keyD, PyData.depth]
    omega
theorem depth_keysD (k : List L2.Key) : (keysD k).depth ≤ 2 := by
  have := depth_keys k
  unfold keysD
  simp only [PyData.depth]
  omega
theorem reads_keys {h : Heap} : ∀ {k : List L2.Key} {us : List Value}, Vals (k.map kV) us → ReadsAll h us (k.map keyD) []
  | [], _, r => by
    cases r
    exact .nil
  | x :: k, _, r => by
    rw [List.map_cons] at r
    cases r with
    | cons a b =>
      cases x with
      | inl i =>
        obtain ⟨t, rfl⟩ := a
        exact .cons (as := []) (bs := []) (.int i t) (reads_keys b)
      | inr z =>
        obtain ⟨t, rfl⟩ := a
        exact .cons (as := []) (bs := []) (.str z t) (reads_keys b)
/-- a key at its place -/
abbrev KR := Addr × List L2.Key
theorem krs_of {H : Hp} {kvs : List (List L2.Key × V)} {xs : List (List L2.Key × Addr × Value)} (r : KT H kvs xs) :
    ∃ rs : List KR, rs.map (·.2) = kvs.map (·.1) ∧ rs.map (·.1) = xs.map (fun x => x.2.1) ∧ ∀ r ∈ rs, H r.1 = some (.tup (r.2.map kV)) := by
  induction r with
  | nil => exact ⟨[], rfl, rfl, fun r h => by cases h⟩
  | @cons p q ps qs hq t ih =>
    obtain ⟨rs, h1, h2, h3⟩ := ih
    refine ⟨(q.2.1, p.1) :: rs, by rw [List.map_cons, h1]; rfl, by rw [List.map_cons, List.map_cons, h2], fun r hr => ?_⟩
    rcases List.mem_cons.mp hr with e | hr
    · subst e
      exact hq.2.1
    · exact h3 r hr
theorem kr_each {rs : List KR} {us : List Value} (e : EachIs (fun v (b : KR) => v = Value.ref b.1) us rs) : Vals (rs.map fun r => V.ref r.1) us := by
  induction e with
  | nil => exact .nil
  | cons h t ih =>
    subst h
    exact .cons rfl ih
def rSortT : List V → Hp → VK → Prop := fun vs H Q => ∃ (a : Addr) (kvs : List (List L2.Key × V)), vs = [.ref a] ∧ Rd H a (.dT kvs) ∧ (∀ x ∈ kvs, ∀ y ∈ kvs, alike (keysD x.1) (keysD y.1) = true) ∧ (∀ x ∈ kvs, x.1 ≠ []) ∧
  ∀ (rs : List KR) (p : Addr), rs.map (·.2) = (kvs.map (·.1)).mergeSort kLe → (∀ r ∈ rs, H r.1 = some (.tup (r.2.map kV))) → H p = none → Q (.ref p) (upd H p (.lst (rs.map fun r => V.ref r.1)))
theorem cr_sortT {X : Cx} (hc : X.calm = true) (hu : X.A.units + 64 < cLine) : CallR X (.builtin "sorted") rSortT := by
  intro pins s σ H vs us Q I r h
  obtain ⟨a, kvs, rfl, hd, halk, hne, q⟩ := h
  obtain rfl := Vals.ref1 r
  obtain ⟨z, lo, xs, rel, o, es, ep, ho, hx, hdat, hes, hno⟩ := (show ObjOk X.prog X.w H s.heap a (.dT kvs) from hd.ok I.hok)
  obtain ⟨rs, h1, h2, h3⟩ := krs_of rel
  have hlen : rs.length = es.size := by
    have e1 := congrArg List.length h2
    have e2 := congrArg List.length hes
    rw [List.length_map, List.length_map] at e1
    rw [Array.length_toList, List.length_map] at e2
    omega
  have hz : rs.length ≤ sizeLine := by
    have e1 := congrArg List.length h2
    have e2 := Paired.length rel
    rw [List.length_map, List.length_map] at e1
    omega
  have hmem : ∀ r ∈ rs, ∃ x ∈ kvs, x.1 = r.2 := fun r hr => by
    have : r.2 ∈ kvs.map (·.1) := by rw [← h1]; exact List.mem_map.mpr ⟨r, hr, rfl⟩
    obtain ⟨x, hx, e⟩ := List.mem_map.mp this
    exact ⟨x, hx, e⟩
  have hall : AllAlike (rs.map fun r => keysD r.2) := fun d hd d' hd' => by
    obtain ⟨r, hr, rfl⟩ := List.mem_map.mp hd
    obtain ⟨r', hr', rfl⟩ := List.mem_map.mp hd'
    obtain ⟨x, hx, e⟩ := hmem r hr
    obtain ⟨y, hy, e'⟩ := hmem r' hr'
    rw [← e, ← e']
    exact halk x hx y hy
  have hso : Sortable (rs.map fun r => keysD r.2) := .inl fun d hd => by
    obtain ⟨r, hr, rfl⟩ := List.mem_map.mp hd
    obtain ⟨x, hx, e⟩ := hmem r hr
    have := hne x hx
    rw [e] at this
    cases h : r.2 with
    | nil => exact absurd h this
    | cons y l => exact ⟨keyD y, l.map keyD, rfl⟩
  have raw : s.heap.DictRaw a es ep := ⟨o, ho, hx, hdat⟩
  refine Calls.call_function_entry PyProof.Rows.kind_sorted PyProof.Rows.plain_sorted PyProof.Rows.entry_sorted (PyProof.Rows.args_sorted1 _) ?_
  unfold Builtin.«sorted»
  refine wpAny_bind (m := checkCount "sorted" 1 1 _) (wpAny_pure ?_)
  refine wpAny_bind (kdu_collect (A := X.A.in1) (KdlSrc.rawDict (es := es) (ep := ep) lo) (I.ok.hd hc) raw (by omega) fun h' tk acc hkp hacc => ?_)
  have hal : acc.toList.length = rs.length := by rw [Array.length_toList, hacc.1, hlen]
  have each : EachIs (fun v (b : KR) => v = Value.ref b.1) acc.toList rs := by
    refine EachIs.of_zip hal fun p hp => ?_
    obtain ⟨i, hi⟩ := List.getElem?_of_mem hp
    rw [List.getElem?_zip_eq_some] at hi
    obtain ⟨hia, hib⟩ := hi
    obtain ⟨hsz, ev⟩ := hacc.2 i p.1 (by rw [← Array.getElem?_toList]; exact hia)
    have e1 : (rs.map (·.1))[i]? = some p.2.1 := by rw [List.getElem?_map, hib]; rfl
    have e2 : es.toList[i]? = some es[i] := by rw [Array.getElem?_toList, Array.getElem?_eq_getElem hsz]
    rw [h2, List.getElem?_map] at e1
    rw [hes, List.getElem?_map] at e2
    cases ex : xs[i]? with
    | none =>
      rw [ex] at e1
      cases e1
    | some x =>
      rw [ex] at e1 e2
      have e1' : x.2.1 = p.2.1 := Option.some.inj e1
      have e2' := Option.some.inj e2
      rw [ev, ← e2', ← e1']
      rfl
  have I1 : Inv X pins σ H { s with heap := h', toks := tk } := I.kept hkp
  refine wpAny_bind (wpAny_newList ?_ (by omega))
  have hoL : (h'.push (seqObj "list" acc.toList.toArray 0)).get? h'.objs.size = some (seqObj "list" acc.toList.toArray 0) := Heap.get?_push_size _ rfl
  have ne : ∀ {b : Addr} {o : Obj}, s.heap.get? b = some o → b ≠ h'.objs.size := fun e => Nat.ne_of_lt (Heap.lt_size (hkp _ _ e))
  refine wpAny_bind (wpAny_holding ?_)
  show wpAny (model X.prog X.w) X.A.in1 (call (.builtin "list.sort") [.ref h'.objs.size]) _ _ { s with heap := h'.push (seqObj "list" acc.toList.toArray 0), toks := tk }
  have er : EachIs (fun v (b : KR) => ∃ as, Reads (h'.push (seqObj "list" acc.toList.toArray 0)) v (keysD b.2) as ∧ h'.objs.size ∉ as) acc.toList rs := (each_mem each).mono fun v b ⟨ev, hm⟩ => by
    subst ev
    obtain ⟨its', rv', ht, hz'⟩ := I.tuple (.inl (.inl (h3 b hm)))
    obtain ⟨o2, ho2, hc2, n2, hd2⟩ := ht
    refine ⟨_, Reads.tuple (Heap.get?_push_of_some _ (hkp _ _ ho2)) hc2 hd2 (reads_keys rv'), fun hmm => ?_⟩
    have hb := Heap.lt_size (hkp _ _ ho2)
    simp at hmm
  refine list_sort_data (s := { s with heap := h'.push (seqObj "list" acc.toList.toArray 0), toks := tk }) (enc := fun r : KR => keysD r.2) hoL each er hall hso hz (fun r _ => ?_) fun out ho2 eo => ?_
  · have hdep := depth_keysD r.2
    show X.A.units + 1 + 1 + (keysD r.2).depth < cLine
    omega
  · obtain ⟨e', he'⟩ := PyProof.Rows.sortedHeap_at (vs := acc.toList) (out := out.toArray) hoL
    have hle2 : ((rs.mergeSort fun a b => kLe a.2 b.2).map fun r => V.ref r.1).length ≤ sizeLine := by
      rw [List.length_map, List.length_mergeSort]
      exact hz
    have up : ∀ b o, h'.get? b = some o → (sortedHeap (h'.push (seqObj "list" acc.toList.toArray 0)) h'.objs.size acc.toList out.toArray).get? b = some o := fun b u e => by
      have hb : b < h'.objs.size := Heap.lt_size e
      rw [PyProof.Rows.sortedHeap_old (Nat.ne_of_lt hb) (by rw [size_push']; exact Nat.lt_succ_of_lt hb)]
      exact Heap.get?_push_of_some _ e
    refine wpAny_pure ⟨_, rfl, .ref h'.objs.size, _, I1.laid (t' := tk) (o := .lst ((rs.mergeSort fun a b => kLe a.2 b.2).map fun r => V.ref r.1)) up (Nat.le_refl _) ⟨hle2, out, e', kr_each eo, he'⟩, rfl, q _ _ ?_ (fun r hr => h3 r (List.mem_mergeSort.mp hr)) (I1.hok.fresh (Nat.le_refl _))⟩
    rw [← h1]
    exact sort_maps (fun r : KR => r.2) fun _ _ _ _ => rfl
end Ka
/-! d.update(e), two dicts with numbers or texts as keys. -/
namespace Ka
open PySem PySem.Spec PyProof.Rows L2
def rUpdate : V → List V → Hp → VK → Prop := fun x vs H Q => ∃ (d e : Addr) (kvs more : List (L2.Key × V)), x = .ref d ∧ vs = [.ref e] ∧ H d = some (.dK kvs) ∧ H e = some (.dK more) ∧ d ≠ e ∧ kvs.length + more.length ≤ 1000000 ∧ Q .non (upd H d (.dK (mergeK kvs more)))
theorem mt_update {X : Cx} : MtM X "dict.update" rUpdate := by
  intro pins s σ H x xs v us Q I rx rv h
  obtain ⟨d, e, kvs, more, rfl, rfl, hd, he, hne, hz, q⟩ := h
  cases rx
  obtain ⟨u, rfl, ru⟩ := rv.one
  cases ru
  obtain ⟨z, lo, vs, rel, dd⟩ := dk_of I.hok hd
  obtain ⟨z2, lo2, vs2, rel2, dd2⟩ := dk_of I.hok he
  have l1 := rel.length
  have l2 := rel2.length
  have l3 : (1000000 : Nat) ≤ sizeLine := by rw [sizeLine_eq]; decide
  refine call_meetsIn PySem.F.slot_dict_update dd.typeIs PySem.F.entry_dict_update (PySem.F.args_dict_update_2 _ _) (meets_dict_update (mixKind X.prog X.w) d e hne lo2)
    ⟨vs, vs2, dd, dd2, by omega, fun h' dd' _ hs => ?_⟩
  have hq : ∃ q, h'.get? d = some q := let ⟨q, _, _, hq, _⟩ := dd'; ⟨q, hq⟩
  have l4 := length_mergeK more kvs
  exact ⟨.non, _, d_write (t' := s.toks) I (by rw [hd]; exact True.intro) hs hq (dk_new (by omega) lo (rel2.merge rel) dd'), rfl, q⟩
end Ka
namespace Kb
open PySem PySem.Spec PyProof.Rows L2
/-! ### the text, def by def -/
def topS (i : Nat) : Stmt := PySem.Challenge.pw_stillowed_k32_dealings_and_parts.main.body.getD i (.Pass ⟨0, 0, 0, 0⟩)
abbrev sRowInit : Stmt := inClass (topS 3) 0
abbrev sBookErrInit : Stmt := inClass (topS 4) 0
abbrev sDealInit : Stmt := inClass (topS 5) 0
abbrev sIsInt : Stmt := topS 8
abbrev sIsNum : Stmt := topS 9
abbrev sIsNumTo : Stmt := topS 10
abbrev sName : Stmt := topS 11
abbrev sLetter : Stmt := topS 12
abbrev sIsLot : Stmt := topS 13
abbrev sWithin : Stmt := topS 15
abbrev sChDeal : Stmt := topS 17
abbrev sPairOf : Stmt := topS 18
abbrev sOneDesk : Stmt := topS 19
abbrev sOwnDesks : Stmt := topS 20
abbrev sDesksOf : Stmt := topS 21
abbrev sDeedsAt : Stmt := topS 22
abbrev sDeskOf : Stmt := topS 23
abbrev sByDeed : Stmt := topS 24
abbrev sChDeeds : Stmt := topS 25
abbrev sPart : Stmt := topS 26
abbrev sParts : Stmt := topS 27
abbrev sWithinBy : Stmt := topS 28
abbrev sSameBy : Stmt := topS 29
abbrev sViewAt : Stmt := topS 30
abbrev sBkInit : Stmt := inClass (topS 36) 0
abbrev sBkDeeds : Stmt := inClass (topS 36) 12
abbrev sChEach : Stmt := topS 37
abbrev sChTog : Stmt := topS 38
abbrev sIsCourse : Stmt := topS 39
abbrev sAreEnds : Stmt := topS 40
abbrev sAreSteps : Stmt := topS 41
abbrev sIsStep : Stmt := topS 42
abbrev sDeedsIn : Stmt := topS 43
abbrev sLeaving : Stmt := topS 44
abbrev sBox : Stmt := topS 46
abbrev sTake : Stmt := topS 47
abbrev sPick : Stmt := topS 48
abbrev sNames : Stmt := topS 49
abbrev sLawIn : Stmt := topS 50
abbrev sLawPart : Stmt := topS 51
abbrev sLawBy : Stmt := topS 52
abbrev sLawBook : Stmt := topS 53
abbrev sLawRow : Stmt := topS 54
abbrev sSpoilt : Stmt := topS 55
abbrev sTold : Stmt := topS 56
abbrev sAlone : Stmt := topS 57
abbrev sRefused : Stmt := topS 58
abbrev sDue : Stmt := topS 59
abbrev sLawParts : Stmt := topS 60
abbrev sPlain : Stmt := topS 61
abbrev sLaw : Stmt := topS 62
/-! ### heaps -/
theorem same_new {H : Hp} {p : Addr} {o : HO} (h : H p = none) : Same H (upd H p o) := fun b x e => by
  rw [upd_ne (ne_of_none e h)]
  exact e
theorem Same.sqT {K : PySem.W.Frag} {H H' : Hp} {a : Addr} {xs : List V} (e : Same H H') (h : SqT K H a xs) : SqT K H' a xs := by
  rcases h with (h | ⟨o, h⟩) | h
  · exact .inl (.inl (e _ _ h))
  · exact .inl (.inr ⟨o, e _ _ h⟩)
  · exact .inr h
theorem sqT_new {K : PySem.W.Frag} {H : Hp} {p : Addr} {xs : List V} (h : H p = some (.tup xs)) : SqT K H p xs := .inl (.inl h)
theorem sqL_new {K : PySem.W.Frag} {H : Hp} {p : Addr} {xs : List V} (h : H p = some (.lst xs)) : SqL K H p xs := .inl (.inl h)
theorem get_map {α β : Type} {f : α → β} {l : List α} {i : Nat} {y : β} (h : (l.map f)[i]? = some y) : ∃ x, l[i]? = some x ∧ y = f x := by
  rw [List.getElem?_map] at h
  cases e : l[i]? with
  | none =>
    rw [e] at h
    cases h
  | some x =>
    rw [e] at h
    exact ⟨x, rfl, (Option.some.inj h).symm⟩
theorem lt_of_get {α : Type} {l : List α} {i : Nat} {x : α} (h : l[i]? = some x) : i < l.length := (List.getElem?_eq_some_iff.mp h).1
theorem drop_of_get {α : Type} {l : List α} {i : Nat} {x : α} (h : l[i]? = some x) : l.drop i = x :: l.drop (i + 1) := by
  obtain ⟨h1, h2⟩ := List.getElem?_eq_some_iff.mp h
  rw [List.drop_eq_getElem_cons h1, h2]
theorem take_of_get {α : Type} {l : List α} {i : Nat} {x : α} (h : l[i]? = some x) : l.take (i + 1) = l.take i ++ [x] := by
  rw [List.take_add_one, h]
  rfl
/-! ### rules told by K, for a comprehension's block -/
def rLen (K : PySem.W.Frag) : List V → Hp → VK → Prop := fun xs H Q => ∃ p ys, xs = [V.ref p] ∧ (SqL K H p ys ∨ SqT K H p ys) ∧ Q (.int (ys.length : Nat)) H
theorem len_at {X : Cx} {K : PySem.W.Frag} (h : X.K = K) : CallR X (.builtin "len") (rLen K) := by
  subst h
  exact call_len_seq
theorem ixT_at {X : Cx} {K : PySem.W.Frag} (h : X.K = K) : IxR X (rIxT K) := by
  subst h
  exact ix_tup
theorem ixL_at {X : Cx} {K : PySem.W.Frag} (h : X.K = K) : IxR X (rIxL K) := by
  subst h
  exact ix_list
/-- places as values -/
def natV (l : List Nat) : List V := l.map fun (i : Nat) => V.int (i : Int)
theorem natV_len (l : List Nat) : (natV l).length = l.length := List.length_map _
theorem small {n : Nat} (h : n ≤ 1000000) : n < sizeLine := Nat.lt_of_le_of_lt h (by rw [sizeLine_eq]; decide)
theorem smallE {n : Nat} (h : n ≤ 1000000) : n ≤ sizeLine := Nat.le_of_lt (small h)
theorem walk_revT {K : PySem.W.Frag} {a : Addr} {xs : List V} : Walk (RT.ItvT K a xs.length) xs.length (fun H => SqT K H a xs) (fun i H x H' => H' = H ∧ xs[xs.length - 1 - i]? = some x) := by
  refine ⟨fun i H hi q => ?_, fun H q => ?_, fun i H x H' hi q y => ?_⟩
  · exact ⟨hi, xs, xs[xs.length - 1 - i], q, by simp⟩
  · exact Nat.le_refl _
  · exact ⟨y.1, y.2 xs q⟩
/-- counts as values -/
def intV (l : List Int) : List V := l.map V.int
theorem intV_len (l : List Int) : (intV l).length = l.length := List.length_map _
theorem intV_get {l : List Int} {i : Nat} {x : Int} (h : l[i]? = some x) : (intV l)[i]? = some (.int x) := by
  unfold intV
  rw [List.getElem?_map, h]
  rfl
theorem natV_get {l : List Nat} {i x : Nat} (h : l[i]? = some x) : (natV l)[i]? = some (.int (x : Nat)) := by
  unfold natV
  rw [List.getElem?_map, h]
  rfl
end Kb
namespace Kb
open PySem PySem.Spec PyProof.Rows L2
/-! ### the source of draws -/
/-- two whole numbers -/
def Box (H : Hp) (x : Addr) : Prop := ∃ b0 b1 : Int, H x = some (.lst [.int b0, .int b1])
/-- all but x stands -/
def But (x : Addr) (H H' : Hp) : Prop := ∀ c u, c ≠ x → H c = some u → H' c = some u
theorem But.refl {x : Addr} {H : Hp} : But x H H := fun _ _ _ e => e
theorem But.trans {x : Addr} {H H' H'' : Hp} (a : But x H H') (b : But x H' H'') : But x H H'' := fun c u h e => b c u h (a c u h e)
theorem But.of {x : Addr} {H H' : Hp} (s : Same H H') : But x H H' := fun c u _ e => s c u e
theorem But.upd {x : Addr} {H : Hp} {o : HO} : But x H (upd H x o) := fun c u h e => by
  rw [upd_ne h]
  exact e
theorem Box.mono {x : Addr} {H H' : Hp} (b : Box H x) (s : Same H H') : Box H' x := let ⟨b0, b1, e⟩ := b; ⟨b0, b1, s _ _ e⟩
theorem mod_nat (i : Int) {n : Nat} (h : 0 < n) : ∃ r : Nat, r < n ∧ i % (n : Int) = (r : Int) := by
  have h1 := Int.emod_nonneg i (show (n : Int) ≠ 0 by omega)
  have h2 := Int.emod_lt_of_pos i (show 0 < (n : Int) by omega)
  exact ⟨(i % (n : Int)).toNat, by omega, by omega⟩
theorem small_mul {k : Int} (h1 : -1000000000000 < k) (h2 : k < 1000000000000) : -(2 ^ 64) < k ∧ k < 2 ^ 64 := by omega
section
variable {P : Program} {w : World} {K : PySem.W.Frag} {mg : Str → Option Value} {base : Heap}
theorem scTake : FnScope ["box", "many", "digit", "raw"] ["box", "many"] (defScope sTake) := ⟨rfl, rfl, rfl, by decide +kernel, rfl, by decide +kernel, by decide +kernel⟩
def spTake : Sp := fun vs H Q _ => ∃ (x : Addr) (n : Nat), vs = [.ref x, .int (n : Nat)] ∧ Box H x ∧ 0 < n ∧ n < 2 ^ 60 ∧ ∀ (r : Nat) H', r < n → But x H H' → Box H' x → Q (.int (r : Nat)) H'
theorem ok_take {f : Addr} {fd : FuncData} (F : Fun K "_law_take" "_law_take" sTake f fd) (mi : mg "int" = none) : FnOk P w K mg base CX0 1 f fd ["box", "many"] spTake := by
  refine F.ok scTake (fun vs H Q E h => ?_) (fun cdv A outer s H vs Q E hr h => ?_)
  · obtain ⟨x, n, rfl, _⟩ := h
    rfl
  · obtain ⟨x, n, rfl, ⟨b0, b1, hx⟩, hn, hn2, q⟩ := h
    refine ⟨_, pss_cons (ps_if (pt_cmpR op_gt (pe_ix ix_list (pv 0) pe_int (fun _ _ => rfl)) pe_int (nomark _))
        (pss_cons (ps_set (i := 2) scTake.nd rfl (.inl rfl) (pe_op op_mod (pe_callTy call_int1 (by rfl) mi (by decide +kernel) (pa_cons (pe_ix ix_list (pv 0) pe_int (fun _ _ => rfl)) pa_nil)) (pv 1)))
          (pss_cons (ps_asg (pe_op op_fdivW (pe_ix ix_list (pv 0) pe_int (fun _ _ => rfl)) (pv 1)) (pg_sub (pv 0) pe_int set_list)) (pss_one (ps_ret (pv 2))))) pss_nil)
      (pss_cons (ps_set (i := 3) scTake.nd rfl (.inl rfl) (pe_op op_mod (pe_callTy call_int1 (by rfl) mi (by decide +kernel) (pa_cons (pe_op op_add (pe_op op_mul (pe_ix ix_list (pv 0) pe_int (fun _ _ => rfl)) pe_int) pe_int) pa_nil)) pe_int))
      (pss_cons (ps_asg (pe_op op_add (pe_op op_mod (pe_callTy call_int1 (by rfl) mi (by decide +kernel) (pa_cons (pe_op op_add (pe_op op_mul (pv 3) pe_int) pe_int) pa_nil)) pe_int) pe_int) (pg_sub (pv 0) pe_int set_list))
      (pss_one (ps_ret (pe_op op_mod (pe_callTy call_int1 (by rfl) mi (by decide +kernel) (pa_cons (pe_op op_fdivN (pe_op op_add (pe_op op_mul (pv 3) pe_int) (pe_ix ix_list (pv 0) pe_int (fun _ _ => rfl))) pe_int) pa_nil)) (pv 1)))))), ?_⟩
    refine ⟨.ref x, rfl, x, _, 0, .int b0, rfl, rfl, sqL_new hx, rfl, b0, 0, rfl, rfl, _, rfl, ite2 (fun c => ?_) (fun c => ?_)⟩
    · obtain ⟨r, hr1, hr2⟩ := mod_nat b0 hn
      refine ⟨.ref x, rfl, x, _, 0, .int b0, rfl, rfl, sqL_new hx, rfl, .inl ⟨b0, rfl, .int (n : Nat), rfl, b0, (n : Nat), rfl, rfl, (by omega), ?_⟩⟩
      refine ⟨.ref x, rfl, x, _, 0, .int b0, rfl, rfl, sqL_new hx, rfl, .int (n : Nat), rfl, b0, (n : Nat), rfl, rfl, wide_div (b := 60) (by omega) (by omega) (by decide) (by decide), .ref x, rfl, x, _, 0, 0, rfl, rfl, hx, rfl, ?_⟩
      refine ⟨_, rfl, ?_⟩
      show Q (.int (b0 % (n : Int))) _
      rw [hr2]
      exact q r _ hr1 But.upd ⟨_, _, upd_same⟩
    · refine ⟨.ref x, rfl, x, _, 1, .int b1, rfl, rfl, sqL_new hx, rfl, b1, _, rfl, rfl, .inr (by decide), _, _, rfl, rfl, .inl ⟨_, rfl, _, 2147483563, rfl, rfl, (by show (0 : Int) < 2147483563; decide), ?_⟩⟩
      refine ⟨_, rfl, _, _, rfl, rfl, .inr (by decide), _, _, rfl, rfl, .inl ⟨_, rfl, _, 2147483629, rfl, rfl, (by show (0 : Int) < 2147483629; decide), _, _, rfl, rfl, .ref x, rfl, x, _, 1, 1, rfl, rfl, hx, rfl, ?_⟩⟩
      generalize hH2 : upd H x _ = H2
      obtain ⟨c1, hx2⟩ : ∃ c1 : Int, H2 x = some (.lst [.int b0, .int c1]) := ⟨_, by rw [← hH2, upd_same]; rfl⟩
      have k2 : But x H H2 := by rw [← hH2]; exact But.upd
      refine ⟨_, rfl, _, 2147483647, rfl, rfl, .inr (by decide), .ref x, rfl, x, _, 1, .int c1, rfl, rfl, sqL_new hx2, rfl, _, c1, rfl, rfl, _, 8191, rfl, rfl, ⟨by decide, by decide⟩, .inl ⟨_, rfl, .int (n : Nat), rfl, _, (n : Nat), rfl, rfl, (by omega), ?_⟩⟩
      obtain ⟨r, hr1, hr2⟩ := mod_nat _ hn
      refine (congrArg (fun z => Q (V.int z) H2) hr2).mpr ?_
      exact q r _ hr1 k2 ⟨_, _, hx2⟩
end
end Kb
/-! comprehensions whose items are told beforehand; zip and enumerate of tuples as walks. -/
namespace Kb
open PySem PySem.Spec PyProof.Rows L2
theorem iteYes {c : Bool} {A B : Prop} (h : c = true) (a : A) : if c = true then A else B := by
  rw [if_pos h]
  exact a
theorem iteNo {c : Bool} {A B : Prop} (h : c = false) (b : B) : if c = true then A else B := by
  rw [h]
  exact iteF b
/-- the list at D holds the first i of ys, all else stands -/
def Lp (H1 : Hp) (D : Addr) (ys : List V) (i : Nat) (H : Hp) : Prop := Same H1 H ∧ H D = some (.lst (ys.take i))
theorem Lp.put {H1 H H4 : Hp} {D : Addr} {ys : List V} {i : Nat} {y : V} (h : Lp H1 D ys i H) (nD : H1 D = none) (s : Same H H4) (hy : ys[i]? = some y) (hl : ys.length ≤ 1000000) :
    ∃ acc, H4 D = some (.lst acc) ∧ acc.length < sizeLine ∧ Lp H1 D ys (i + 1) (upd H4 D (.lst (acc ++ [y]))) := by
  have hi := (List.getElem?_eq_some_iff.mp hy).1
  refine ⟨_, s _ _ h.2, Nat.lt_of_lt_of_le (m := ys.length) (by rw [List.length_take]; omega) (smallE hl), fun c u e => ?_, ?_⟩
  · rw [upd_ne (ne_of_none e nD)]
    exact s _ _ (h.1 _ _ e)
  · rw [upd_same, take_of_get hy]
section
variable {J : It} {n : Nat} {G : Hp → Prop} {Y : Nat → Hp → V → Hp → Prop}
theorem lc_pure (w : Walk J n G Y) {g : TG} {tt : TT} {te : TE} {vs : List Nat} {σ : L2.St} {H1 : Hp} {D : Addr} {Qd : Hp → Prop} (ys : List V) (hn : ys.length = n) (nD : H1 D = none) (hG : ∀ H, Same H1 H → G H)
    (hs : ∀ i x H H', i < n → Lp H1 D ys i H → Y i H x H' → g x (wipe σ vs) H' fun σ2 H2 => wipe σ2 vs = wipe σ vs ∧ tt σ2 H2 fun b H3 =>
      if b = true then te σ2 H3 fun y H4 => ∃ acc, H4 D = some (.lst acc) ∧ acc.length < sizeLine ∧ Lp H1 D ys (i + 1) (upd H4 D (.lst (acc ++ [y]))) else Lp H1 D ys (i + 1) H3) (hd : ∀ H, Same H1 H → H D = some (.lst ys) → Qd H) :
    ∃ W : Nat → Nat → Hp → Prop, (∃ m, W 0 m (upd H1 D (.lst []))) ∧ ∀ i m H, W i m H →
      (J.stop i H ∧ Qd H) ∨ (J.go i H ∧ ∃ Nx : Hp → Prop, (∀ H', Nx H' → ∃ m', m' < m ∧ W (i + 1) m' H') ∧ ∀ x H', J.yld i H x H' → g x (wipe σ vs) H' fun σ2 H2 => wipe σ2 vs = wipe σ vs ∧ tt σ2 H2 fun b H3 =>
        if b = true then te σ2 H3 fun y H4 => ∃ acc, H4 D = some (.lst acc) ∧ acc.length < sizeLine ∧ Nx (upd H4 D (.lst (acc ++ [y]))) else Nx H3) :=
  lc_it w (Lp H1 D ys) ⟨same_new nD, upd_same⟩ (fun i H _ h => hG H h.1) hs fun H h => hd H h.1 (by rw [h.2, List.take_of_length_le (by omega)])
end
section
variable {K : PySem.W.Frag} {a b : Addr} {xs ys : List V}
theorem walk_enumT : Walk (Ka.Iet K a) xs.length (fun H => SqT K H a xs) (YPair (fun i => some (.int (i : Nat))) (fun i => xs[i]?)) :=
  ⟨fun i _ hi q => ⟨xs, xs[i], q, by simp [hi]⟩, fun _ q => ⟨xs, q, Nat.le_refl _⟩, fun i H x H' _ q y => by
    obtain ⟨T, z, e, nT, e2, hz⟩ := y
    exact ⟨T, .int (i : Nat), z, e, nT, e2, rfl, hz xs q⟩⟩
theorem walk_zipT {n : Nat} (hn : n = min xs.length ys.length) : Walk (RZ.ItzT K a b) n (fun H => SqT K H a xs ∧ SqT K H b ys) (YPair (fun i => xs[i]?) (fun i => ys[i]?)) :=
  ⟨fun i _ hi q => ⟨xs, ys, xs[i]'(by omega), ys[i]'(by omega), q.1, q.2, List.getElem?_eq_getElem _, List.getElem?_eq_getElem _⟩, fun _ q => ⟨xs, ys, q.1, q.2, by omega⟩, fun i H x H' _ q y => by
    obtain ⟨T, u, v, e, nT, e2, hx, hy⟩ := y
    exact ⟨T, u, v, e, nT, e2, hx xs q.1, hy ys q.2⟩⟩
theorem tup_at {X : Cx} {K : PySem.W.Frag} {es : List Expr} {k : Nat} {pos : Pos} {t : TGs} {n : Nat} (h : X.K = K) (hc : X.calm = true) (hg : PGs X es t) (hst : List.findIdx? (fun x => x.fst) (assignEach es X.env) = none := by rfl) (hn : (assignEach es X.env).length = n := by rfl) : PG X (.Tuple es k pos) (gTup K n t) := by
  subst h
  subst hn
  exact pg_tup hc hg rfl hst
end
end Kb
namespace Kb
open PySem PySem.Spec PyProof.Rows L2
/-- a sign from a to z -/
def lowC (c : Nat) : Bool := decide (97 ≤ c) && decide (c ≤ 122)
/-- a name -/
def isName (s : Str) : Bool := decide (1 ≤ s.cps.size) && decide (s.cps.size ≤ 5) && s.cps.toList.all lowC
/-- the names of the language that no text hides -/
structure Nones (mg : Str → Option Value) : Prop where
  len : mg "len" = none
  range : mg "range" = none
  iter : mg "iter" = none
  enumerate : mg "enumerate" = none
  reversed : mg "reversed" = none
  tuple : mg "tuple" = none
  list : mg "list" = none
  sorted : mg "sorted" = none
  any : mg "any" = none
  all : mg "all" = none
  int : mg "int" = none
  str : mg "str" = none
  bool : mg "bool" = none
  abs : mg "abs" = none
  min : mg "min" = none
  max : mg "max" = none
  sum : mg "sum" = none
  isinstance : mg "isinstance" = none
  valueError : mg "ValueError" = none
/-- range(n), its turns told -/
theorem walk_r0 {n : Nat} : Walk (Itr 0 n) n (fun _ => True) (fun i H x H' => H' = H ∧ x = .int (i : Nat)) := walk_range.mono (fun _ h => h) fun i H x H' _ _ y => ⟨y.1, by
  rw [y.2]
  show V.int (0 + (i : Int)) = _
  rw [Int.zero_add]⟩
section
variable {K : PySem.W.Frag}
theorem slA_at {X : Cx} {K : PySem.W.Frag} (h : X.K = K) : SlR X (rSlA K) := by
  subst h
  exact sl_tupA
theorem slA_take {H : Hp} {a : Addr} {xs : List V} {j : Nat} {Q : VK} (hA : SqT K H a xs) (q0 : xs.take j = xs → Q (.ref a) H) (q1 : ∀ p, H p = none → Q (.ref p) (upd H p (.tup (xs.take j)))) : rSlA K (.ref a) none (some (j : Int)) H Q := by
  refine ⟨a, xs, rfl, hA, fun hw => ?_, fun _ p np => ?_⟩
  · have h2 := hw.2
    rw [HT.sIx_nat] at h2
    exact q0 (List.take_of_length_le (by omega))
  · have e : cutV xs none (some (j : Int)) = xs.take j := by
      unfold cutV
      rw [HT.sIx_nat, HT.sIx_none, List.drop_zero, Nat.sub_zero]
      by_cases h : j ≤ xs.length
      · rw [Nat.min_eq_left h]
      · rw [Nat.min_eq_right (by omega), List.take_length, List.take_of_length_le (by omega)]
    rw [e]
    exact q1 p np
theorem slA_drop {H : Hp} {a : Addr} {xs : List V} {j : Nat} {Q : VK} (hA : SqT K H a xs) (q0 : xs.drop j = xs → Q (.ref a) H) (q1 : ∀ p, H p = none → Q (.ref p) (upd H p (.tup (xs.drop j)))) : rSlA K (.ref a) (some (j : Int)) none H Q := by
  refine ⟨a, xs, rfl, hA, fun hw => ?_, fun _ p np => ?_⟩
  · have h2 := hw.1
    rw [HT.sIx_nat] at h2
    refine q0 ?_
    by_cases h : j = 0
    · rw [h]
      rfl
    · have h0 : xs.length = 0 := by omega
      rw [List.eq_nil_of_length_eq_zero h0, List.drop_nil]
  · have e : cutV xs (some (j : Int)) none = xs.drop j := by
      unfold cutV
      rw [HT.sIx_nat, HT.sIx_none]
      by_cases h : j ≤ xs.length
      · rw [Nat.min_eq_left h, List.take_of_length_le (by rw [List.length_drop]; exact Nat.le_refl _)]
      · rw [Nat.min_eq_right (by omega), List.drop_length, List.drop_eq_nil_of_le (by omega), List.take_nil]
    rw [e]
    exact q1 p np
/-- a slice of a row -/
theorem slA_takeR {H : Hp} {a : Addr} {us : List Str} {j : Nat} {Q : VK} (hA : SqT K H a (us.map V.str)) (q : ∀ H' p, Same H H' → SqT K H' p ((us.take j).map V.str) → Q (.ref p) H') : rSlA K (.ref a) none (some (j : Int)) H Q :=
  slA_take hA (fun e => q H a (fun _ _ h => h) (by rw [List.map_take, e]; exact hA)) fun p np => q _ p (same_new np) (by rw [List.map_take]; exact sqT_new upd_same)
theorem slA_dropR {H : Hp} {a : Addr} {us : List Str} {j : Nat} {Q : VK} (hA : SqT K H a (us.map V.str)) (q : ∀ H' p, Same H H' → SqT K H' p ((us.drop j).map V.str) → Q (.ref p) H') : rSlA K (.ref a) (some (j : Int)) none H Q :=
  slA_drop hA (fun e => q H a (fun _ _ h => h) (by rw [List.map_drop, e]; exact hA)) fun p np => q _ p (same_new np) (by rw [List.map_drop]; exact sqT_new upd_same)
theorem tyT {H : Hp} {p : Addr} {xs : List V} (h : SqT K H p xs) : TyX K H (.ref p) (.type "tuple") := by
  rcases h with (h | ⟨o, h⟩) | h
  · exact .base (.tup h)
  · exact .fTuple h
  · obtain ⟨o, its, n, h1, h2, h3⟩ := h
    exact .kTuple h1 h2
theorem catR {H : Hp} {a b : Addr} {xs ys : List V} {Q : VK} (hx : SqT K H a xs) (hy : SqT K H b ys) (hl : xs.length + ys.length ≤ 100000) (q : ∀ H' p, Same H H' → SqT K H' p (xs ++ ys) → Q (.ref p) H') : rCatA K (.ref a) (.ref b) H Q := by
  refine ⟨a, b, xs, ys, rfl, rfl, hx, hy, smallE (by omega), fun e => ?_, fun _ e => ?_, fun _ _ p np => ?_⟩
  · exact q H b (fun _ _ h => h) (by rw [e]; exact hy)
  · exact q H a (fun _ _ h => h) (by rw [e, List.append_nil]; exact hx)
  · exact q _ p (same_new np) (sqT_new upd_same)
theorem slR_take {H : Hp} {a : Addr} {xs : List V} {j : Nat} {Q : VK} (hA : SqT K H a xs) (q : ∀ H' p, Same H H' → SqT K H' p (xs.take j) → Q (.ref p) H') : rSlA K (.ref a) none (some (j : Int)) H Q :=
  slA_take hA (fun e => q H a (fun _ _ h => h) (by rw [e]; exact hA)) fun p np => q _ p (same_new np) (sqT_new upd_same)
theorem slR_drop {H : Hp} {a : Addr} {xs : List V} {j : Nat} {Q : VK} (hA : SqT K H a xs) (q : ∀ H' p, Same H H' → SqT K H' p (xs.drop j) → Q (.ref p) H') : rSlA K (.ref a) (some (j : Int)) none H Q :=
  slA_drop hA (fun e => q H a (fun _ _ h => h) (by rw [e]; exact hA)) fun p np => q _ p (same_new np) (sqT_new upd_same)
end
end Kb
namespace Kb
open PySem PySem.Spec PyProof.Rows L2
theorem But.free {x p : Addr} {H H1 : Hp} (k : But x H H1) (b : Box H1 x) (h : H1 p = none) : H p = none := by
  cases e : H p with
  | none => rfl
  | some u =>
    by_cases w : p = x
    · obtain ⟨b0, b1, hb⟩ := b
      rw [← w, h] at hb
      cases hb
    · rw [k p u w e] at h
      cases h
theorem Box.ne {x p : Addr} {H : Hp} (b : Box H x) (h : H p = none) : p ≠ x := fun w => by
  obtain ⟨b0, b1, hb⟩ := b
  rw [← w, h] at hb
  cases hb
theorem Box.upd {x p : Addr} {H : Hp} {o : HO} (b : Box H x) (h : p ≠ x) : Box (upd H p o) x := by
  obtain ⟨b0, b1, hb⟩ := b
  exact ⟨b0, b1, by rw [upd_ne (Ne.symm h)]; exact hb⟩
section
variable {P : Program} {w : World} {K : PySem.W.Frag} {mg : Str → Option Value} {base : Heap}
theorem scPick : FnScope ["box", "some"] ["box", "some"] (defScope sPick) := ⟨rfl, rfl, rfl, by decide +kernel, rfl, by decide +kernel, by decide +kernel⟩
def spPick : Sp := fun vs H Q _ => ∃ (x a : Addr) (xs : List V), vs = [.ref x, .ref a] ∧ Box H x ∧ a ≠ x ∧ (H a = some (.lst xs) ∨ H a = some (.tup xs)) ∧ 0 < xs.length ∧ xs.length < 1000000 ∧ ∀ (i : Nat) (v : V) H', xs[i]? = some v → But x H H' → Box H' x → Q v H'
theorem ok_pick {f fT : Addr} {fd fdT : FuncData} (F : Fun K "_law_pick" "_law_pick" sPick f fd) (FT : Fun K "_law_take" "_law_take" sTake fT fdT) (bT : Binds K fdT ["box", "many"] []) (gT : mg "_law_take" = some (.ref fT)) (mi : mg "int" = none) (ml : mg "len" = none) : FnOk P w K mg base CX0 2 f fd ["box", "some"] spPick := by
  have GT : FnOk P w K mg base CX0 1 fT fdT ["box", "many"] spTake := ok_take FT mi
  refine F.ok scPick (fun vs H Q E h => ?_) (fun cdv A outer s H vs Q E hr h => ?_)
  · obtain ⟨x, a, xs, rfl, _⟩ := h
    rfl
  · obtain ⟨x, a, xs, rfl, hx, hax, ha, h0, h1, q⟩ := h
    refine ⟨_, pss_one (ps_ret (pe_ix ix_seq (pv 1) (pe_call GT hr (by rfl) gT FT.kp bT .nil pass0 (pa_cons (pv 0) (pa_cons (pe_callB call_len_seq (by rfl) ml PySem.boot_len (pa_cons (pv 1) pa_nil)) pa_nil))) (fun _ _ => rfl))), ?_⟩
    refine ⟨.ref a, rfl, .ref x, rfl, .ref a, rfl, a, xs, rfl, ha.elim (fun h => .inl (sqL_new h)) (fun h => .inr (sqT_new h)), x, xs.length, rfl, hx, h0, Nat.lt_trans h1 (by decide), fun r H' hr k b => ?_⟩
    have hg : xs[r]? = some (xs[r]'hr) := List.getElem?_eq_getElem hr
    rcases ha with ha | ha
    · exact .inl ⟨a, xs, _, _, rfl, rfl, sqL_new (k _ _ hax ha), atI_nat hg, q r _ H' hg k b⟩
    · exact .inr (.inl ⟨a, xs, _, _, rfl, rfl, sqT_new (k _ _ hax ha), atI_nat hg, q r _ H' hg k b⟩)
end
end Kb
namespace Kb
open PySem PySem.Spec PyProof.Rows L2
def Rows (H : Hp) (rs : List Ka.Row) : Prop := ∀ r ∈ rs, H r.1 = some (.tup (r.2.map V.str))
def adV (rs : List Ka.Row) : List V := rs.map fun r => V.ref r.1
/-! ### values as data: places, rows, lists of them -/
def natD (g : List Nat) : PyData := .tuple (g.map fun (i : Nat) => .int (i : Int))
/-- the lists of codes are the same: the texts are -/
theorem str_beq (x y : Str) : (x == y) = decide (x = y) := by
  by_cases h : x = y
  · subst h
    simp
  · rw [decide_eq_false h]
    exact beq_eq_false_iff_ne.mpr h
theorem eqvAll_map {α : Type} [DecidableEq α] {f : α → PyData} (h : ∀ a b, PyData.eqv (f a) (f b) = decide (a = b)) : ∀ l m : List α, PyData.eqvAll (l.map f) (m.map f) = decide (l = m)
  | [], [] => by simp [PyData.eqvAll]
  | [], _ :: _ => by simp [PyData.eqvAll]
  | _ :: _, [] => by simp [PyData.eqvAll]
  | x :: l, y :: m => by
    rw [List.map_cons, List.map_cons, PyData.eqvAll, h, eqvAll_map h l m]
    by_cases h1 : x = y <;> by_cases h2 : l = m <;> simp [h1, h2]
theorem eq_int (a b : Nat) : PyData.eqv (.int (a : Int)) (.int (b : Int)) = decide (a = b) := by
  rw [PyData.eqv]
  by_cases h : a = b
  · subst h
    simp
  · rw [decide_eq_false h]
    exact beq_eq_false_iff_ne.mpr (by omega)
theorem eq_str (a b : Str) : PyData.eqv (.str a) (.str b) = decide (a = b) := by
  rw [PyData.eqv, str_beq]
theorem eqN (g g' : List Nat) : PyData.eqv (natD g) (natD g') = decide (g = g') := by
  unfold natD
  rw [PyData.eqv, eqvAll_map (f := fun (i : Nat) => PyData.int (i : Int)) eq_int]
theorem eqR (r r' : List Str) : PyData.eqv (Ka.rowD r) (Ka.rowD r') = decide (r = r') := by
  unfold Ka.rowD
  rw [PyData.eqv, eqvAll_map eq_str]
theorem eqRows (l m : List (List Str)) : PyData.eqvAll (l.map Ka.rowD) (m.map Ka.rowD) = decide (l = m) := eqvAll_map eqR l m
theorem dep_le {α : Type} {f : α → PyData} {n : Nat} (h : ∀ a, (f a).depth ≤ n) : ∀ l : List α, PyData.depthAll (l.map f) ≤ n
  | [] => by simp [PyData.depthAll]
  | x :: l => by
    have h1 := h x
    have h2 := dep_le h l
    rw [List.map_cons]
    simp only [PyData.depthAll]
    omega
theorem lay_all {α : Type} {f : α → PyData} : ∀ l : List α, (∀ a ∈ l, (f a).canLay0 = true) → PyData.canLayAll0 (l.map f) = true
  | [], _ => by simp [PyData.canLayAll0]
  | x :: l, h => by
    rw [List.map_cons, PyData.canLayAll0, h x List.mem_cons_self, lay_all l fun a ha => h a (List.mem_cons_of_mem _ ha)]
    rfl
theorem shaped_of {d : PyData} (h1 : d.canLay0 = true) (h2 : d.depth ≤ 64) : SeqAt.shaped d = true := by
  unfold SeqAt.shaped
  rw [h1, decide_eq_true h2]
  rfl
theorem depN (g : List Nat) : (natD g).depth ≤ 2 := by
  unfold natD
  have := dep_le (f := fun (i : Nat) => PyData.int (i : Int)) (n := 1) (fun a => by simp [PyData.depth]) g
  simp only [PyData.depth]
  omega
theorem layN (g : List Nat) : (natD g).canLay0 = true := by
  unfold natD
  rw [PyData.canLay0]
  exact lay_all g fun a _ => by rw [PyData.canLay0]
theorem shN (g : List Nat) : SeqAt.shaped (natD g) = true := shaped_of (layN g) (Nat.le_trans (depN g) (by decide))
theorem depR (r : List Str) : (Ka.rowD r).depth ≤ 2 := by
  unfold Ka.rowD
  have := dep_le (f := PyData.str) (n := 1) (fun a => by simp [PyData.depth]) r
  simp only [PyData.depth]
  omega
theorem name_ok {z : Str} (h : isName z = true) : PyData.strOk z = true := by
  unfold isName at h
  rw [Bool.and_eq_true] at h
  unfold PyData.strOk
  rw [← Array.all_toList, List.all_eq_true]
  intro c hc
  have := List.all_eq_true.mp h.2 c hc
  unfold lowC at this
  rw [Bool.and_eq_true] at this
  have := of_decide_eq_true this.2
  exact decide_eq_true (by omega)
theorem layR {r : List Str} (h : ∀ z ∈ r, isName z = true) : (Ka.rowD r).canLay0 = true := by
  unfold Ka.rowD
  rw [PyData.canLay0]
  exact lay_all r fun a ha => by rw [PyData.canLay0]; exact name_ok (h a ha)
theorem shR {r : List Str} (h : ∀ z ∈ r, isName z = true) : SeqAt.shaped (Ka.rowD r) = true := shaped_of (layR h) (Nat.le_trans (depR r) (by decide))
theorem shRows {l : List (List Str)} (h : ∀ r ∈ l, ∀ z ∈ r, isName z = true) : SeqAt.shaped (.list (l.map Ka.rowD)) = true ∧ SeqAt.shaped (.tuple (l.map Ka.rowD)) = true := by
  have h1 := dep_le (f := Ka.rowD) (n := 2) depR l
  have h2 := lay_all (f := Ka.rowD) l fun r hr => layR (h r hr)
  exact ⟨shaped_of (by rw [PyData.canLay0]; exact h2) (by simp only [PyData.depth]; omega), shaped_of (by rw [PyData.canLay0]; exact h2) (by simp only [PyData.depth]; omega)⟩
section
variable {K : PySem.W.Frag} {H : Hp}
theorem dpNs : ∀ g : List Nat, DpAll K H (natV g) (g.map fun (i : Nat) => .int (i : Int))
  | [] => .nil
  | i :: g => .cons (.int _) (dpNs g)
theorem dpN {p : Addr} {g : List Nat} (h : H p = some (.tup (natV g))) : Dp K H (.ref p) (natD g) := .tup (sqT_new h) (dpNs g)
theorem dpRs : ∀ r : List Str, DpAll K H (r.map V.str) (r.map .str)
  | [] => .nil
  | i :: g => .cons (.str _) (dpRs g)
theorem dpR {p : Addr} {r : List Str} (h : H p = some (.tup (r.map V.str))) : Dp K H (.ref p) (Ka.rowD r) := .tup (sqT_new h) (dpRs r)
theorem dpRows : ∀ {rs : List Ka.Row}, Rows H rs → DpAll K H (adV rs) ((rs.map (·.2)).map Ka.rowD)
  | [], _ => .nil
  | r :: rs, h => .cons (dpR (h r List.mem_cons_self)) (dpRows fun q hq => h q (List.mem_cons_of_mem _ hq))
end
end Kb
namespace Kb
open PySem PySem.Spec PyProof.Rows L2
/-! ### texts as lists of signs -/
def ls (z : Str) : List Nat := z.cps.toList
theorem ls_len (z : Str) : z.length = (ls z).length := by
  unfold ls
  rw [Array.length_toList]
  rfl
theorem ls_inj {a b : Str} (h : ls a = ls b) : a = b := by
  obtain ⟨a⟩ := a
  obtain ⟨b⟩ := b
  exact congrArg Str.mk (Array.toList_inj.mp h)
theorem ls_add (a b : Str) : ls (a ++ b) = ls a ++ ls b := TL.tl_append a b
theorem ls_cutTo (z : Str) (k : Nat) : ls (cutS z none (some (k : Int))) = (ls z).take k := by
  unfold cutS ls
  rw [HT.sIx_nat, HT.sIx_none, List.drop_zero, Nat.sub_zero]
  show ((z.cps.toList.take _).toArray).toList = _
  rw [List.toList_toArray, ls_len]
  unfold ls
  by_cases h : k ≤ z.cps.toList.length
  · rw [Nat.min_eq_left h]
  · rw [Nat.min_eq_right (by omega), List.take_length, List.take_of_length_le (by omega)]
theorem ls_cutFrom (z : Str) (k : Nat) : ls (cutS z (some (k : Int)) none) = (ls z).drop k := by
  unfold cutS ls
  rw [HT.sIx_nat, HT.sIx_none]
  show (((z.cps.toList.drop _).take _).toArray).toList = _
  rw [List.toList_toArray, ls_len]
  unfold ls
  by_cases h : k ≤ z.cps.toList.length
  · rw [Nat.min_eq_left h, List.take_of_length_le (by rw [List.length_drop]; exact Nat.le_refl _)]
  · rw [Nat.min_eq_right (by omega), List.drop_length, List.drop_eq_nil_of_le (by omega), List.take_nil]
theorem joinL_nil : ∀ parts : List (List Nat), TL.joinL [] parts = parts.flatten
  | [] => rfl
  | [p] => by simp [TL.joinL]
  | p :: q :: r => by
    rw [TL.joinL, joinL_nil (q :: r)]
    rfl
theorem ls_join (ys : List Str) : ls (Txt.join (Str.ofString "") ys) = (ys.map ls).flatten := by
  rw [TL.join_eq]
  show TL.tl (Str.join (Str.ofString "") ys) = _
  rw [TL.tl_join]
  have e : TL.tl (Str.ofString "") = [] := by decide +kernel
  rw [e, joinL_nil]
  rfl
theorem name_iff {z : Str} : isName z = true ↔ 1 ≤ (ls z).length ∧ (ls z).length ≤ 5 ∧ ∀ c ∈ ls z, lowC c = true := by
  unfold isName ls
  rw [Bool.and_eq_true, Bool.and_eq_true, decide_eq_true_eq, decide_eq_true_eq, List.all_eq_true, Array.length_toList, and_assoc]
/-! ### the next letter, and why names end up unlike -/
def abc : Str := Str.ofString "abcdefghijklmnopqrstuvwxyz"
theorem abc_at : ∀ r : Fin 26, (ls abc)[r.1]? = some (97 + r.1) := by decide +kernel
theorem abc_index : ∀ r : Fin 26, Txt.index0 abc ⟨#[97 + r.1]⟩ = some r.1 := by decide +kernel
theorem low_of {c : Nat} (h : lowC c = true) : ∃ r : Fin 26, c = 97 + r.1 := by
  unfold lowC at h
  rw [Bool.and_eq_true, decide_eq_true_eq, decide_eq_true_eq] at h
  exact ⟨⟨c - 97, by omega⟩, by show c = 97 + (c - 97); omega⟩
theorem low_mk (r : Nat) : lowC (97 + r % 26) = true := by
  unfold lowC
  rw [Bool.and_eq_true, decide_eq_true_eq, decide_eq_true_eq]
  omega
theorem nodup_len {α : Type} [DecidableEq α] : ∀ {l m : List α}, l.Nodup → (∀ x ∈ l, x ∈ m) → l.length ≤ m.length
  | [], _, _, _ => Nat.zero_le _
  | x :: l, m, h, s => by
    rw [List.nodup_cons] at h
    have hx := s x List.mem_cons_self
    have h2 := nodup_len (l := l) (m := m.erase x) h.2 fun y hy => by
      have hne : y ≠ x := fun e => h.1 (e ▸ hy)
      exact (List.mem_erase_of_ne hne).mpr (s y (List.mem_cons_of_mem _ hy))
    rw [List.length_erase_of_mem hx] at h2
    have := List.length_pos_of_mem hx
    rw [List.length_cons]
    omega
/-- the name init ++ the letter c0 + k -/
def nm (init : List Nat) (c0 k : Nat) : Str := ⟨(init ++ [97 + (c0 + k) % 26]).toArray⟩
theorem nm_ls (init : List Nat) (c0 k : Nat) : ls (nm init c0 k) = init ++ [97 + (c0 + k) % 26] := by
  unfold ls nm
  simp
theorem nm_few {init : List Nat} {c0 n : Nat} {found : List Str} (hn : n ≤ 26) (h : ∀ k, k < n → nm init c0 k ∈ found) : n ≤ found.length := by
  have h1 : ((List.range n).map (nm init c0)).Nodup := by
    rw [List.nodup_iff_pairwise_ne, List.pairwise_map]
    refine List.Pairwise.imp_of_mem ?_ (List.nodup_iff_pairwise_ne.mp List.nodup_range)
    intro i j hi hj hne e
    have e2 := congrArg ls e
    rw [nm_ls, nm_ls] at e2
    have e3 := List.append_cancel_left e2
    rw [List.cons.injEq] at e3
    rw [List.mem_range] at hi hj
    have e4 := e3.1
    omega
  have h2 := nodup_len h1 (m := found) fun x hx => by
    obtain ⟨k, hk, rfl⟩ := List.mem_map.mp hx
    exact h k (List.mem_range.mp hk)
  rw [List.length_map, List.length_range] at h2
  exact h2
theorem nm_name {init : List Nat} {c0 k : Nat} (h1 : init.length ≤ 4) (h2 : ∀ c ∈ init, lowC c = true) : isName (nm init c0 k) = true := by
  rw [name_iff, nm_ls]
  refine ⟨by simp, by simp; omega, fun c hc => ?_⟩
  rcases List.mem_append.mp hc with h | h
  · exact h2 c h
  · rw [List.mem_singleton.mp h]
    exact low_mk _
/-- a name is of that form -/
theorem nm_of {z : Str} (h : isName z = true) : ∃ init c0, z = nm init c0 0 ∧ init.length ≤ 4 ∧ ∀ c ∈ init, lowC c = true := by
  obtain ⟨h1, h2, h3⟩ := name_iff.mp h
  have hne : ls z ≠ [] := fun e => by
    rw [e] at h1
    simp at h1
  have e := List.dropLast_concat_getLast hne
  obtain ⟨r, hr⟩ := low_of (h3 _ (List.getLast_mem hne))
  refine ⟨(ls z).dropLast, r.1, ls_inj ?_, by rw [List.length_dropLast]; omega, fun c hc => h3 c ((List.dropLast_sublist _).subset hc)⟩
  rw [nm_ls, Nat.add_zero, Nat.mod_eq_of_lt r.2, ← hr]
  exact e.symm
theorem shStrs {l : List Str} (h : ∀ z ∈ l, isName z = true) : SeqAt.shaped (.list (l.map .str)) = true := by
  have h1 := dep_le (f := PyData.str) (n := 1) (fun a => by simp [PyData.depth]) l
  exact shaped_of (by rw [PyData.canLay0]; exact lay_all l fun a ha => by rw [PyData.canLay0]; exact name_ok (h a ha)) (by simp only [PyData.depth]; omega)
theorem inV_str (z : Str) : ∀ ns : List Str, inV (.str z) (ns.map V.str) = decide (z ∈ ns)
  | [] => by simp [inV]
  | y :: ns => by
    have ih := inV_str z ns
    unfold inV at ih ⊢
    rw [List.map_cons, List.any_cons, ih]
    show ((y == z) || _) = _
    rw [str_beq]
    by_cases h1 : y = z
    · subst h1
      simp
    · have h2 : ¬ z = y := fun e => h1 e.symm
      simp [h1, h2]
theorem flat_strs (ns : List Str) : (ns.map V.str).all flatV = true := by
  rw [List.all_map, List.all_eq_true]
  exact fun _ _ => rfl
theorem letters_join {zs : List Str} (h : ∀ z ∈ zs, ∃ c, ls z = [c] ∧ lowC c = true) : (zs.map ls).flatten.length = zs.length ∧ (∀ c ∈ (zs.map ls).flatten, lowC c = true) ∧ (zs.map (·.length)).sum = zs.length := by
  induction zs with
  | nil => exact ⟨rfl, (fun c hc => by cases hc), rfl⟩
  | cons z zs ih =>
    obtain ⟨h1, h2, h3⟩ := ih fun y hy => h y (List.mem_cons_of_mem _ hy)
    obtain ⟨c, e, hc⟩ := h z List.mem_cons_self
    refine ⟨?_, fun d hd => ?_, ?_⟩
    · rw [List.map_cons, List.flatten_cons, List.length_append, h1, e, List.length_singleton, List.length_cons]
      omega
    · rw [List.map_cons, List.flatten_cons, e, List.mem_append, List.mem_singleton] at hd
      rcases hd with rfl | hd
      · exact hc
      · exact h2 d hd
    · rw [List.map_cons, List.sum_cons, h3, List.length_cons, ls_len, e]
      show 1 + zs.length = _
      omega
end Kb
namespace Kb
open PySem PySem.Spec PyProof.Rows L2
/-! ### the errors InvalidRow and InvalidDealing -/
section
variable {P : Program} {w : World} {K : PySem.W.Frag} {mg : Str → Option Value} {base : Heap}
def spAtInit (C : Addr) : Sp := fun vs H Q _ => ∃ (a : Addr) (v : V), vs = [.ref a, v] ∧ H a = some (exo a C none) ∧ ∀ dx, H dx = none → dx ≠ a → Q .non (upd (upd H dx (exd dx [("at", v)])) a (exo a C (some dx)))
/-- what the written part says of the class InvalidRow -/
structure RowC (K : PySem.W.Frag) (mg : Str → Option Value) (C fI : Addr) (fd : FuncData) : Prop where
  oex : OexC K C
  iC : PySem.W.findIn K (.ref C) "__init__" = some (some (.ref fI))
  tI : PySem.W.typeIn K (.ref fI) = some (.type "function")
  no : PySem.W.findIn K (.ref C) "at" = some none
  gC : mg "InvalidRow" = some (.ref C)
  F : Fun K "__init__" "InvalidRow.__init__" sRowInit fI fd
  b : Binds K fd ["self", "at"] []
theorem scRowInit : FnScope ["self", "at"] ["self", "at"] (defScope sRowInit) := ⟨rfl, rfl, rfl, by decide +kernel, rfl, by decide +kernel, by decide +kernel⟩
theorem ok_rowinit {C f : Addr} {fd : FuncData} (R : RowC K mg C f fd) : FnOk P w K mg base CX0 1 f fd ["self", "at"] (spAtInit C) := by
  refine R.F.ok scRowInit (fun vs H Q E h => ?_) (fun cdv A outer s H vs Q E hr h => ?_)
  · obtain ⟨a, v, rfl, _⟩ := h
    rfl
  · obtain ⟨a, v, rfl, e, q⟩ := h
    refine ⟨_, pss_one (ps_ost (pv 0) (pv 1)), ?_⟩
    exact ⟨v, rfl, .ref a, rfl, a, C, rfl, R.oex, R.no, .inl ⟨e, fun dx n1 n2 => q dx n1 n2⟩⟩
/-- what the written part says of the class InvalidDealing -/
structure DelC (K : PySem.W.Frag) (mg : Str → Option Value) (C fI : Addr) (fd : FuncData) : Prop where
  oex : OexC K C
  iC : PySem.W.findIn K (.ref C) "__init__" = some (some (.ref fI))
  tI : PySem.W.typeIn K (.ref fI) = some (.type "function")
  no : PySem.W.findIn K (.ref C) "at" = some none
  gC : mg "InvalidDealing" = some (.ref C)
  F : Fun K "__init__" "InvalidDealing.__init__" sDealInit fI fd
  b : Binds K fd ["self", "at"] []
theorem scDelInit : FnScope ["self", "at"] ["self", "at"] (defScope sDealInit) := ⟨rfl, rfl, rfl, by decide +kernel, rfl, by decide +kernel, by decide +kernel⟩
theorem ok_delinit {C f : Addr} {fd : FuncData} (R : DelC K mg C f fd) : FnOk P w K mg base CX0 1 f fd ["self", "at"] (spAtInit C) := by
  refine R.F.ok scDelInit (fun vs H Q E h => ?_) (fun cdv A outer s H vs Q E hr h => ?_)
  · obtain ⟨a, v, rfl, _⟩ := h
    rfl
  · obtain ⟨a, v, rfl, e, q⟩ := h
    refine ⟨_, pss_one (ps_ost (pv 0) (pv 1)), ?_⟩
    exact ⟨v, rfl, .ref a, rfl, a, C, rfl, R.oex, R.no, .inl ⟨e, fun dx n1 n2 => q dx n1 n2⟩⟩
/-- the error with the place z -/
def AtW (C : Addr) (E : XK) (H : Hp) (z : Int) : Prop := ∀ H' d, Same H H' → H d = none → H' d = some (.xd [("at", .int z)]) → E (.ref C) (some d) H'
theorem AtW.mono {C : Addr} {E : XK} {H H1 : Hp} {z : Int} (h : AtW C E H z) (s : Same H H1) : AtW C E H1 z := fun H' d s2 nd e => h H' d (s.trans s2) (s.free nd) e
theorem atW_mk {C : Addr} {E : XK} {H : Hp} {z : Int} (h : AtW C E H z) : [V.int z].length ≤ 1000 ∧ ∀ a, H a = none → spAtInit C (.ref a :: ([.int z] ++ [])) (upd H a (exo a C none))
    (fun v H2 => v = .non ∧ ∃ (d : Addr) (fs : List (Str × V)), H2 a = some (exo a C (some d)) ∧ H2 d = some (exd d fs) ∧ H d = none ∧ E (.ref C) (some d) (upd (del H2 a) d (.xd fs))) (fun _ _ _ => False) := by
  refine ⟨by show 1 ≤ 1000; decide, fun a na => ⟨a, .int z, rfl, upd_same, fun dx n1 n2 => ?_⟩⟩
  have n1' : H dx = none := by
    rw [upd_ne n2] at n1
    exact n1
  refine ⟨rfl, dx, [("at", .int z)], upd_same, ?_, n1', h _ dx (fun c o e => ?_) n1' upd_same⟩
  · rw [upd_ne n2, upd_same]
  · have ca : c ≠ a := ne_of_none e na
    have cd : c ≠ dx := ne_of_none e n1'
    rw [upd_ne cd, del_ne ca, upd_ne ca, upd_ne cd, upd_ne ca]
    exact e
end
end Kb
namespace Kb
open PySem PySem.Spec PyProof.Rows L2
/-! ### is_integer, is_number, is_number_to, is_lot -/
section
variable {P : Program} {w : World} {K : PySem.W.Frag} {mg : Str → Option Value} {base : Heap}
/-- an integer, asked for by its value -/
def spIsInt : Sp := fun vs H Q _ => ∃ i : Int, vs = [.int i] ∧ Q (.bl true) H
abbrev nIi : List Str := ["value"]
theorem scIi : FnScope nIi ["value"] (defScope sIsInt) := ⟨rfl, rfl, rfl, by decide +kernel, rfl, by decide +kernel, by decide +kernel⟩
theorem ok_isint {f : Addr} {fd : FuncData} (F : Fun K "is_integer" "is_integer" sIsInt f fd) (N : Nones mg) : FnOk P w K mg base CX0 1 f fd ["value"] spIsInt := by
  refine F.ok scIi (fun vs H Q E h => ?_) (fun cdv A outer s H vs Q E hr h => ?_)
  · obtain ⟨i, rfl, _⟩ := h
    rfl
  · obtain ⟨i, rfl, q⟩ := h
    refine ⟨_, pss_one (ps_ret (pe_and (pe_callB call_isi (by rfl) N.isinstance (by decide +kernel) (pa_cons (pv 0) (pa_cons (pe_bltn (v := .ty "int") (by rfl) N.int (by decide +kernel) rfl) pa_nil))) (pe_one (pe_not (pe_callB call_isi (by rfl) N.isinstance (by decide +kernel) (pa_cons (pv 0) (pa_cons (pe_bltn (v := .ty "bool") (by rfl) N.bool (by decide +kernel) rfl) pa_nil))))))), ?_⟩
    refine ⟨.int i, rfl, .int i, .ty "int", .type "int", .type "int", true, rfl, .ty "int", .base (.int i), kit_ty (by decide +kernel), _, rfl, ite2 (fun _ => ?_) (fun c => absurd rfl c)⟩
    exact ⟨.int i, rfl, .int i, .ty "bool", .type "int", .type "bool", false, rfl, .ty "bool", .base (.int i), kit_ty (by decide +kernel), _, rfl, q⟩
def spIsNum : Sp := fun vs H Q _ => ∃ i : Int, vs = [.int i] ∧ Q (.bl (decide (0 ≤ i))) H
abbrev nIn : List Str := ["value"]
theorem scIn : FnScope nIn ["value"] (defScope sIsNum) := ⟨rfl, rfl, rfl, by decide +kernel, rfl, by decide +kernel, by decide +kernel⟩
structure CallC (K : PySem.W.Frag) (mg : Str → Option Value) (n : Str) (ps : List Str) (f : Addr) (fd : FuncData) : Prop where
  g : mg n = some (.ref f)
  kp : PySem.W.keepIn K (.ref f) = true
  b : Binds K fd ps []
theorem ok_isnum {f fI : Addr} {fd fdI : FuncData} (F : Fun K "is_number" "is_number" sIsNum f fd) (N : Nones mg) (G_is_integer : FnOk P w K mg base CX0 1 fI fdI ["value"] spIsInt) (C_is_integer : CallC K mg "is_integer" ["value"] fI fdI) : FnOk P w K mg base CX0 2 f fd ["value"] spIsNum := by
  refine F.ok scIn (fun vs H Q E h => ?_) (fun cdv A outer s H vs Q E hr h => ?_)
  · obtain ⟨i, rfl, _⟩ := h
    rfl
  · obtain ⟨i, rfl, q⟩ := h
    refine ⟨_, pss_one (ps_ret (pe_and (pe_call G_is_integer (hr.mono (by decide)) (by rfl) C_is_integer.g C_is_integer.kp C_is_integer.b .nil pass0 (pa_cons (pv 0) pa_nil)) (pe_one (pe_cmpR op_ge (pv 0) pe_int (nomark _))))), ?_⟩
    refine ⟨.int i, rfl, i, rfl, _, rfl, ite2 (fun _ => ?_) (fun c => absurd rfl c)⟩
    exact ⟨.int i, rfl, _, _, rfl, rfl, q⟩
def spIsNumTo : Sp := fun vs H Q _ => ∃ i m : Int, vs = [.int i, .int m] ∧ Q (.bl (decide (0 ≤ i) && decide (i ≤ m))) H
abbrev nNt : List Str := ["value", "most"]
theorem scNt : FnScope nNt ["value", "most"] (defScope sIsNumTo) := ⟨rfl, rfl, rfl, by decide +kernel, rfl, by decide +kernel, by decide +kernel⟩
theorem ok_isnumto {f fI : Addr} {fd fdI : FuncData} (F : Fun K "is_number_to" "is_number_to" sIsNumTo f fd) (G_is_number : FnOk P w K mg base CX0 2 fI fdI ["value"] spIsNum) (C_is_number : CallC K mg "is_number" ["value"] fI fdI) : FnOk P w K mg base CX0 3 f fd ["value", "most"] spIsNumTo := by
  refine F.ok scNt (fun vs H Q E h => ?_) (fun cdv A outer s H vs Q E hr h => ?_)
  · obtain ⟨i, m, rfl, _⟩ := h
    rfl
  · obtain ⟨i, m, rfl, q⟩ := h
    refine ⟨_, pss_one (ps_ret (pe_and (pe_call G_is_number (hr.mono (by decide)) (by rfl) C_is_number.g C_is_number.kp C_is_number.b .nil pass0 (pa_cons (pv 0) pa_nil)) (pe_one (pe_cmpR op_le (pv 0) (pv 1) (nomark _))))), ?_⟩
    refine ⟨.int i, rfl, i, rfl, _, rfl, ite2 (fun c => ?_) (fun c => ?_)⟩
    · have c : decide (0 ≤ i) = true := c
      rw [c, Bool.true_and] at q
      exact ⟨.int i, rfl, .int m, rfl, _, _, rfl, rfl, q⟩
    · have c : decide (0 ≤ i) = false := Bool.eq_false_iff.mpr c
      rw [c, Bool.false_and] at q
      exact q
end
end Kb
namespace Kb
open PySem PySem.Spec PyProof.Rows L2
theorem ls_cutInit (z : Str) : ls (cutS z none (some (-1))) = (ls z).dropLast := by
  unfold cutS ls
  show ((z.cps.toList.drop _).take _).toArray.toList = _
  rw [List.toList_toArray, HT.sIx_none, List.drop_zero, Nat.sub_zero, List.dropLast_eq_take]
  congr 1
  show (if (-1 : Int) < 0 then ((-1 : Int) + (z.length : Int)).toNat else min (-1 : Int).toNat z.length) = _
  rw [if_pos (by decide), ls_len]
  unfold ls
  omega
theorem ls_cut2 (z : Str) (a b : Nat) : (ls (cutS z (some (a : Int)) (some (b : Int)))).length ≤ (ls z).length - a ∧ ∀ c ∈ ls (cutS z (some (a : Int)) (some (b : Int))), c ∈ ls z := by
  unfold cutS ls
  show (((z.cps.toList.drop _).take _).toArray.toList).length ≤ _ ∧ ∀ c ∈ ((z.cps.toList.drop _).take _).toArray.toList, _
  rw [List.toList_toArray, HT.sIx_nat, HT.sIx_nat, ls_len]
  unfold ls
  refine ⟨?_, fun c hc => List.mem_of_mem_drop (List.mem_of_mem_take hc)⟩
  rw [List.length_take, List.length_drop]
  omega
section
variable {P : Program} {w : World} {K : PySem.W.Frag} {mg : Str → Option Value} {base : Heap}
abbrev nNn : List Str := ["box", "many", "letters", "found", "turn", "step", "name", "place"]
theorem scNn : FnScope nNn ["box", "many"] (defScope sNames) := ⟨rfl, rfl, rfl, by decide +kernel, rfl, by decide +kernel, by decide +kernel⟩
def spNames : Sp := fun vs H Q _ => ∃ (x : Addr) (n : Nat), vs = [.ref x, .int (n : Nat)] ∧ Box H x ∧ n ≤ 20 ∧ ∀ (p : Addr) (ns : List Str) H', ns.length = n → ns.Nodup → (∀ z ∈ ns, isName z = true) → But x H H' → Box H' x → H p = none → H' p = some (.lst (ns.map V.str)) → Q (.ref p) H'
theorem ok_names {f fT fP : Addr} {fd fdT fdP : FuncData} (F : Fun K "_law_names" "_law_names" sNames f fd) (N : Nones mg) (G__law_take : FnOk P w K mg base CX0 1 fT fdT ["box", "many"] spTake) (C__law_take : CallC K mg "_law_take" ["box", "many"] fT fdT) (G__law_pick : FnOk P w K mg base CX0 2 fP fdP ["box", "some"] spPick) (C__law_pick : CallC K mg "_law_pick" ["box", "some"] fP fdP) : FnOk P w K mg base CX0 3 f fd ["box", "many"] spNames := by
  refine F.ok scNn (fun vs H Q E h => ?_) (fun cdv A outer s H vs Q E hr h => ?_)
  · obtain ⟨x, n, rfl, _⟩ := h
    rfl
  · obtain ⟨x, n, rfl, hx, hn, q⟩ := h
    refine ⟨_, pss_cons (ps_asg (pe_tup (pa_cons pe_str (pa_cons (pe_lst pa_nil) pa_nil))) (pg_tup rfl (pgs_cons (pg_name (i := 2) scNn.nd rfl (Or.inr rfl)) (pgs_cons (pg_name (i := 3) scNn.nd rfl (Or.inl rfl)) pgs_nil))))
      (pss_cons (ps_for PassesOwn.never rfl (pi_range1 (by rfl) N.range (pa_cons (pv 1) pa_nil)) (pg_name (i := 4) scNn.nd rfl (Or.inl rfl))
        (pss_cons (ps_if (PW.pt (pw_or (pt_cmpR (op_eqD hr.units) (pv 3) (pe_lst pa_nil) (nomark _)) (pw_or1 (pt_cmpR op_eq (pe_call G__law_take (hr.mono (by decide)) (by rfl) C__law_take.g C__law_take.kp C__law_take.b .nil pass0 (pa_cons (pv 0) (pa_cons pe_int pa_nil))) pe_int (nomark _))))) (pss_one (ps_set (i := 6) scNn.nd rfl (Or.inl rfl) (pe_join pe_str (pe_lc (own := [("place", 7)]) (g := gName 7) (tt := tYes) rfl scNn.nd (pi_range1 (by rfl) N.range (pa_cons (pe_op op_add pe_int (pe_call G__law_take (hr.mono (by decide)) (by rfl) C__law_take.g C__law_take.kp C__law_take.b .nil pass0 (pa_cons (pv 0) (pa_cons pe_int pa_nil)))) pa_nil)) (blkOk_by (own := [("place", 7)]) (N := nNn) (sc := defScope sNames) (by decide +kernel)) (fun _ _ _ _ _ => (pg_name (i := 7) scNn.nd rfl (Or.inl rfl))) (fun _ _ _ _ _ => pts_nil) (fun _ _ _ _ _ => (pe_ix ix_str (pv 2) (pe_call G__law_take (hr.mono (by decide)) (by rfl) C__law_take.g C__law_take.kp C__law_take.b .nil pass0 (pa_cons (pv 0) (pa_cons pe_int pa_nil))) (fun _ _ => rfl))))))) (pss_cons (ps_set (i := 6) scNn.nd rfl (Or.inl rfl) (pe_call G__law_pick (hr.mono (by decide)) (by rfl) C__law_pick.g C__law_pick.kp C__law_pick.b .nil pass0 (pa_cons (pv 0) (pa_cons (pv 3) pa_nil))))
          (pss_cons (ps_set (i := 7) scNn.nd rfl (Or.inl rfl) (pe_call G__law_take (hr.mono (by decide)) (by rfl) C__law_take.g C__law_take.kp C__law_take.b .nil pass0 (pa_cons (pv 0) (pa_cons (pe_callB call_len (by rfl) N.len PySem.boot_len (pa_cons (pv 6) pa_nil)) pa_nil))))
          (pss_one (ps_set (i := 6) scNn.nd rfl (Or.inl rfl) (pe_op op_add_str (pe_op op_add_str (pe_slice sl_str (pv 6) po_none (po_some (pv 7))) (pe_ix ix_str (pv 2) (pe_call G__law_take (hr.mono (by decide)) (by rfl) C__law_take.g C__law_take.kp C__law_take.b .nil pass0 (pa_cons (pv 0) (pa_cons pe_int pa_nil))) (fun _ _ => rfl))) (pe_slice sl_str (pv 6) (po_some (pe_op op_add (pv 7) pe_int)) (po_some (pe_op op_add pe_int (pe_call G__law_take (hr.mono (by decide)) (by rfl) C__law_take.g C__law_take.kp C__law_take.b .nil pass0 (pa_cons (pv 0) (pa_cons pe_int pa_nil))))))))))))
        (pss_cons (ps_for PassesOwn.never rfl (pi_range1 (by rfl) N.range (pa_cons (pv 1) pa_nil)) (pg_name (i := 5) scNn.nd rfl (Or.inl rfl))
          (pss_one (ps_if (pt_cmpR op_in_seq (pv 6) (pv 3) (by rfl)) (pss_one (ps_set (i := 6) scNn.nd rfl (Or.inl rfl) (pe_op op_add_str (pe_slice sl_str (pv 6) po_none (po_some (pe_un un_neg pe_int))) (pe_ix ix_str (pv 2) (pe_op op_mod (pe_op op_add (pe_bmS PySem.F.plainAttrs_str PySem.F.slot_str_index PySem.F.type_str_index (mt_indexX rfl takes0) (pv 2) (pa_cons (pe_ix ix_str (pv 6) (pe_un un_neg pe_int) (fun _ _ => rfl)) pa_nil)) pe_int) pe_int) (fun _ _ => rfl))))) pss_nil)))
        (pss_one (ps_expr (pe_bm PySem.F.plainAttrs_list PySem.F.slot_list_append PySem.F.type_list_append mt_append (pv 3) (pa_cons (pv 6) pa_nil)))))))
      (pss_one (ps_ret (pv 3)))), ?_⟩
    have s1000 : ∀ n, n ≤ 1000000 → n ≤ sizeLine := fun n h => smallE h
    have short : ∀ z : Str, isName z = true → z.length ≤ 5 := fun z h => by
      rw [ls_len]
      exact (name_iff.mp h).2.1
    refine ⟨Nat.zero_le _, fun o no => ⟨s1000 2 (by decide), fun tt ntt => ?_⟩⟩
    have s0 := same_new (o := .lst []) no
    have eo0 : upd H o (.lst []) o = some (.lst (([] : List Str).map V.str)) := upd_same
    have st := same_new (o := .tup [V.str (Str.ofString "abcdefghijklmnopqrstuvwxyz"), V.ref o]) ntt
    have ett : upd (upd H o (.lst [])) tt (.tup [V.str (Str.ofString "abcdefghijklmnopqrstuvwxyz"), V.ref o]) tt = some (.tup [V.str (Str.ofString "abcdefghijklmnopqrstuvwxyz"), V.ref o]) := upd_same
    have hox : o ≠ x := hx.ne no
    have eo0 := st _ _ eo0
    have s00 := s0.trans st
    have b0 := hx.mono s00
    generalize upd (upd H o (.lst [])) tt (.tup [V.str (Str.ofString "abcdefghijklmnopqrstuvwxyz"), V.ref o]) = H0 at ett eo0 s00 b0
    refine ⟨tt, _, rfl, sqT_new ett, rfl, _, _, rfl, _, _, rfl, rfl, ?_⟩
    refine ⟨.int (n : Nat), rfl, (n : Nat), rfl, by omega, by omega, ?_⟩
    refine for_range (lo := 0) (n := n) (fun i σ H' => ∃ d4 d5 d6 d7 ns, σ = [some (.ref x), some (.int (n : Nat)), some (.str abc), some (.ref o), d4, d5, d6, d7] ∧ But x H H' ∧ Box H' x ∧ H' o = some (.lst ((ns : List Str).map V.str)) ∧ ns.length = i ∧ ns.Nodup ∧ ∀ z ∈ ns, isName z = true)
      ⟨none, none, none, none, [], rfl, But.of s00, b0, eo0, rfl, List.nodup_nil, fun z hz => by cases hz⟩ ?_ ?_
    · rintro i σ H' hi ⟨d4, d5, d6, d7, ns, rfl, k, b, eo, hl, nd, nam⟩
      refine ⟨.ref o, rfl, Nat.zero_le _, fun l nl => ?_⟩
      have sl := same_new (o := .lst []) nl
      refine ⟨.list (ns.map .str), .list (([] : List Str).map .str), .lst (sqL_new (sl _ _ eo)) (dpRs ns), .lst (sqL_new upd_same) .nil, shStrs nam, shStrs (fun z hz => by cases hz), ?_⟩
      rw [PyData.eqv, eqvAll_map eq_str]
      refine ⟨_, rfl, ?_⟩
      have kk1 := k.trans (But.of sl)
      have eo1 := sl _ _ eo
      have b1 := b.mono sl
      generalize upd H' l (.lst []) = H1' at kk1 eo1 b1 ⊢
      generalize hX : tSeq (tFor (iRng1 (tCons (tVar 1) tNil)) (gName 5) _) _ _ = X
      have fin : ∀ (z : Str) (v4 d5 d7 : Option V) H2, isName z = true → But x H1' H2 → Box H2 x → X [some (.ref x), some (.int (n : Nat)), some (.str abc), some (.ref o), v4, d5, some (.str z), d7] H2 := fun z v4 d5 d7 H2 hz k2 b2 => by
        rw [← hX]
        have eo2 := k2 _ _ hox eo1
        refine ⟨.int (n : Nat), rfl, (n : Nat), rfl, by omega, by omega, ?_⟩
        refine for_range (lo := 0) (n := n) (fun s σ H3 => H3 = H2 ∧ ∃ z d5, σ = [some (.ref x), some (.int (n : Nat)), some (.str abc), some (.ref o), v4, d5, some (.str z), d7] ∧ isName z = true ∧ (z ∉ ns ∨ ∃ init c0, z = nm init c0 s ∧ init.length ≤ 4 ∧ (∀ c ∈ init, lowC c = true) ∧ ∀ k, k < s → nm init c0 k ∈ ns))
          ⟨rfl, z, d5, rfl, hz, .inr (by
            obtain ⟨init, c0, h1, h2, h3⟩ := nm_of hz
            exact ⟨init, c0, h1, h2, h3, fun k hk => absurd hk (Nat.not_lt_zero k)⟩)⟩ ?_ ?_
        · rintro s σ H3 hs ⟨rfl, z, d5, rfl, hz, way⟩
          refine ⟨.str z, rfl, .ref o, rfl, o, _, rfl, .inl (sqL_new eo2), rfl, flat_strs ns, ?_⟩
          rw [inV_str]
          refine ⟨_, rfl, ?_⟩
          by_cases hin : z ∈ ns
          · rw [decide_eq_true hin]
            obtain ⟨init, c0, rfl, h4, hlow, before⟩ : ∃ init c0, z = nm init c0 s ∧ init.length ≤ 4 ∧ (∀ c ∈ init, lowC c = true) ∧ ∀ k, k < s → nm init c0 k ∈ ns := by
              rcases way with h | h
              · exact absurd hin h
              · exact h
            have hsz : (nm init c0 s).length ≤ sizeLine := s1000 _ (Nat.le_trans (short _ hz) (by decide))
            have hat : atI (nm init c0 s).cps.toList (-1) = some (97 + (c0 + s) % 26) := by
              show atI (ls (nm init c0 s)) (-1) = _
              rw [nm_ls]
              exact atI_last _ _
            have hr26 : (c0 + s) % 26 < 26 := Nat.mod_lt _ (by decide)
            refine iteT ?_
            refine ⟨.str (nm init c0 s), rfl, 1, rfl, -1, rfl, nm init c0 s, rfl, hsz, ?_⟩
            refine ⟨.str abc, rfl, .str abc, rfl, rfl, .str (nm init c0 s), rfl, _, rfl, _, _, _, rfl, rfl, hsz, hat, ?_⟩
            have hidx := abc_index ⟨(c0 + s) % 26, hr26⟩
            refine ⟨abc, _, rfl, rfl, fun k hk => ?_, fun hno => ?_⟩
            · have ek : k = (c0 + s) % 26 := Option.some.inj (hk.symm.trans hidx)
              subst ek
              have hnext : (ls abc)[((c0 + s) % 26 + 1) % 26]? = some (97 + ((c0 + s) % 26 + 1) % 26) := abc_at ⟨((c0 + s) % 26 + 1) % 26, Nat.mod_lt _ (by decide)⟩
              have emod : ((((c0 + s) % 26 : Nat) : Int) + 1) % 26 = ((((c0 + s) % 26 + 1) % 26 : Nat) : Int) := by omega
              refine ⟨_, 1, rfl, rfl, _, 26, rfl, rfl, (by show (0 : Int) < 26; decide), _, (((((c0 + s) % 26 + 1) % 26 : Nat)) : Int), _, rfl, congrArg V.int emod, (by decide +kernel), atI_nat hnext, ?_⟩
              have ename : cutS (nm init c0 s) none (some (-1)) ++ (⟨#[97 + ((c0 + s) % 26 + 1) % 26]⟩ : Str) = nm init c0 (s + 1) := by
                refine ls_inj ?_
                rw [ls_add, ls_cutInit, nm_ls, nm_ls, List.dropLast_concat]
                show init ++ [97 + ((c0 + s) % 26 + 1) % 26] = _
                have : ((c0 + s) % 26 + 1) % 26 = (c0 + (s + 1)) % 26 := by omega
                rw [this]
              refine ⟨_, _, rfl, rfl, ?_, ?_⟩
              · rw [ls_len, ls_len, ls_cutInit, nm_ls, List.dropLast_concat]
                refine s1000 _ ?_
                show init.length + 1 ≤ 1000000
                omega
              · rw [ename]
                refine ⟨rfl, _, _, rfl, nm_name h4 hlow, .inr ⟨init, c0, rfl, h4, hlow, fun k hk => ?_⟩⟩
                by_cases e : k = s
                · rw [e]
                  exact hin
                · exact before k (by omega)
            · have := hno.symm.trans hidx
              cases this
          · rw [decide_eq_false hin]
            exact iteF ⟨rfl, z, _, rfl, hz, .inl hin⟩
        · rintro σ H3 ⟨rfl, z, d5, rfl, hz, way⟩
          have hout : z ∉ ns := by
            rcases way with h | ⟨init, c0, _, _, _, before⟩
            · exact h
            · have := nm_few (init := init) (c0 := c0) (n := n) (by omega) before
              omega
          refine ⟨.ref o, rfl, .inl ⟨rfl, _, sqL_new eo2⟩, .str z, rfl, o, _, _, rfl, rfl, eo2, ?_, ?_⟩
          · rw [List.length_map]
            exact small (by omega)
          · refine ⟨_, _, _, _, ns ++ [z], rfl, ?_, b2.upd hox, ?_, by rw [List.length_append, hl]; rfl, ?_, fun y hy => ?_⟩
            · intro c u hc e
              have hco : c ≠ o := ne_of_none e no
              rw [upd_ne hco]
              exact k2 _ _ hc (kk1 _ _ hc e)
            · rw [upd_same, List.map_append]
              rfl
            · rw [List.nodup_append]
              exact ⟨nd, by simp, fun a ha b hb e => by
                rw [List.mem_singleton.mp hb] at e
                exact hout (e ▸ ha)⟩
            · rcases List.mem_append.mp hy with h | h
              · exact nam y h
              · rw [List.mem_singleton.mp h]
                exact hz
      generalize hY : tAsg (tM1 _ _ _) (gName 6) _ = Y
      have fy : ∀ H2, But x H1' H2 → Box H2 x → Y [some (.ref x), some (.int (n : Nat)), some (.str abc), some (.ref o), some (.int (0 + (i : Int))), d5, d6, d7] H2 := fun H2 k2 b2 => by
        rw [← hY]
        refine ⟨⟨_, rfl⟩, .ref x, rfl, x, 5, rfl, b2, by decide, by decide, fun r H2' hr5 k2' b2' => ?_⟩
        have k2 := k2.trans k2'
        have b2 := b2'
        refine ⟨1, _, rfl, rfl, _, rfl, by omega, by omega, fun D nD => ?_⟩
        have en : ((1 : Int) + ((r : Nat) : Int)).toNat = r + 1 := by omega
        have hDx := b2.ne nD
        rw [en]
        refine lc_it (walk_r0 (n := r + 1)) (fun j H3 => But x H2' H3 ∧ Box H3 x ∧ ∃ zs : List Str, zs.length = j ∧ (∀ z ∈ zs, ∃ c, ls z = [c] ∧ lowC c = true) ∧ H3 D = some (.lst (zs.map V.str)))
          ⟨But.of (same_new nD), b2.upd hDx, [], rfl, (fun z hz => by cases hz), upd_same⟩ (fun _ _ _ _ => True.intro) (fun j y H3 H4 hj h3 yy => ?_) (fun H3 h3 => ?_)
        · obtain ⟨rfl, rfl⟩ := yy
          obtain ⟨k3, b3, zs, hzl, hzz, eD⟩ := h3
          refine ⟨rfl, .str abc, rfl, .ref x, rfl, x, 26, rfl, b3, by decide, by decide, fun c H5 hc k5 b5 => ?_⟩
          have hcl : lowC (97 + c) = true := by
            have := low_mk c
            rwa [Nat.mod_eq_of_lt hc] at this
          refine ⟨_, _, 97 + c, rfl, rfl, (by decide +kernel), atI_nat (abc_at ⟨c, hc⟩), ?_⟩
          refine ⟨_, k5 _ _ hDx eD, by rw [List.length_map]; exact small (by omega), ?_, b5.upd hDx, zs ++ [⟨#[97 + c]⟩], by rw [List.length_append, hzl]; rfl, fun z hz => ?_, by rw [upd_same, List.map_append]; rfl⟩
          · intro c' u hc' e
            by_cases hcD : c' = D
            · rw [hcD, nD] at e
              cases e
            · rw [upd_ne hcD]
              exact k5 _ _ hc' (k3 _ _ hc' e)
          · rcases List.mem_append.mp hz with h | h
            · exact hzz z h
            · rw [List.mem_singleton.mp h]
              exact ⟨97 + c, rfl, hcl⟩
        · obtain ⟨k3, b3, zs, hzl, hzz, eD⟩ := h3
          obtain ⟨j1, j2, j3⟩ := letters_join hzz
          refine ⟨_, D, zs, rfl, rfl, .inl (sqL_new eD), ?_, ?_⟩
          · rw [j3]
            have : (Str.ofString "").length = 0 := by decide +kernel
            rw [this]
            omega
          · refine fin _ _ _ _ H3 ?_ (k2.trans k3) b3
            rw [name_iff, ls_join, j1, hzl]
            exact ⟨by omega, by omega, j2⟩
      by_cases hns : ns = []
      · rw [decide_eq_true hns]
        exact iteT (iteT (fy _ But.refl b1))
      · rw [decide_eq_false hns]
        refine iteF ⟨.ref x, rfl, x, 3, rfl, b1, by decide, by decide, fun kind H1 hk3 k1 b1' => ⟨rfl, _, rfl, ite2 (fun c => fy _ k1 b1') (fun c => ?_)⟩⟩
        have eo1' := k1 _ _ hox eo1
        have hpos : 0 < (ns.map V.str).length := by
          rw [List.length_map]
          cases h : ns with
          | nil => exact absurd h hns
          | cons _ _ => exact Nat.succ_pos _
        refine ⟨.ref x, rfl, .ref o, rfl, x, o, _, rfl, b1', hox, .inl eo1', hpos, by rw [List.length_map]; omega, fun i2 v H2 hv k2 b2 => ?_⟩
        obtain ⟨z, hz, rfl⟩ := get_map hv
        have hzn := nam z (List.mem_of_getElem? hz)
        obtain ⟨z1, z2, z3⟩ := name_iff.mp hzn
        have zsz : z.length ≤ sizeLine := s1000 _ (Nat.le_trans (short z hzn) (by decide))
        refine ⟨.ref x, rfl, .str z, rfl, .str z, _, rfl, ⟨zsz, rfl⟩, x, z.length, rfl, b2, by rw [ls_len]; omega, by rw [ls_len]; omega, fun pl H3 hpl k3 b3 => ?_⟩
        rw [ls_len] at hpl
        have kk3 := (k1.trans k2).trans k3
        have epl : ((pl : Nat) : Int) + 1 = ((pl + 1 : Nat) : Int) := by omega
        refine ⟨.str z, rfl, .int (pl : Nat), rfl, _, rfl, z, rfl, zsz, ?_⟩
        refine ⟨.str abc, rfl, .ref x, rfl, x, 26, rfl, b3, by decide, by decide, fun c H4 hc k4 b4 => ?_⟩
        have hcl : lowC (97 + c) = true := by
          have := low_mk c
          rwa [Nat.mod_eq_of_lt hc] at this
        have e1 : (ls (cutS z none (some ((pl : Nat) : Int)))).length = pl := by rw [ls_cutTo, List.length_take]; omega
        have e3 : (⟨#[97 + c]⟩ : Str).length = 1 := rfl
        refine ⟨_, _, 97 + c, rfl, rfl, (by decide +kernel), atI_nat (abc_at ⟨c, hc⟩), ?_⟩
        dsimp only [tNoPart]
        refine ⟨_, _, rfl, rfl, ?_, .str z, rfl, .int (pl : Nat), rfl, _, 1, rfl, rfl, ((pl + 1 : Nat) : Int), congrArg V.int epl, .ref x, rfl, x, 2, rfl, b4, by decide, by decide, fun c2 H5 hc2 k5 b5 => ?_⟩
        · rw [ls_len, e1, e3]
          exact s1000 _ (by omega)
        have e4 : (4 : Int) + ((c2 : Nat) : Int) = ((4 + c2 : Nat) : Int) := by omega
        obtain ⟨u1, u2⟩ := ls_cut2 z (pl + 1) (4 + c2)
        refine ⟨4, _, rfl, rfl, ((4 + c2 : Nat) : Int), congrArg V.int e4, z, rfl, zsz, _, _, rfl, rfl, ?_, ?_⟩
        · rw [ls_len, ls_len, ls_add, List.length_append, e1]
          refine s1000 _ ?_
          show pl + 1 + _ ≤ 1000000
          omega
        · refine fin _ _ _ _ H5 ?_ ((kk3.trans k4).trans k5) b5
          rw [name_iff, ls_add, ls_add, List.length_append, List.length_append, e1]
          refine ⟨?_, ?_, fun d hd => ?_⟩
          · show 1 ≤ pl + 1 + _
            omega
          · show pl + 1 + _ ≤ 5
            omega
          · rcases List.mem_append.mp hd with h | h
            · rcases List.mem_append.mp h with h | h
              · rw [ls_cutTo] at h
                exact z3 d (List.mem_of_mem_take h)
              · have hd2 : d ∈ [97 + c] := h
                rw [List.mem_singleton.mp hd2]
                exact hcl
            · exact z3 d (u2 d h)
    · rintro σ H' ⟨d4, d5, d6, d7, ns, rfl, k, b, eo, hl, nd, nam⟩
      exact ⟨.ref o, rfl, q o ns H' hl nd nam k b no eo⟩
end
end Kb
namespace Kb
open PySem PySem.Spec PyProof.Rows L2
section
variable {P : Program} {w : World} {K : PySem.W.Frag} {mg : Str → Option Value} {base : Heap}
theorem scBox : FnScope ["script", "k", "cell", "great"] ["script", "k"] (defScope sBox) := ⟨rfl, rfl, rfl, by decide +kernel, rfl, by decide +kernel, by decide +kernel⟩
def spBox (K : PySem.W.Frag) : Sp := fun vs H Q _ => ∃ (a : Addr) (k : Nat) (ns : List Int), vs = [.ref a, .int (k : Nat)] ∧ SqL K H a (intV ns) ∧ k ≤ 3 ∧ ∀ H' p, Same H H' → H p = none → Box H' p → Q (.ref p) H'
theorem ok_box {f : Addr} {fd : FuncData} (F : Fun K "_law_box" "_law_box" sBox f fd) (mi : mg "int" = none) (ml : mg "len" = none) (ma : mg "abs" = none) : FnOk P w K mg base CX0 1 f fd ["script", "k"] (spBox K) := by
  refine F.ok scBox (fun vs H Q E h => ?_) (fun cdv A outer s H vs Q E hr h => ?_)
  · obtain ⟨a, k, ns, rfl, _⟩ := h
    rfl
  · obtain ⟨a, k, ns, rfl, hA, hk, q⟩ := h
    refine ⟨_, pss_cons (ps_set (i := 2) scBox.nd rfl (Or.inl rfl) (pe_op op_add (pe_op op_mul pe_int (pv 1)) pe_int))
      (pss_cons (ps_if (pt_cmpR op_lt (pv 1) (pe_callB call_len_seq (by rfl) ml PySem.boot_len (pa_cons (pv 0) pa_nil)) (nomark _)) (pss_one (ps_set (i := 2) scBox.nd rfl (Or.inl rfl) (pe_callB call_abs (by rfl) ma (by decide +kernel) (pa_cons (pe_callTy call_int1 (by rfl) mi (by decide +kernel) (pa_cons (pe_ix ix_list (pv 0) (pv 1) (fun _ _ => rfl)) pa_nil)) pa_nil)))) (pss_one (ps_if (pt_cmpR op_gt (pe_callB call_len_seq (by rfl) ml PySem.boot_len (pa_cons (pv 0) pa_nil)) pe_int (nomark _)) (pss_one (ps_set (i := 2) scBox.nd rfl (Or.inl rfl) (pe_op op_add (pv 2) (pe_op op_mul (pe_op op_mod (pe_callTy call_int1 (by rfl) mi (by decide +kernel) (pa_cons (pe_callB call_abs (by rfl) ma (by decide +kernel) (pa_cons (pe_callTy call_int1 (by rfl) mi (by decide +kernel) (pa_cons (pe_ix ix_list (pv 0) (pe_op op_mod (pe_callTy call_int1 (by rfl) mi (by decide +kernel) (pa_cons (pv 1) pa_nil)) (pe_callB call_len_seq (by rfl) ml PySem.boot_len (pa_cons (pv 0) pa_nil))) (fun _ _ => rfl)) pa_nil)) pa_nil)) pa_nil)) pe_int) pe_int)))) pss_nil)))
      (pss_cons (ps_set (i := 3) scBox.nd rfl (Or.inl rfl) (pe_ifExp (pt_cmpR op_ge (pv 2) (pe_op op_pow pe_int pe_int) (nomark _)) (pv 2) pe_int))
      (pss_one (ps_ret (pe_lst (pa_cons (pv 3) (pa_cons (pe_op op_add (pe_op op_mod (pe_callTy call_int1 (by rfl) mi (by decide +kernel) (pa_cons (pe_op op_add (pe_op op_add (pe_op op_mul (pe_op op_mod (pe_callTy call_int1 (by rfl) mi (by decide +kernel) (pa_cons (pv 2) pa_nil)) pe_int) pe_int) (pe_op op_mul pe_int (pv 1))) pe_int) pa_nil)) pe_int) pe_int) pa_nil))))))), ?_⟩
    have s1000 : ∀ n, n ≤ 1000000 → n ≤ sizeLine := fun n h => smallE h
    refine ⟨.int (k : Nat), rfl, _, (k : Nat), rfl, rfl, .inl (by decide), _, _, rfl, rfl, ?_⟩
    refine ⟨.int (k : Nat), rfl, .ref a, rfl, a, _, rfl, .inl hA, _, _, rfl, rfl, _, rfl, ?_⟩
    refine ite2 (fun c => ?_) (fun c => ?_)
    · have c := of_decide_eq_true c
      rw [intV_len] at c
      have hg : ns[k]? = some (ns[k]'(by omega)) := List.getElem?_eq_getElem (by omega)
      refine ⟨.ref a, rfl, .int (k : Nat), rfl, a, _, _, _, rfl, rfl, hA, atI_nat (intV_get hg), .inl ⟨_, rfl, _, rfl, ?_⟩⟩
      refine ⟨_, rfl, 10, 18, rfl, rfl, ⟨by decide, by decide, by decide⟩, _, _, rfl, rfl, _, rfl, ite2 (fun _ => ⟨_, rfl, ?_⟩) (fun _ => ?_)⟩
      all_goals
        refine ⟨_, rfl, _, rfl, .inl ⟨_, rfl, _, 2147483629, rfl, rfl, (by show (0 : Int) < 2147483629; decide), _, _, rfl, rfl, .inr (by decide), .int (k : Nat), rfl, _, _, rfl, rfl, .inl (by decide), _, _, rfl, rfl, _, _, rfl, rfl, .inl ⟨_, rfl, _, 2147483629, rfl, rfl, (by show (0 : Int) < 2147483629; decide), _, 1, rfl, rfl, ?_⟩⟩⟩
        exact ⟨s1000 2 (by decide), fun l2 nl2 => q _ l2 (same_new nl2) nl2 ⟨_, _, upd_same⟩⟩
    · refine ⟨.ref a, rfl, a, _, rfl, .inl hA, _, 0, rfl, rfl, _, rfl, ite2 (fun c2 => ?_) (fun c2 => ?_)⟩
      · have c2 := of_decide_eq_true c2
        rw [intV_len] at c2
        obtain ⟨r, hr1, hr2⟩ := mod_nat (k : Int) (n := ns.length) (by omega)
        have hg : ns[r]? = some (ns[r]'(by omega)) := List.getElem?_eq_getElem (by omega)
        refine ⟨_, rfl, .ref a, rfl, .int (k : Nat), rfl, .inl ⟨_, rfl, .ref a, rfl, a, _, rfl, .inl hA, _, _, rfl, rfl, ?_, ?_⟩⟩
        · show (0 : Int) < (((intV ns).length : Nat) : Int)
          rw [intV_len]
          exact c2
        · refine ⟨a, _, _, _, rfl, rfl, hA, at_of (by rw [intV_len]; exact hr2) (intV_get hg), .inl ⟨_, rfl, _, rfl, .inl ⟨_, rfl, _, 2147483629, rfl, rfl, (by show (0 : Int) < 2147483629; decide), _, _, rfl, rfl, .inr (by decide), _, _, rfl, rfl, ?_⟩⟩⟩
          refine ⟨_, rfl, 10, 18, rfl, rfl, ⟨by decide, by decide, by decide⟩, _, _, rfl, rfl, _, rfl, ite2 (fun _ => ⟨_, rfl, ?_⟩) (fun _ => ?_)⟩
          all_goals
            refine ⟨_, rfl, _, rfl, .inl ⟨_, rfl, _, 2147483629, rfl, rfl, (by show (0 : Int) < 2147483629; decide), _, _, rfl, rfl, .inr (by decide), .int (k : Nat), rfl, _, _, rfl, rfl, .inl (by decide), _, _, rfl, rfl, _, _, rfl, rfl, .inl ⟨_, rfl, _, 2147483629, rfl, rfl, (by show (0 : Int) < 2147483629; decide), _, 1, rfl, rfl, ?_⟩⟩⟩
            exact ⟨s1000 2 (by decide), fun l2 nl2 => q _ l2 (same_new nl2) nl2 ⟨_, _, upd_same⟩⟩
      · refine ⟨_, rfl, 10, 18, rfl, rfl, ⟨by decide, by decide, by decide⟩, _, _, rfl, rfl, _, rfl, ite2 (fun _ => ⟨_, rfl, ?_⟩) (fun _ => ?_)⟩
        all_goals
          refine ⟨_, rfl, _, rfl, .inl ⟨_, rfl, _, 2147483629, rfl, rfl, (by show (0 : Int) < 2147483629; decide), _, _, rfl, rfl, .inr (by decide), .int (k : Nat), rfl, _, _, rfl, rfl, .inl (by decide), _, _, rfl, rfl, _, _, rfl, rfl, .inl ⟨_, rfl, _, 2147483629, rfl, rfl, (by show (0 : Int) < 2147483629; decide), _, 1, rfl, rfl, ?_⟩⟩⟩
          exact ⟨s1000 2 (by decide), fun l2 nl2 => q _ l2 (same_new nl2) nl2 ⟨_, _, upd_same⟩⟩
end
end Kb
namespace Kb
open PySem PySem.Spec PyProof.Rows L2
/-! ### is_letter, is_name -/
theorem lt_sign (a b : Nat) : decide ([a] < [b]) = decide (a < b) := by
  by_cases h : a < b
  · rw [decide_eq_true h, decide_eq_true]
    exact List.Lex.rel h
  · rw [decide_eq_false h, decide_eq_false]
    intro w
    cases w with
    | rel w => exact h w
    | cons w => cases w
section
variable {P : Program} {w : World} {K : PySem.W.Frag} {mg : Str → Option Value} {base : Heap}
theorem scLetter : FnScope ["sign"] ["sign"] (defScope sLetter) := ⟨rfl, rfl, rfl, by decide +kernel, rfl, by decide +kernel, by decide +kernel⟩
def spLetter : Sp := fun vs H Q _ => ∃ c : Nat, vs = [.str ⟨#[c]⟩] ∧ Q (.bl (lowC c)) H
theorem ok_letter {f : Addr} {fd : FuncData} (F : Fun K "is_letter" "is_letter" sLetter f fd) : FnOk P w K mg base CX0 1 f fd ["sign"] spLetter := by
  refine F.ok scLetter (fun vs H Q E h => ?_) (fun cdv A outer s H vs Q E hr h => ?_)
  · obtain ⟨c, rfl, _⟩ := h
    rfl
  · obtain ⟨c, rfl, q⟩ := h
    refine ⟨_, pss_one (ps_ret (pe_chain op_le_str op_le_str pe_str (pv 0) pe_str)), ?_⟩
    refine ⟨.str ⟨#[c]⟩, rfl, _, _, rfl, rfl, _, rfl, ?_⟩
    have e1 : (!decide ([c] < (Str.ofString "a").cps.toList)) = decide (97 ≤ c) := by
      rw [show (Str.ofString "a").cps.toList = [97] from by decide +kernel, lt_sign]
      by_cases h : 97 ≤ c
      · rw [decide_eq_true h, decide_eq_false (Nat.not_lt.mpr h)]
        rfl
      · rw [decide_eq_false h, decide_eq_true (Nat.lt_of_not_le h)]
        rfl
    have e2 : (!decide ((Str.ofString "z").cps.toList < [c])) = decide (c ≤ 122) := by
      rw [show (Str.ofString "z").cps.toList = [122] from by decide +kernel, lt_sign]
      by_cases h : c ≤ 122
      · rw [decide_eq_true h, decide_eq_false (Nat.not_lt.mpr h)]
        rfl
      · rw [decide_eq_false h, decide_eq_true (Nat.lt_of_not_le h)]
        rfl
    unfold lowC at q
    rw [← e1, ← e2] at q
    refine ite2 (fun hc => ?_) (fun hc => ?_)
    · refine ⟨_, _, rfl, rfl, ?_⟩
      have hc' : (!decide ([c] < (Str.ofString "a").cps.toList)) = true := hc
      rw [hc', Bool.true_and] at q
      exact q
    · have hc' : (!decide ([c] < (Str.ofString "a").cps.toList)) = false := Bool.eq_false_iff.mpr hc
      rw [hc', Bool.false_and] at q
      exact q
theorem scName : FnScope ["value", "sign"] ["value"] (defScope sName) := ⟨rfl, rfl, rfl, by decide +kernel, rfl, by decide +kernel, by decide +kernel⟩
/-- a value that can be asked for a name: of a known other type, or a text that is short enough -/
def spName (K : PySem.W.Frag) : Sp := fun vs H Q _ => ∃ v : V, vs = [v] ∧ ((∃ t : String, TyX K H v (.type t) ∧ kitB t "str" = some false ∧ Q (.bl false) H) ∨ (∃ s, v = .str s ∧ s.length ≤ sizeLine ∧ ∀ H', Same H H' → Q (.bl (isName s)) H'))
theorem ok_name {f fL : Addr} {fd fdL : FuncData} (F : Fun K "is_name" "is_name" sName f fd) (FL : Fun K "is_letter" "is_letter" sLetter fL fdL) (bL : Binds K fdL ["sign"] []) (gL : mg "is_letter" = some (.ref fL)) {tag : Nat} (gN : mg "LONGEST_NAME" = some (.int 5 tag))
    (mi : mg "isinstance" = none) (ms : mg "str" = none) (ml : mg "len" = none) (ma : mg "all" = none) : FnOk P w K mg base CX0 2 f fd ["value"] (spName K) := by
  have GL : FnOk P w K mg base CX0 1 fL fdL ["sign"] spLetter := ok_letter FL
  refine F.ok scName (fun vs H Q E h => ?_) (fun cdv A outer s H vs Q E hr h => ?_)
  · obtain ⟨v, rfl, _⟩ := h
    rfl
  · obtain ⟨v, rfl, q⟩ := h
    refine ⟨_, pss_cons (ps_if (PW.pt (pw_or (pt_not (pt_val (pe_callB call_isi (by rfl) mi (by decide +kernel) (pa_cons (pv 0) (pa_cons (pe_bltn (v := .ty "str") (by rfl) ms (by decide +kernel) rfl) pa_nil))))) (pw_or1 (pt_not (pt_chain op_le op_le pe_int (pe_callB call_len (by rfl) ml PySem.boot_len (pa_cons (pv 0) pa_nil)) (pe_glob (v := .int 5) rfl gN ⟨_, rfl⟩))))))
      (pss_one (ps_ret pe_bl)) pss_nil)
      (pss_one (ps_ret (pe_callB (cr_all rfl) (by rfl) ma (by decide +kernel) (pa_cons
        (pe_lc (own := [("sign", 1)]) (g := gName 1) (tt := tYes) rfl scName.nd (pi_str (pv 0)) (blkOk_by (own := [("sign", 1)]) (N := ["value", "sign"]) (sc := defScope sName) (by decide +kernel)) (fun _ _ _ _ _ => pg_name (i := 1) scName.nd rfl (Or.inl rfl)) (fun _ _ _ _ _ => pts_nil)
          (fun _ _ _ _ _ => pe_call GL hr (by rfl) gL FL.kp bL .nil pass0 (pa_cons (pv 1) pa_nil))) pa_nil)))), ?_⟩
    rcases q with ⟨t, ty, hb, q⟩ | ⟨z, rfl, hz, q⟩
    · refine ⟨v, rfl, v, .ty "str", .type t, .type "str", false, rfl, .ty "str", ty, kit_ty hb, ?_⟩
      refine ⟨false, rfl, ?_⟩
      exact iteT (iteT q)
    · refine ⟨.str z, rfl, .str z, .ty "str", .type "str", .type "str", true, rfl, .ty "str", .base (.str z), kit_ty (by decide +kernel), true, rfl, iteF ?_⟩
      refine ⟨.str z, rfl, .str z, _, rfl, ⟨hz, rfl⟩, ?_⟩
      refine ⟨_, _, rfl, rfl, _, rfl, ?_⟩
      have no : isName z = false → Q (.bl false) H := fun e => by
        rw [e] at q
        exact q H (fun _ _ h => h)
      refine ite2 (fun c1 => ?_) (fun c1 => ?_)
      · have c1 := of_decide_eq_true c1
        refine ⟨_, _, rfl, rfl, _, rfl, ite2 (fun c2 => ?_) (fun c2 => ?_)⟩
        · refine no ?_
          have c3 : ¬ ((z.length : Nat) : Int) ≤ 5 := of_decide_eq_false (by simpa using c2)
          have c4 : ¬ z.cps.size ≤ 5 := fun h => c3 (by show ((z.cps.size : Nat) : Int) ≤ 5; omega)
          unfold isName
          rw [decide_eq_false c4, Bool.and_false, Bool.false_and]
        · have c3 : ((z.length : Nat) : Int) ≤ 5 := by simpa using c2
          have c4 : z.cps.size ≤ 5 := by have : ((z.cps.size : Nat) : Int) ≤ 5 := c3; omega
          have c5 : 1 ≤ z.cps.size := by have : 1 ≤ ((z.cps.size : Nat) : Int) := c1; omega
          have en : isName z = z.cps.toList.all lowC := by
            unfold isName
            rw [decide_eq_true c5, decide_eq_true c4]
            rfl
          refine ⟨.str z, rfl, z, rfl, fun D nD => ?_⟩
          refine lc_it walk_str (fun i H2 => Same H H2 ∧ H2 D = some (.lst ((((z.cps.toList.map lowC).take i)).map V.bl))) ⟨same_new nD, upd_same⟩ (fun _ _ _ _ => True.intro) (fun i x H2 H3 hi h2 y => ?_) (fun H2 h2 => ?_)
          · obtain ⟨rfl, c, hc, rfl⟩ := y
            obtain ⟨sm, eD⟩ := h2
            refine ⟨rfl, ?_⟩
            refine ⟨.str ⟨#[c]⟩, rfl, c, rfl, _, eD, ?_, fun b o e => ?_, ?_⟩
            · rw [List.length_map]
              refine small (Nat.le_trans (List.length_take_le _ _) ?_)
              omega
            · rw [upd_ne (ne_of_none e nD)]
              exact sm b o e
            · have hg : (z.cps.toList.map lowC)[i]? = some (lowC c) := by
                rw [List.getElem?_map, Array.getElem?_toList, hc]
                rfl
              rw [upd_same, take_of_get hg, List.map_append]
              rfl
          · obtain ⟨sm, eD⟩ := h2
            have el : (z.cps.toList.map lowC).take z.cps.size = z.cps.toList.map lowC := List.take_of_length_le (by rw [List.length_map, Array.length_toList]; exact Nat.le_refl _)
            rw [el] at eD
            refine ⟨D, _, rfl, sqL_new eD, ?_⟩
            have ea : (z.cps.toList.map lowC).all id = isName z := by
              rw [en, List.all_map]
              rfl
            rw [ea]
            exact q H2 sm
      · have c1 : ¬ (1 : Int) ≤ ((z.length : Nat) : Int) := fun h => c1 (decide_eq_true h)
        refine ⟨_, rfl, iteT (no ?_)⟩
        have c4 : ¬ 1 ≤ z.cps.size := fun h => c1 (by show (1 : Int) ≤ ((z.cps.size : Nat) : Int); omega)
        unfold isName
        rw [decide_eq_false c4]
        rfl
end
end Kb
namespace Kb
open PySem PySem.Spec PyProof.Rows L2
/-- keys numbers or texts, with tests -/
theorem dcK_it {J : It} {n : Nat} {G : Hp → Prop} {Y : Nat → Hp → V → Hp → Prop} (w : Walk J n G Y) {g : TG} {tt : TT} {tk tv : TE} {vs : List Nat} {σ : L2.St} {H1 : Hp} {D : Addr} {Qd : Hp → Prop} (Pv : Nat → Hp → Prop) (h0 : Pv 0 (upd H1 D (.dK []))) (hG : ∀ i H, i ≤ n → Pv i H → G H)
    (hs : ∀ i x H H', i < n → Pv i H → Y i H x H' → g x (wipe σ vs) H' fun σ2 H2 => wipe σ2 vs = wipe σ vs ∧ tt σ2 H2 fun b H3 => if b = true then tk σ2 H3 fun y H4 => tv σ2 H4 fun z H5 => ∃ kvs k, y = kV k ∧ H5 D = some (.dK kvs) ∧ kvs.length < sizeLine ∧ Pv (i + 1) (upd H5 D (.dK (putK kvs k z))) else Pv (i + 1) H3)
    (hd : ∀ H, Pv n H → Qd H) : ∃ W : Nat → Nat → Hp → Prop, (∃ m, W 0 m (upd H1 D (.dK []))) ∧ ∀ i m H, W i m H →
      (J.stop i H ∧ Qd H) ∨ (J.go i H ∧ ∃ Nx : Hp → Prop, (∀ H', Nx H' → ∃ m', m' < m ∧ W (i + 1) m' H') ∧ ∀ x H', J.yld i H x H' → g x (wipe σ vs) H' fun σ2 H2 => wipe σ2 vs = wipe σ vs ∧ tt σ2 H2 fun b H3 =>
        if b = true then tk σ2 H3 fun y H4 => tv σ2 H4 fun z H5 => ∃ kvs k, y = kV k ∧ H5 D = some (.dK kvs) ∧ kvs.length < sizeLine ∧ Nx (upd H5 D (.dK (putK kvs k z))) else Nx H3) := by
  refine ⟨fun i m H => m = n - i ∧ i ≤ n ∧ Pv i H, ⟨n, rfl, Nat.zero_le _, h0⟩, fun i m H ⟨em, hi, p⟩ => ?_⟩
  by_cases hlt : i < n
  · refine .inr ⟨w.goes i H hlt (hG i H hi p), Pv (i + 1), fun H' p' => ⟨n - (i + 1), by omega, rfl, hlt, p'⟩, fun x H' y => ?_⟩
    exact hs i x H H' hlt p (w.yields i H x H' hlt (hG i H hi p) y)
  · obtain rfl : i = n := by omega
    exact .inl ⟨w.stops H (hG i H hi p), hd H p⟩
/-- keys tuples -/
theorem dcT_it {J : It} {n : Nat} {G : Hp → Prop} {Y : Nat → Hp → V → Hp → Prop} (w : Walk J n G Y) {g : TG} {tk tv : TE} {vs : List Nat} {σ : L2.St} {H1 : Hp} {D : Addr} {Qd : Hp → Prop} (Pv : Nat → Hp → Prop) (h0 : Pv 0 (upd H1 D (.dT []))) (hG : ∀ i H, i ≤ n → Pv i H → G H)
    (hs : ∀ i x H H', i < n → Pv i H → Y i H x H' → g x (wipe σ vs) H' fun σ2 H2 => wipe σ2 vs = wipe σ vs ∧ tk σ2 H2 fun y H4 => tv σ2 H4 fun z H5 => ∃ kvs k b, y = .ref b ∧ H5 b = some (.tup (k.map kV)) ∧ H5 D = some (.dT kvs) ∧ kvs.length < sizeLine ∧ Pv (i + 1) (upd H5 D (.dT (putK kvs k z))))
    (hd : ∀ H, Pv n H → Qd H) : ∃ W : Nat → Nat → Hp → Prop, (∃ m, W 0 m (upd H1 D (.dT []))) ∧ ∀ i m H, W i m H →
      (J.stop i H ∧ Qd H) ∨ (J.go i H ∧ ∃ Nx : Hp → Prop, (∀ H', Nx H' → ∃ m', m' < m ∧ W (i + 1) m' H') ∧ ∀ x H', J.yld i H x H' → g x (wipe σ vs) H' fun σ2 H2 => wipe σ2 vs = wipe σ vs ∧
        tk σ2 H2 fun y H4 => tv σ2 H4 fun z H5 => ∃ kvs k b, y = .ref b ∧ H5 b = some (.tup (k.map kV)) ∧ H5 D = some (.dT kvs) ∧ kvs.length < sizeLine ∧ Nx (upd H5 D (.dT (putK kvs k z)))) := by
  refine ⟨fun i m H => m = n - i ∧ i ≤ n ∧ Pv i H, ⟨n, rfl, Nat.zero_le _, h0⟩, fun i m H ⟨em, hi, p⟩ => ?_⟩
  by_cases hlt : i < n
  · refine .inr ⟨w.goes i H hlt (hG i H hi p), Pv (i + 1), fun H' p' => ⟨n - (i + 1), by omega, rfl, hlt, p'⟩, fun x H' y => ?_⟩
    exact hs i x H H' hlt p (w.yields i H x H' hlt (hG i H hi p) y)
  · obtain rfl : i = n := by omega
    exact .inl ⟨w.stops H (hG i H hi p), hd H p⟩
/-- the second clause of two -/
theorem in_it {J : It} {n : Nat} {G : Hp → Prop} {Y : Nat → Hp → V → Hp → Prop} (w : Walk J n G Y) {up : Addr → V → V → Hp → (Hp → Prop) → Prop} {D : Addr} {g1 : TG} {tt1 : TT} {tk tv : TE} {vs1 : List Nat} {τ : L2.St} {H0 : Hp} {Nx : Hp → Prop} (Pv : Nat → Hp → Prop) (h0 : Pv 0 H0) (hG : ∀ i H, i ≤ n → Pv i H → G H)
    (hs : ∀ j x H H', j < n → Pv j H → Y j H x H' → g1 x (wipe τ vs1) H' fun τ2 H5 => wipe τ2 vs1 = wipe τ vs1 ∧ tt1 τ2 H5 fun b H6 => if b = true then tk τ2 H6 fun y H7 => tv τ2 H7 fun z H8 => up D y z H8 (Pv (j + 1)) else Pv (j + 1) H6)
    (hd : ∀ H, Pv n H → Nx H) : Ka.InP up D g1 tt1 tk tv vs1 τ Nx J H0 := by
  refine ⟨fun i m H => m = n - i ∧ i ≤ n ∧ Pv i H, ⟨n, rfl, Nat.zero_le _, h0⟩, fun i m H ⟨em, hi, p⟩ => ?_⟩
  by_cases hlt : i < n
  · refine .inr ⟨w.goes i H hlt (hG i H hi p), Pv (i + 1), fun H' p' => ⟨n - (i + 1), by omega, rfl, hlt, p'⟩, fun x H' y => ?_⟩
    exact hs i x H H' hlt p (w.yields i H x H' hlt (hG i H hi p) y)
  · obtain rfl : i = n := by omega
    exact .inl ⟨w.stops H (hG i H hi p), hd H p⟩
/-- the first -/
theorem out_it {J : It} {n : Nat} {G : Hp → Prop} {Y : Nat → Hp → V → Hp → Prop} (w : Walk J n G Y) {o0 : HO} {up : Addr → V → V → Hp → (Hp → Prop) → Prop} {g g1 : TG} {tt tt1 : TT} {wi1 : TI} {tk tv : TE} {vs vs1 : List Nat} {σ : L2.St} {H1 : Hp} {D : Addr} {Qd : Hp → Prop} (Pv : Nat → Hp → Prop) (h0 : Pv 0 (upd H1 D o0)) (hG : ∀ i H, i ≤ n → Pv i H → G H)
    (hs : ∀ i x H H', i < n → Pv i H → Y i H x H' → g x (wipe σ vs) H' fun τ H2 => wipe τ vs = wipe σ vs ∧ tt τ H2 fun b H3 => if b = true then wi1 τ H3 fun J1 H4 => Ka.InP up D g1 tt1 tk tv vs1 τ (Pv (i + 1)) J1 H4 else Pv (i + 1) H3)
    (hd : ∀ H, Pv n H → Qd H) : ∃ W : Nat → Nat → Hp → Prop, (∃ m, W 0 m (upd H1 D o0)) ∧ ∀ i m H, W i m H → (J.stop i H ∧ Qd H) ∨ (J.go i H ∧ ∃ Nx : Hp → Prop, (∀ H', Nx H' → ∃ m', m' < m ∧ W (i + 1) m' H') ∧
      ∀ x H', J.yld i H x H' → g x (wipe σ vs) H' fun τ H2 => wipe τ vs = wipe σ vs ∧ tt τ H2 fun b H3 => if b = true then wi1 τ H3 fun J1 H4 => Ka.InP up D g1 tt1 tk tv vs1 τ Nx J1 H4 else Nx H3) := by
  refine ⟨fun i m H => m = n - i ∧ i ≤ n ∧ Pv i H, ⟨n, rfl, Nat.zero_le _, h0⟩, fun i m H ⟨em, hi, p⟩ => ?_⟩
  by_cases hlt : i < n
  · refine .inr ⟨w.goes i H hlt (hG i H hi p), Pv (i + 1), fun H' p' => ⟨n - (i + 1), by omega, rfl, hlt, p'⟩, fun x H' y => ?_⟩
    exact hs i x H H' hlt p (w.yields i H x H' hlt (hG i H hi p) y)
  · obtain rfl : i = n := by omega
    exact .inl ⟨w.stops H (hG i H hi p), hd H p⟩
/-- a list comprehension with two clauses: the second -/
theorem lcin_it {J : It} {n : Nat} {G : Hp → Prop} {Y : Nat → Hp → V → Hp → Prop} (w : Walk J n G Y) {D : Addr} {g1 : TG} {tt1 : TT} {te : TE} {vs1 : List Nat} {τ : L2.St} {H0 : Hp} {Nx : Hp → Prop} (Pv : Nat → Hp → Prop) (h0 : Pv 0 H0) (hG : ∀ i H, i ≤ n → Pv i H → G H)
    (hs : ∀ j x H H', j < n → Pv j H → Y j H x H' → g1 x (wipe τ vs1) H' fun τ2 H5 => wipe τ2 vs1 = wipe τ vs1 ∧ tt1 τ2 H5 fun b H6 => if b = true then te τ2 H6 fun y H7 => ∃ acc, H7 D = some (.lst acc) ∧ acc.length < sizeLine ∧ Pv (j + 1) (upd H7 D (.lst (acc ++ [y]))) else Pv (j + 1) H6)
    (hd : ∀ H, Pv n H → Nx H) : ∃ W1 : Nat → Nat → Hp → Prop, (∃ m, W1 0 m H0) ∧ ∀ j k H, W1 j k H →
      (J.stop j H ∧ Nx H) ∨ (J.go j H ∧ ∃ Nx1 : Hp → Prop, (∀ H', Nx1 H' → ∃ k', k' < k ∧ W1 (j + 1) k' H') ∧ ∀ x H', J.yld j H x H' → g1 x (wipe τ vs1) H' fun σ3 H5 => wipe σ3 vs1 = wipe τ vs1 ∧ tt1 σ3 H5 fun b H6 =>
        if b = true then te σ3 H6 fun y H7 => ∃ acc, H7 D = some (.lst acc) ∧ acc.length < sizeLine ∧ Nx1 (upd H7 D (.lst (acc ++ [y]))) else Nx1 H6) := by
  refine ⟨fun i m H => m = n - i ∧ i ≤ n ∧ Pv i H, ⟨n, rfl, Nat.zero_le _, h0⟩, fun i m H ⟨em, hi, p⟩ => ?_⟩
  by_cases hlt : i < n
  · refine .inr ⟨w.goes i H hlt (hG i H hi p), Pv (i + 1), fun H' p' => ⟨n - (i + 1), by omega, rfl, hlt, p'⟩, fun x H' y => ?_⟩
    exact hs i x H H' hlt p (w.yields i H x H' hlt (hG i H hi p) y)
  · obtain rfl : i = n := by omega
    exact .inl ⟨w.stops H (hG i H hi p), hd H p⟩
/-- what the second clause asks -/
def LcIn (D : Addr) (g1 : TG) (tt1 : TT) (te : TE) (vs1 : List Nat) (σ2 : L2.St) (Nx : Hp → Prop) (J1 : It) (H4 : Hp) : Prop := ∃ W1 : Nat → Nat → Hp → Prop, (∃ m, W1 0 m H4) ∧ ∀ j k H, W1 j k H →
      (J1.stop j H ∧ Nx H) ∨ (J1.go j H ∧ ∃ Nx1 : Hp → Prop, (∀ H', Nx1 H' → ∃ k', k' < k ∧ W1 (j + 1) k' H') ∧ ∀ x H', J1.yld j H x H' → g1 x (wipe σ2 vs1) H' fun σ3 H5 => wipe σ3 vs1 = wipe σ2 vs1 ∧ tt1 σ3 H5 fun b H6 =>
        if b = true then te σ3 H6 fun y H7 => ∃ acc, H7 D = some (.lst acc) ∧ acc.length < sizeLine ∧ Nx1 (upd H7 D (.lst (acc ++ [y]))) else Nx1 H6)
theorem lcout_it {J : It} {n : Nat} {G : Hp → Prop} {Y : Nat → Hp → V → Hp → Prop} (w : Walk J n G Y) {g g1 : TG} {tt tt1 : TT} {wi1 : TI} {te : TE} {vs vs1 : List Nat} {σ : L2.St} {H1 : Hp} {D : Addr} {Qd : Hp → Prop} (Pv : Nat → Hp → Prop) (h0 : Pv 0 (upd H1 D (.lst []))) (hG : ∀ i H, i ≤ n → Pv i H → G H)
    (hs : ∀ i x H H', i < n → Pv i H → Y i H x H' → g x (wipe σ vs) H' fun τ H2 => wipe τ vs = wipe σ vs ∧ tt τ H2 fun b H3 => if b = true then wi1 τ H3 fun J1 H4 => LcIn D g1 tt1 te vs1 τ (Pv (i + 1)) J1 H4 else Pv (i + 1) H3)
    (hd : ∀ H, Pv n H → Qd H) : ∃ W : Nat → Nat → Hp → Prop, (∃ m, W 0 m (upd H1 D (.lst []))) ∧ ∀ i m H, W i m H → (J.stop i H ∧ Qd H) ∨ (J.go i H ∧ ∃ Nx : Hp → Prop, (∀ H', Nx H' → ∃ m', m' < m ∧ W (i + 1) m' H') ∧
      ∀ x H', J.yld i H x H' → g x (wipe σ vs) H' fun τ H2 => wipe τ vs = wipe σ vs ∧ tt τ H2 fun b H3 => if b = true then wi1 τ H3 fun J1 H4 => LcIn D g1 tt1 te vs1 τ Nx J1 H4 else Nx H3) := by
  refine ⟨fun i m H => m = n - i ∧ i ≤ n ∧ Pv i H, ⟨n, rfl, Nat.zero_le _, h0⟩, fun i m H ⟨em, hi, p⟩ => ?_⟩
  by_cases hlt : i < n
  · refine .inr ⟨w.goes i H hlt (hG i H hi p), Pv (i + 1), fun H' p' => ⟨n - (i + 1), by omega, rfl, hlt, p'⟩, fun x H' y => ?_⟩
    exact hs i x H H' hlt p (w.yields i H x H' hlt (hG i H hi p) y)
  · obtain rfl : i = n := by omega
    exact .inl ⟨w.stops H (hG i H hi p), hd H p⟩
theorem piT_at {X : Cx} {K : PySem.W.Frag} {tg l : Expr} {t : TE} (h : X.K = K) (hl : PE X l t) : PI X tg l (iTup K t) := by
  subst h
  exact pi_tup hl
theorem piL_at {X : Cx} {K : PySem.W.Frag} {tg l : Expr} {t : TE} (h : X.K = K) (hl : PE X l t) : PI X tg l (iList K t) := by
  subst h
  exact pi_list hl
theorem putK_new {κ : Type} [DecidableEq κ] : ∀ {kvs : List (κ × V)} {k : κ} {v : V}, k ∉ kvs.map (·.1) → putK kvs k v = kvs ++ [(k, v)] := by
  intro kvs k v h
  unfold putK
  rw [if_neg]
  rw [List.any_eq_true]
  rintro ⟨x, hx, e⟩
  exact h (List.mem_map.mpr ⟨x, hx, of_decide_eq_true e⟩)
theorem valV_mem {κ : Type} [DecidableEq κ] : ∀ {kvs : List (κ × V)} {k : κ} {v : V}, (kvs.map (·.1)).Nodup → (k, v) ∈ kvs → valV kvs k = some v
  | [], _, _, _, h => nomatch h
  | p :: r, k, v, nd, h => by
    rw [List.map_cons, List.nodup_cons] at nd
    rcases List.mem_cons.mp h with e | e
    · subst e
      exact valV_pos rfl
    · have : ¬ p.1 = k := fun z => nd.1 (z ▸ List.mem_map.mpr ⟨_, e, rfl⟩)
      rw [valV_neg this]
      exact valV_mem nd.2 e
theorem valV_none {κ : Type} [DecidableEq κ] : ∀ {kvs : List (κ × V)} {k : κ}, k ∉ kvs.map (·.1) → valV kvs k = none
  | [], _, _ => rfl
  | p :: r, k, h => by
    rw [List.map_cons, List.mem_cons, not_or] at h
    rw [valV_neg fun z => h.1 z.symm]
    exact valV_none h.2
theorem Rd.mono {H H' : Hp} {a : Addr} {u : HO} (h : Rd H a u) (s : Same H H') : Rd H' a u := h.elim (fun e => .inl (s _ _ e)) fun ⟨o, e⟩ => .inr ⟨o, s _ _ e⟩
end Kb
namespace Kb
open PySem PySem.Spec PyProof.Rows L2
/-! ### courses as data -/
structure Stp where
  n : Nat
  call : Bool
  nm : Str
  o : Nat
  deriving DecidableEq
def kindS (c : Bool) : Str := if c = true then "call" else "do"
def stpK (s : Stp) : List L2.Key := [.inl (s.n : Int), .inr (kindS s.call), .inr s.nm, .inl (s.o : Int)]
def stpV (s : Stp) : List V := [.int (s.n : Int), .str (kindS s.call), .str s.nm, .int (s.o : Int)]
theorem stpKV (s : Stp) : (stpK s).map kV = stpV s := rfl
theorem kindS_inj {a b : Bool} (h : kindS a = kindS b) : a = b := by
  cases a <;> cases b <;> first | rfl | exact absurd h (by decide +kernel)
theorem stpK_inj {s t : Stp} (h : stpK s = stpK t) : s = t := by
  cases s with | mk a b c d => cases t with | mk a' b' c' d' =>
  unfold stpK at h
  injection h with h1 h
  injection h with h2 h
  injection h with h3 h
  injection h with h4 h
  have h1 := Sum.inl.inj h1
  have h2 := kindS_inj (Sum.inr.inj h2)
  have h3 := Sum.inr.inj h3
  have h4 := Sum.inl.inj h4
  have h1 : (a : Int) = (a' : Int) := h1
  have h4 : (d : Int) = (d' : Int) := h4
  obtain rfl : a = a' := by omega
  obtain rfl : d = d' := by omega
  have h2 : b = b' := h2
  have h3 : c = c' := h3
  rw [h2, h3]
def StpOk (n : Nat) (s : Stp) : Prop := s.n < n ∧ s.o < n ∧ isName s.nm = true
/-- a course where it stands -/
structure CA where
  a : Addr
  nm : Str
  n : Nat
  ea : Addr
  es : List Nat
  sa : Addr
  ss : List (Addr × Stp)
def crsV (c : CA) : List V := [.str c.nm, .int (c.n : Int), .ref c.ea, .ref c.sa]
structure CrsAt (K : PySem.W.Frag) (H : Hp) (c : CA) : Prop where
  t : SqT K H c.a (crsV c)
  e : SqT K H c.ea (natV c.es)
  s : SqT K H c.sa (c.ss.map fun p => V.ref p.1)
  p : ∀ p ∈ c.ss, H p.1 = some (.tup (stpV p.2))
theorem CrsAt.mono {K : PySem.W.Frag} {H H' : Hp} {c : CA} (s : Same H H') (h : CrsAt K H c) : CrsAt K H' c := ⟨Same.sqT s h.t, Same.sqT s h.e, Same.sqT s h.s, fun p hp => s _ _ (h.p p hp)⟩
structure CrsOk (c : CA) : Prop where
  nm : isName c.nm = true
  n0 : 1 ≤ c.n
  n1 : c.n ≤ 20
  el : ∀ e ∈ c.es, e < c.n
  asc : c.es.Pairwise (· < ·)
  sl : ∀ p ∈ c.ss, StpOk c.n p.2
  nd : (c.ss.map (·.2)).Nodup
  sz : c.ss.length ≤ 10000
  ez : c.es.length ≤ 10000
theorem name_len {s : Str} (h : isName s = true) : s.length ≤ sizeLine := by
  unfold isName at h
  rw [Bool.and_eq_true, Bool.and_eq_true] at h
  have := of_decide_eq_true h.1.2
  exact smallE (by show s.cps.size ≤ 1000000; omega)
theorem all_trueL (n : Nat) : (List.replicate n true).all id = true := by simp
section
variable {P : Program} {w : World} {K : PySem.W.Frag} {mg : Str → Option Value} {base : Heap}
def spIsLot (K : PySem.W.Frag) : Sp := fun vs H Q _ => ∃ (a : Addr) (l : List Nat), vs = [.ref a] ∧ SqT K H a (natV l) ∧ l.length ≤ 10000 ∧ l.Pairwise (· < ·) ∧ ∀ H', Same H H' → Q (.bl true) H'
abbrev nIl : List Str := ["values", "at"]
theorem scIl : FnScope nIl ["values"] (defScope sIsLot) := ⟨rfl, rfl, rfl, by decide +kernel, rfl, by decide +kernel, by decide +kernel⟩
theorem ok_islot {f : Addr} {fd : FuncData} (F : Fun K "is_lot" "is_lot" sIsLot f fd) (N : Nones mg) : FnOk P w K mg base CX0 1 f fd ["values"] (spIsLot K) := by
  refine F.ok scIl (fun vs H Q E h => ?_) (fun cdv A outer s H vs Q E hr h => ?_)
  · obtain ⟨a, l, rfl, _⟩ := h
    rfl
  · obtain ⟨a, l, rfl, hA, hl, asc, q⟩ := h
    refine ⟨_, pss_one (ps_ret (pe_callB (cr_all rfl) (by rfl) N.all (by decide +kernel) (pa_cons (pe_lc (own := [("at", 1)]) (g := gName 1) (tt := tYes) rfl scIl.nd (pi_range1 (by rfl) N.range (pa_cons (pe_op op_sub (pe_callB call_len_seq (by rfl) N.len PySem.boot_len (pa_cons (pv 0) pa_nil)) pe_int) pa_nil)) (blkOk_by (own := [("at", 1)]) (N := nIl) (sc := defScope sIsLot) (by decide +kernel)) (fun _ _ _ _ _ => (pg_name (i := 1) scIl.nd rfl (Or.inl rfl))) (fun _ _ _ _ _ => pts_nil) (fun _ _ _ _ _ => (pe_cmpR op_lt (pe_ix (ixT_at (K := K) rfl) (pv 0) (pv 1) (fun _ _ => rfl)) (pe_ix (ixT_at (K := K) rfl) (pv 0) (pe_op op_add (pv 1) pe_int) (fun _ _ => rfl)) (nomark _)))) pa_nil))), ?_⟩
    refine ⟨.ref a, rfl, a, _, rfl, .inr hA, _, 1, rfl, rfl, _, rfl, (by rw [natV_len]; omega), (by rw [natV_len]; omega), fun D nD => ?_⟩
    have em : (((natV l).length : Int) - 1).toNat = l.length - 1 := by rw [natV_len]; omega
    rw [em]
    refine lc_pure (walk_r0 (n := l.length - 1)) ((List.replicate (l.length - 1) true).map V.bl) (by rw [List.length_map, List.length_replicate]) nD (fun _ _ => True.intro) (fun i x H0 H' hi h0 y => ?_) (fun H' s' e => ?_)
    · obtain ⟨rfl, rfl⟩ := y
      have h1 : l[i]? = some (l[i]'(by omega)) := List.getElem?_eq_getElem _
      have h2 : l[i + 1]? = some (l[i + 1]'(by omega)) := List.getElem?_eq_getElem _
      refine ⟨rfl, .ref a, rfl, .int (i : Nat), rfl, a, _, _, _, rfl, rfl, Same.sqT h0.1 hA, atI_nat (natV_get h1), .ref a, rfl, .int (i : Nat), rfl, _, 1, rfl, rfl, a, _, _, .int ((l[i + 1]'(by omega) : Nat) : Int), rfl, rfl, Same.sqT h0.1 hA, ?_, _, _, rfl, rfl, ?_⟩
      · rw [show (i : Int) + 1 = ((i + 1 : Nat) : Int) from rfl]
        exact atI_nat (natV_get h2)
      · have lt : l[i]'(by omega) < l[i + 1]'(by omega) := List.pairwise_iff_getElem.mp asc i (i + 1) _ _ (Nat.lt_succ_self i)
        have e : decide (((l[i]'(by omega) : Nat) : Int) < ((l[i + 1]'(by omega) : Nat) : Int)) = true := decide_eq_true (by omega)
        dsimp only
        rw [e]
        refine h0.put nD (fun _ _ h => h) ?_ (by rw [List.length_map, List.length_replicate]; omega)
        rw [List.getElem?_map, List.getElem?_replicate, if_pos hi]
        rfl
    · refine ⟨D, _, rfl, sqL_new e, ?_⟩
      rw [all_trueL]
      exact q H' s'
end
end Kb
namespace Kb
open PySem PySem.Spec PyProof.Rows L2
/-! ### is_step, are_ends, are_steps, is_course: of good ones -/
section
variable {P : Program} {w : World} {K : PySem.W.Frag} {mg : Str → Option Value} {base : Heap}
def spIsStep : Sp := fun vs H Q _ => ∃ (a : Addr) (n : Nat) (s : Stp), vs = [.ref a, .int (n : Int)] ∧ H a = some (.tup (stpV s)) ∧ StpOk n s ∧ ∀ H', Same H H' → Q (.bl true) H'
abbrev nIs : List Str := ["value", "stages", "number", "kind", "name", "onto"]
theorem scIs : FnScope nIs ["value", "stages"] (defScope sIsStep) := ⟨rfl, rfl, rfl, by decide +kernel, rfl, by decide +kernel, by decide +kernel⟩
theorem ok_isstep {f fT fN : Addr} {fd fdT fdN : FuncData} (F : Fun K "is_step" "is_step" sIsStep f fd) (N : Nones mg) (G_is_number_to : FnOk P w K mg base CX0 3 fT fdT ["value", "most"] spIsNumTo) (C_is_number_to : CallC K mg "is_number_to" ["value", "most"] fT fdT) (G_is_name : FnOk P w K mg base CX0 2 fN fdN ["value"] (spName K)) (C_is_name : CallC K mg "is_name" ["value"] fN fdN) : FnOk P w K mg base CX0 4 f fd ["value", "stages"] spIsStep := by
  refine F.ok scIs (fun vs H Q E h => ?_) (fun cdv A outer s H vs Q E hr h => ?_)
  · obtain ⟨a, n, t, rfl, _⟩ := h
    rfl
  · obtain ⟨a, n, t, rfl, ha, ⟨o1, o2, o3⟩, q⟩ := h
    refine ⟨_, pss_cons (ps_if (PW.pt (pw_or (pt_not (pt_val (pe_callB call_isi (by rfl) N.isinstance (by decide +kernel) (pa_cons (pv 0) (pa_cons (pe_bltn (v := .ty "tuple") (by rfl) N.tuple (by decide +kernel) rfl) pa_nil))))) (pw_or1 (pt_cmpR op_ne (pe_callB call_len_seq (by rfl) N.len PySem.boot_len (pa_cons (pv 0) pa_nil)) pe_int (nomark _))))) (pss_one (ps_ret pe_bl)) pss_nil)
      (pss_cons (ps_asg (pv 0) (pg_tup rfl (pgs_cons (pg_name (i := 2) scIs.nd rfl (Or.inl rfl)) (pgs_cons (pg_name (i := 3) scIs.nd rfl (Or.inl rfl)) (pgs_cons (pg_name (i := 4) scIs.nd rfl (Or.inl rfl)) (pgs_cons (pg_name (i := 5) scIs.nd rfl (Or.inl rfl)) pgs_nil))))))
      (pss_cons (ps_if (PW.pt (pw_or (pt_not (pt_val (pe_call G_is_number_to (hr.mono (by decide)) (by rfl) C_is_number_to.g C_is_number_to.kp C_is_number_to.b .nil pass0 (pa_cons (pv 2) (pa_cons (pe_op op_sub (pv 1) pe_int) pa_nil))))) (pw_or1 (pt_not (pt_val (pe_call G_is_number_to (hr.mono (by decide)) (by rfl) C_is_number_to.g C_is_number_to.kp C_is_number_to.b .nil pass0 (pa_cons (pv 5) (pa_cons (pe_op op_sub (pv 1) pe_int) pa_nil)))))))) (pss_one (ps_ret pe_bl)) pss_nil)
      (pss_one (ps_ret (pe_and (pe_callB call_isi (by rfl) N.isinstance (by decide +kernel) (pa_cons (pv 3) (pa_cons (pe_bltn (v := .ty "str") (by rfl) N.str (by decide +kernel) rfl) pa_nil))) (pe_and (pe_cmpR op_in_seq (pv 3) (pe_tup (pa_cons pe_str (pa_cons pe_str pa_nil))) (by rfl)) (pe_one (pe_call G_is_name (hr.mono (by decide)) (by rfl) C_is_name.g C_is_name.kp C_is_name.b .nil pass0 (pa_cons (pv 4) pa_nil))))))))), ?_⟩
    have hA : SqT K H a (stpV t) := sqT_new ha
    refine ⟨.ref a, rfl, .ref a, .ty "tuple", .type "tuple", .type "tuple", true, rfl, .ty "tuple", tyT hA, kit_ty (by decide +kernel), true, rfl, iteF ?_⟩
    refine ⟨.ref a, rfl, a, _, rfl, .inr hA, rfl, _, rfl, iteNo (by simp [stpV]) ?_⟩
    refine ⟨.ref a, rfl, a, _, rfl, hA, rfl, _, _, rfl, _, _, rfl, _, _, rfl, _, _, rfl, rfl, ?_⟩
    have y1 : (decide ((0 : Int) ≤ (t.n : Int)) && decide ((t.n : Int) ≤ (n : Int) - 1)) = true := by
      rw [decide_eq_true (by omega), decide_eq_true (by omega)]
      rfl
    have y2 : (decide ((0 : Int) ≤ (t.o : Int)) && decide ((t.o : Int) ≤ (n : Int) - 1)) = true := by
      rw [decide_eq_true (by omega), decide_eq_true (by omega)]
      rfl
    refine ⟨_, rfl, _, rfl, _, _, rfl, rfl, _, _, rfl, ?_⟩
    rw [y1]
    refine ⟨true, rfl, iteF ⟨_, rfl, _, rfl, _, _, rfl, rfl, _, _, rfl, ?_⟩⟩
    rw [y2]
    refine ⟨true, rfl, iteF ?_⟩
    refine ⟨_, rfl, .str (kindS t.call), .ty "str", .type "str", .type "str", true, rfl, .ty "str", .base (.str _), kit_ty (by decide +kernel), _, rfl, ite2 (fun _ => ?_) (fun c => absurd rfl c)⟩
    have hin : inV (V.str (kindS t.call)) [V.str "do", V.str "call"] = true := by
      cases t.call <;> decide +kernel
    refine ⟨_, rfl, smallE (by show 2 ≤ 1000000; decide), fun p np => ⟨p, _, rfl, .inr (sqT_new upd_same), rfl, rfl, ?_⟩⟩
    have s1 : Same H (upd H p (.tup [V.str "do", V.str "call"])) := same_new np
    refine ⟨_, rfl, iteYes hin ?_⟩
    exact ⟨_, rfl, _, rfl, .inr ⟨_, rfl, name_len o3, fun H' s' => by rw [o3]; exact q H' (s1.trans s')⟩⟩
def spAreEnds (K : PySem.W.Frag) : Sp := fun vs H Q _ => ∃ (a : Addr) (n : Nat) (l : List Nat), vs = [.ref a, .int (n : Int)] ∧ SqT K H a (natV l) ∧ l.length ≤ 10000 ∧ l.Pairwise (· < ·) ∧ (∀ e ∈ l, e < n) ∧ ∀ H', Same H H' → Q (.bl true) H'
abbrev nAe : List Str := ["ends", "stages", "number"]
theorem scAe : FnScope nAe ["ends", "stages"] (defScope sAreEnds) := ⟨rfl, rfl, rfl, by decide +kernel, rfl, by decide +kernel, by decide +kernel⟩
theorem ok_areends {f fT fN : Addr} {fd fdT fdN : FuncData} (F : Fun K "are_ends" "are_ends" sAreEnds f fd) (N : Nones mg) (G_is_number_to : FnOk P w K mg base CX0 3 fT fdT ["value", "most"] spIsNumTo) (C_is_number_to : CallC K mg "is_number_to" ["value", "most"] fT fdT) (G_is_lot : FnOk P w K mg base CX0 1 fN fdN ["values"] (spIsLot K)) (C_is_lot : CallC K mg "is_lot" ["values"] fN fdN) : FnOk P w K mg base CX0 4 f fd ["ends", "stages"] (spAreEnds K) := by
  refine F.ok scAe (fun vs H Q E h => ?_) (fun cdv A outer s H vs Q E hr h => ?_)
  · obtain ⟨a, n, t, rfl, _⟩ := h
    rfl
  · obtain ⟨a, n, l, rfl, hA, hz, asc, lt, q⟩ := h
    refine ⟨_, pss_cons (ps_if (pt_not (pt_val (pe_callB call_isi (by rfl) N.isinstance (by decide +kernel) (pa_cons (pv 0) (pa_cons (pe_bltn (v := .ty "tuple") (by rfl) N.tuple (by decide +kernel) rfl) pa_nil))))) (pss_one (ps_ret pe_bl)) pss_nil)
      (pss_one (ps_ret (pe_and (pe_callB (cr_all rfl) (by rfl) N.all (by decide +kernel) (pa_cons (pe_lc (own := [("number", 2)]) (g := gName 2) (tt := tYes) rfl scAe.nd (pi_tup (pv 0)) (blkOk_by (own := [("number", 2)]) (N := nAe) (sc := defScope sAreEnds) (by decide +kernel)) (fun _ _ _ _ _ => (pg_name (i := 2) scAe.nd rfl (Or.inl rfl))) (fun _ _ _ _ _ => pts_nil) (fun _ _ _ _ _ => (pe_call G_is_number_to (hr.mono (by decide)) (by rfl) C_is_number_to.g C_is_number_to.kp C_is_number_to.b .nil pass0 (pa_cons (pv 2) (pa_cons (pe_op op_sub (pv 1) pe_int) pa_nil))))) pa_nil)) (pe_one (pe_call G_is_lot (hr.mono (by decide)) (by rfl) C_is_lot.g C_is_lot.kp C_is_lot.b .nil pass0 (pa_cons (pv 0) pa_nil)))))), ?_⟩
    refine ⟨.ref a, rfl, .ref a, .ty "tuple", .type "tuple", .type "tuple", true, rfl, .ty "tuple", tyT hA, kit_ty (by decide +kernel), true, rfl, iteF ?_⟩
    refine ⟨.ref a, rfl, a, rfl, ⟨_, hA⟩, fun D nD => ?_⟩
    refine lc_pure (walk_tup (K := K) (a := a) (xs := natV l)) ((List.replicate l.length true).map V.bl) (by rw [List.length_map, List.length_replicate, natV_len]) nD (fun _ s => Same.sqT s hA) (fun i x H0 H' hi h0 y => ?_) (fun H' s' e => ?_)
    · obtain ⟨rfl, hx⟩ := y
      rw [natV_len] at hi
      have hg : l[i]? = some (l[i]'hi) := List.getElem?_eq_getElem _
      have hx' := natV_get hg
      rw [hx] at hx'
      cases hx'
      have lti := lt _ (List.getElem_mem hi)
      refine ⟨rfl, _, rfl, _, rfl, _, _, rfl, rfl, _, _, rfl, ?_⟩
      have y1 : (decide ((0 : Int) ≤ ((l[i]'hi : Nat) : Int)) && decide (((l[i]'hi : Nat) : Int) ≤ (n : Int) - 1)) = true := by
        rw [decide_eq_true (by omega), decide_eq_true (by omega)]
        rfl
      rw [y1]
      refine h0.put nD (fun _ _ h => h) ?_ (by rw [List.length_map, List.length_replicate]; omega)
      rw [List.getElem?_map, List.getElem?_replicate, if_pos hi]
      rfl
    · refine ⟨D, _, rfl, sqL_new e, ?_⟩
      rw [all_trueL]
      refine ⟨_, rfl, iteYes rfl ?_⟩
      exact ⟨.ref a, rfl, a, l, rfl, Same.sqT s' hA, hz, asc, fun H2 s2 => q H2 (s'.trans s2)⟩
def spAreSteps (K : PySem.W.Frag) : Sp := fun vs H Q _ => ∃ (a : Addr) (n : Nat) (l : List (Addr × Stp)), vs = [.ref a, .int (n : Int)] ∧ SqT K H a (l.map fun p => V.ref p.1) ∧ (∀ p ∈ l, H p.1 = some (.tup (stpV p.2))) ∧ l.length ≤ 10000 ∧ (l.map (·.2)).Nodup ∧ (∀ p ∈ l, StpOk n p.2) ∧ ∀ H', Same H H' → Q (.bl true) H'
abbrev nAt : List Str := ["steps", "stages", "step"]
theorem scAt : FnScope nAt ["steps", "stages"] (defScope sAreSteps) := ⟨rfl, rfl, rfl, by decide +kernel, rfl, by decide +kernel, by decide +kernel⟩
theorem ok_aresteps {f fT : Addr} {fd fdT : FuncData} (F : Fun K "are_steps" "are_steps" sAreSteps f fd) (N : Nones mg) (G_is_step : FnOk P w K mg base CX0 4 fT fdT ["value", "stages"] spIsStep) (C_is_step : CallC K mg "is_step" ["value", "stages"] fT fdT) : FnOk P w K mg base CX0 5 f fd ["steps", "stages"] (spAreSteps K) := by
  refine F.ok scAt (fun vs H Q E h => ?_) (fun cdv A outer s H vs Q E hr h => ?_)
  · obtain ⟨a, n, t, rfl, _⟩ := h
    rfl
  · obtain ⟨a, n, l, rfl, hA, hP, hz, nd, ok, q⟩ := h
    refine ⟨_, pss_cons (ps_if (PW.pt (pw_or (pt_not (pt_val (pe_callB call_isi (by rfl) N.isinstance (by decide +kernel) (pa_cons (pv 0) (pa_cons (pe_bltn (v := .ty "tuple") (by rfl) N.tuple (by decide +kernel) rfl) pa_nil))))) (pw_or1 (pt_not (pt_val (pe_callB (cr_all rfl) (by rfl) N.all (by decide +kernel) (pa_cons (pe_lc (own := [("step", 2)]) (g := gName 2) (tt := tYes) rfl scAt.nd (pi_tup (pv 0)) (blkOk_by (own := [("step", 2)]) (N := nAt) (sc := defScope sAreSteps) (by decide +kernel)) (fun _ _ _ _ _ => (pg_name (i := 2) scAt.nd rfl (Or.inl rfl))) (fun _ _ _ _ _ => pts_nil) (fun _ _ _ _ _ => (pe_call G_is_step (hr.mono (by decide)) (by rfl) C_is_step.g C_is_step.kp C_is_step.b .nil pass0 (pa_cons (pv 2) (pa_cons (pv 1) pa_nil))))) pa_nil))))))) (pss_one (ps_ret pe_bl)) pss_nil)
      (pss_one (ps_ret (pe_cmpR op_eq (pe_callB call_len_dT (by rfl) N.len PySem.boot_len (pa_cons (Ka.pe_dcT (own := [("step", 2)]) (g := gName 2) rfl (hu_of hr) scAt.nd (pi_tup (pv 0)) (blkOk_by (own := [("step", 2)]) (N := nAt) (sc := defScope sAreSteps) (by decide +kernel)) (fun _ _ _ _ _ => (pg_name (i := 2) scAt.nd rfl (Or.inl rfl))) (fun _ _ _ _ _ => (pv 2)) (fun _ _ _ _ _ => pe_bl)) pa_nil)) (pe_callB call_len_seq (by rfl) N.len PySem.boot_len (pa_cons (pv 0) pa_nil)) (nomark _)))), ?_⟩
    refine ⟨.ref a, rfl, .ref a, .ty "tuple", .type "tuple", .type "tuple", true, rfl, .ty "tuple", tyT hA, kit_ty (by decide +kernel), true, rfl, iteF ?_⟩
    refine ⟨.ref a, rfl, a, rfl, ⟨_, hA⟩, fun D nD => ?_⟩
    refine lc_pure (walk_tup (K := K) (a := a) (xs := l.map fun p => V.ref p.1)) ((List.replicate l.length true).map V.bl) (by rw [List.length_map, List.length_replicate, List.length_map]) nD (fun _ s => Same.sqT s hA) (fun i x H0 H' hi h0 y => ?_) (fun H' s' e => ?_)
    · obtain ⟨rfl, hx⟩ := y
      rw [List.length_map] at hi
      obtain ⟨p, hp, rfl⟩ := get_map hx
      have mp := List.mem_of_getElem? hp
      refine ⟨rfl, _, rfl, _, rfl, p.1, n, p.2, rfl, h0.1 _ _ (hP p mp), ok p mp, fun H2 s2 => ?_⟩
      refine h0.put nD s2 ?_ (by rw [List.length_map, List.length_replicate]; omega)
      rw [List.getElem?_map, List.getElem?_replicate, if_pos hi]
      rfl
    · refine ⟨D, _, rfl, sqL_new e, ?_⟩
      rw [all_trueL]
      refine ⟨true, rfl, iteF ?_⟩
      refine ⟨.ref a, rfl, a, rfl, ⟨_, Same.sqT s' hA⟩, fun D2 nD2 => ?_⟩
      refine dcT_it (walk_tup (K := K) (a := a) (xs := l.map fun p => V.ref p.1)) (fun i H2 => Same H' H2 ∧ H2 D2 = some (.dT ((l.take i).map fun p => (stpK p.2, V.bl true)))) ⟨same_new nD2, upd_same⟩ (fun _ _ _ h => Same.sqT h.1 (Same.sqT s' hA)) (fun i x H0 H2 hi h0 y => ?_) (fun H2 h => ?_)
      · obtain ⟨rfl, hx⟩ := y
        rw [List.length_map] at hi
        obtain ⟨p, hp, rfl⟩ := get_map hx
        have mp := List.mem_of_getElem? hp
        refine ⟨rfl, _, rfl, _, stpK p.2, p.1, rfl, h0.1 _ _ (s' _ _ (hP p mp)), h0.2, ?_, fun c o e => ?_, ?_⟩
        · rw [List.length_map, List.length_take]
          exact small (by omega)
        · rw [upd_ne (ne_of_none e nD2)]
          exact h0.1 _ _ e
        · rw [upd_same, putK_new, take_of_get hp, List.map_append, List.map_singleton]
          rw [List.map_map]
          intro hm
          obtain ⟨p2, hp2, e2⟩ := List.mem_map.mp hm
          have e2 : p2.2 = p.2 := stpK_inj e2
          obtain ⟨j, hj⟩ := List.getElem?_of_mem hp2
          rw [List.getElem?_take] at hj
          split at hj
          · rename_i hlt
            have g1 : (l.map (·.2))[j]? = some p.2 := by rw [List.getElem?_map, hj, ← e2]; rfl
            have g2 : (l.map (·.2))[i]? = some p.2 := by rw [List.getElem?_map, hp]; rfl
            have := (List.getElem?_inj (by rw [List.length_map]; omega) nd).mp (g1.trans g2.symm)
            omega
          · cases hj
      · obtain ⟨s2, e2⟩ := h
        rw [List.length_map, List.take_of_length_le (Nat.le_refl _)] at e2
        refine ⟨D2, _, rfl, e2, .ref a, rfl, a, _, rfl, .inr (Same.sqT s2 (Same.sqT s' hA)), rfl, ?_⟩
        have e3 : decide (V.int (((l.map fun p => (stpK p.2, V.bl true)).length : Nat) : Int) = V.int (((l.map fun p => V.ref p.1).length : Nat) : Int)) = true := decide_eq_true (by rw [List.length_map, List.length_map])
        dsimp only
        rw [e3]
        exact q _ (s'.trans s2)
def spIsCourse (K : PySem.W.Frag) : Sp := fun vs H Q _ => ∃ (c : CA), vs = [.ref c.a] ∧ CrsAt K H c ∧ CrsOk c ∧ ∀ H', Same H H' → Q (.bl true) H'
abbrev nIc : List Str := ["value", "name", "stages", "ends", "steps"]
theorem scIc : FnScope nIc ["value"] (defScope sIsCourse) := ⟨rfl, rfl, rfl, by decide +kernel, rfl, by decide +kernel, by decide +kernel⟩
theorem ok_iscourse {f fT fN fE fS : Addr} {fd fdT fdN fdE fdS : FuncData} (F : Fun K "is_course" "is_course" sIsCourse f fd) (N : Nones mg) {tag : Nat} (g_MOST_STAGES : mg "MOST_STAGES" = some (.int 20 tag)) (G_is_number_to : FnOk P w K mg base CX0 3 fT fdT ["value", "most"] spIsNumTo) (C_is_number_to : CallC K mg "is_number_to" ["value", "most"] fT fdT) (G_is_name : FnOk P w K mg base CX0 2 fN fdN ["value"] (spName K)) (C_is_name : CallC K mg "is_name" ["value"] fN fdN)
    (G_are_ends : FnOk P w K mg base CX0 4 fE fdE ["ends", "stages"] (spAreEnds K)) (C_are_ends : CallC K mg "are_ends" ["ends", "stages"] fE fdE) (G_are_steps : FnOk P w K mg base CX0 5 fS fdS ["steps", "stages"] (spAreSteps K)) (C_are_steps : CallC K mg "are_steps" ["steps", "stages"] fS fdS) : FnOk P w K mg base CX0 6 f fd ["value"] (spIsCourse K) := by
  refine F.ok scIc (fun vs H Q E h => ?_) (fun cdv A outer s H vs Q E hr h => ?_)
  · obtain ⟨c, rfl, _⟩ := h
    rfl
  · obtain ⟨c, rfl, hc, ok, q⟩ := h
    refine ⟨_, pss_cons (ps_if (PW.pt (pw_or (pt_not (pt_val (pe_callB call_isi (by rfl) N.isinstance (by decide +kernel) (pa_cons (pv 0) (pa_cons (pe_bltn (v := .ty "tuple") (by rfl) N.tuple (by decide +kernel) rfl) pa_nil))))) (pw_or1 (pt_cmpR op_ne (pe_callB call_len_seq (by rfl) N.len PySem.boot_len (pa_cons (pv 0) pa_nil)) pe_int (nomark _))))) (pss_one (ps_ret pe_bl)) pss_nil)
      (pss_cons (ps_asg (pv 0) (pg_tup rfl (pgs_cons (pg_name (i := 1) scIc.nd rfl (Or.inl rfl)) (pgs_cons (pg_name (i := 2) scIc.nd rfl (Or.inl rfl)) (pgs_cons (pg_name (i := 3) scIc.nd rfl (Or.inl rfl)) (pgs_cons (pg_name (i := 4) scIc.nd rfl (Or.inl rfl)) pgs_nil))))))
      (pss_cons (ps_if (PW.pt (pw_or (pt_not (pt_val (pe_call G_is_name (hr.mono (by decide)) (by rfl) C_is_name.g C_is_name.kp C_is_name.b .nil pass0 (pa_cons (pv 1) pa_nil)))) (pw_or (pt_not (pt_val (pe_call G_is_number_to (hr.mono (by decide)) (by rfl) C_is_number_to.g C_is_number_to.kp C_is_number_to.b .nil pass0 (pa_cons (pv 2) (pa_cons (pe_glob (v := .int 20) rfl g_MOST_STAGES ⟨_, rfl⟩) pa_nil))))) (pw_or1 (pt_cmpR op_eq (pv 2) pe_int (nomark _)))))) (pss_one (ps_ret pe_bl)) pss_nil)
      (pss_one (ps_ret (pe_and (pe_call G_are_ends (hr.mono (by decide)) (by rfl) C_are_ends.g C_are_ends.kp C_are_ends.b .nil pass0 (pa_cons (pv 3) (pa_cons (pv 2) pa_nil))) (pe_one (pe_call G_are_steps (hr.mono (by decide)) (by rfl) C_are_steps.g C_are_steps.kp C_are_steps.b .nil pass0 (pa_cons (pv 4) (pa_cons (pv 2) pa_nil))))))))), ?_⟩
    have hA := hc.t
    refine ⟨_, rfl, .ref c.a, .ty "tuple", .type "tuple", .type "tuple", true, rfl, .ty "tuple", tyT hA, kit_ty (by decide +kernel), true, rfl, iteF ?_⟩
    refine ⟨_, rfl, c.a, _, rfl, .inr hA, rfl, _, rfl, iteNo (by simp [crsV]) ?_⟩
    refine ⟨_, rfl, c.a, _, rfl, hA, rfl, _, _, rfl, _, _, rfl, _, _, rfl, _, _, rfl, rfl, ?_⟩
    have y1 : (decide ((0 : Int) ≤ (c.n : Int)) && decide ((c.n : Int) ≤ 20)) = true := by
      have := ok.n1
      rw [decide_eq_true (by omega), decide_eq_true (by omega)]
      rfl
    refine ⟨_, rfl, _, rfl, .inr ⟨_, rfl, name_len ok.nm, fun H1 s1 => ?_⟩⟩
    rw [ok.nm]
    refine ⟨true, rfl, iteF ?_⟩
    refine ⟨_, rfl, _, _, rfl, ?_⟩
    rw [y1]
    refine ⟨true, rfl, iteF ?_⟩
    have n0 := ok.n0
    refine ⟨_, rfl, rfl, _, rfl, iteNo (decide_eq_false fun h => by injection h with h; omega) ?_⟩
    refine ⟨_, rfl, _, rfl, c.ea, c.n, c.es, rfl, Same.sqT s1 hc.e, ok.ez, ok.asc, ok.el, fun H2 s2 => ?_⟩
    refine ⟨_, rfl, iteYes rfl ?_⟩
    exact ⟨_, rfl, _, rfl, c.sa, c.n, c.ss, rfl, Same.sqT (s1.trans s2) hc.s, fun p hp => (s1.trans s2) _ _ (hc.p p hp), ok.sz, ok.nd, ok.sl, fun H3 s3 => q H3 ((s1.trans s2).trans s3)⟩
end
end Kb
namespace Kb
open PySem PySem.Spec PyProof.Rows L2
/-! ### the deeds of courses -/
def addD (l : List Str) (d : Str) : List Str := if d ∈ l then l else l ++ [d]
/-- each text once, where it stands first -/
def uniq (l : List Str) : List Str := l.foldl addD []
theorem uniq_snoc (l : List Str) (d : Str) : uniq (l ++ [d]) = addD (uniq l) d := by
  unfold uniq
  rw [List.foldl_append]
  rfl
theorem uniq_ind {C : List Str → List Str → Prop} (h0 : C [] []) (h1 : ∀ l d, C l (uniq l) → C (l ++ [d]) (addD (uniq l) d)) : ∀ l, C l (uniq l) := by
  intro l
  have : ∀ n, ∀ l : List Str, l.length = n → C l (uniq l) := by
    intro n
    induction n with
    | zero =>
      intro l h
      rw [List.eq_nil_of_length_eq_zero h]
      exact h0
    | succ n ih =>
      intro l h
      have hne : l ≠ [] := by
        intro z
        rw [z] at h
        cases h
      have e := List.dropLast_concat_getLast hne
      rw [← e, uniq_snoc]
      exact h1 _ _ (ih _ (by rw [List.length_dropLast, h]; rfl))
  exact this _ l rfl
theorem mem_uniq (l : List Str) (x : Str) : x ∈ uniq l ↔ x ∈ l := by
  refine uniq_ind (C := fun l u => x ∈ u ↔ x ∈ l) (Iff.rfl) (fun l d h => ?_) l
  unfold addD
  by_cases hd : d ∈ uniq l
  · rw [if_pos hd, h, List.mem_append, List.mem_singleton]
    refine ⟨.inl, fun z => z.elim id fun z => ?_⟩
    rw [z] at h ⊢
    exact h.mp hd
  · rw [if_neg hd, List.mem_append, List.mem_append, h]
theorem uniq_nd (l : List Str) : (uniq l).Nodup := by
  refine uniq_ind (C := fun l u => u.Nodup) List.nodup_nil (fun l d h => ?_) l
  unfold addD
  by_cases hd : d ∈ uniq l
  · rw [if_pos hd]
    exact h
  · rw [if_neg hd, List.nodup_append]
    exact ⟨h, by simp, fun a ha b hb e => hd (by rw [← List.mem_singleton.mp hb, ← e]; exact ha)⟩
theorem uniq_len (l : List Str) : (uniq l).length ≤ l.length := by
  refine uniq_ind (C := fun l u => u.length ≤ l.length) (Nat.le_refl _) (fun l d h => ?_) l
  unfold addD
  rw [List.length_append]
  split
  · exact Nat.le_trans h (Nat.le_add_right _ _)
  · rw [List.length_append]
    exact Nat.add_le_add_right h _
def deedKV (l : List Str) : List (L2.Key × V) := l.map fun d => (Sum.inr d, V.bl true)
theorem deedKV_keys (l : List Str) : (deedKV l).map (·.1) = l.map Sum.inr := by
  unfold deedKV
  rw [List.map_map]
  rfl
theorem deedKV_len (l : List Str) : (deedKV l).length = l.length := List.length_map _
theorem put_deed (l : List Str) (d : Str) : putK (deedKV l) (Sum.inr d : L2.Key) (V.bl true) = deedKV (addD l d) := by
  unfold addD
  by_cases h : d ∈ l
  · rw [if_pos h]
    unfold putK
    have hany : ((deedKV l).any fun q => decide (q.1 = (Sum.inr d : L2.Key))) = true := by
      rw [List.any_eq_true]
      exact ⟨(Sum.inr d, V.bl true), List.mem_map.mpr ⟨d, h, rfl⟩, decide_eq_true rfl⟩
    rw [if_pos hany]
    have : ∀ q ∈ deedKV l, (if q.1 = (Sum.inr d : L2.Key) then ((q.1, V.bl true) : L2.Key × V) else q) = q := by
      intro q hq
      obtain ⟨x, hx, rfl⟩ := List.mem_map.mp hq
      split <;> rfl
    exact (List.map_congr_left this).trans (List.map_id _)
  · rw [if_neg h, putK_new, deedKV, deedKV, List.map_append]
    · rfl
    · rw [deedKV_keys]
      intro z
      obtain ⟨y, hy, e⟩ := List.mem_map.mp z
      exact h (by rw [← Sum.inr.inj e]; exact hy)
/-- the deeds of some steps, in their order -/
def dn (ss : List (Addr × Stp)) : List Str := (ss.filter fun p => !p.2.call).map (·.2.nm)
def dns (cs : List CA) : List Str := cs.flatMap fun c => dn c.ss
theorem dn_snoc {ss : List (Addr × Stp)} {i : Nat} {p : Addr × Stp} (h : ss[i]? = some p) : dn (ss.take (i + 1)) = dn (ss.take i) ++ (if p.2.call = true then [] else [p.2.nm]) := by
  unfold dn
  rw [take_of_get h, List.filter_append, List.map_append]
  cases e : p.2.call
  · simp [e]
  · simp [e]
theorem dns_snoc {cs : List CA} {i : Nat} {c : CA} (h : cs[i]? = some c) : dns (cs.take (i + 1)) = dns (cs.take i) ++ dn c.ss := by
  unfold dns
  rw [take_of_get h, List.flatMap_append]
  simp
theorem dn_len (ss : List (Addr × Stp)) : (dn ss).length ≤ ss.length := by
  unfold dn
  rw [List.length_map]
  exact List.length_filter_le _ _
theorem dns_le {cs : List CA} {i j : Nat} {c : CA} (h : cs[i]? = some c) : (dns (cs.take i) ++ dn (c.ss.take j)).length ≤ (dns cs).length := by
  have e : cs = cs.take i ++ c :: cs.drop (i + 1) := by
    conv => lhs; rw [← List.take_append_drop i cs, drop_of_get h]
  have e2 : dns cs = dns (cs.take i) ++ (dn c.ss ++ dns (cs.drop (i + 1))) := by
    conv => lhs; rw [e]
    unfold dns
    rw [List.flatMap_append, List.flatMap_cons]
  rw [e2, List.length_append, List.length_append, List.length_append]
  have : (dn (c.ss.take j)).length ≤ (dn c.ss).length := by
    unfold dn
    rw [List.length_map, List.length_map]
    exact (List.Sublist.filter _ (List.take_sublist j c.ss)).length_le
  omega
def CsAt (K : PySem.W.Frag) (H : Hp) (a : Addr) (cs : List CA) : Prop := SqT K H a (cs.map fun c => V.ref c.a) ∧ ∀ c ∈ cs, CrsAt K H c
theorem CsAt.mono {K : PySem.W.Frag} {H H' : Hp} {a : Addr} {cs : List CA} (s : Same H H') (h : CsAt K H a cs) : CsAt K H' a cs := ⟨Same.sqT s h.1, fun c hc => (h.2 c hc).mono s⟩
section
variable {P : Program} {w : World} {K : PySem.W.Frag} {mg : Str → Option Value} {base : Heap}
def spDeedsIn (K : PySem.W.Frag) : Sp := fun vs H Q _ => ∃ (a : Addr) (cs : List CA), vs = [.ref a] ∧ CsAt K H a cs ∧ (dns cs).length ≤ 100000 ∧ ∀ H' D, Same H H' → H D = none → H' D = some (.dK (deedKV (uniq (dns cs)))) → Q (.ref D) H'
abbrev nDi : List Str := ["courses", "course", "step"]
theorem scDi : FnScope nDi ["courses"] (defScope sDeedsIn) := ⟨rfl, rfl, rfl, by decide +kernel, rfl, by decide +kernel, by decide +kernel⟩
theorem ok_deedsin {f : Addr} {fd : FuncData} (F : Fun K "deeds_in" "deeds_in" sDeedsIn f fd) : FnOk P w K mg base CX0 1 f fd ["courses"] (spDeedsIn K) := by
  refine F.ok scDi (fun vs H Q E h => ?_) (fun cdv A outer s H vs Q E hr h => ?_)
  · obtain ⟨a, cs, rfl, _⟩ := h
    rfl
  · obtain ⟨a, cs, rfl, hC, hz, q⟩ := h
    refine ⟨_, pss_one (ps_ret (Ka.pe_dc2 (own := [("course", 1), ("step", 2)]) (vs1 := [2]) (g := gName 1) (g1 := gName 2) (tt := tYes) Ka.storeK rfl scDi.nd (pi_tup (pv 0)) (blkOk_by (own := [("course", 1), ("step", 2)]) (N := nDi) (sc := defScope sDeedsIn) (by decide +kernel)) (by decide) (fun _ _ _ _ _ => (pg_name (i := 1) scDi.nd rfl (Or.inl rfl))) (fun _ _ _ _ _ => pts_nil) (fun _ _ _ _ _ => (piT_at (K := K) rfl (pe_ix (ixT_at (K := K) rfl) (pv 1) pe_int (fun _ _ => rfl)))) (fun _ _ _ _ _ => (pg_name (i := 2) scDi.nd rfl (Or.inl rfl))) (fun _ _ _ _ _ => pts_one (pt_cmpR op_eq (pe_ix (ixT_at (K := K) rfl) (pv 2) pe_int (fun _ _ => rfl)) pe_str (nomark _))) (fun _ _ _ _ _ => (pe_ix (ixT_at (K := K) rfl) (pv 2) pe_int (fun _ _ => rfl))) (fun _ _ _ _ _ => pe_bl))), ?_⟩
    refine ⟨.ref a, rfl, a, rfl, ⟨_, hC.1⟩, fun D nD => ?_⟩
    refine out_it (walk_tup (K := K) (a := a) (xs := cs.map fun c => V.ref c.a)) (fun i G => Same H G ∧ G D = some (.dK (deedKV (uniq (dns (cs.take i)))))) ⟨same_new nD, upd_same⟩ (fun _ _ _ h => Same.sqT h.1 hC.1) (fun i x G G' hi h y => ?_) (fun G h => ?_)
    · obtain ⟨rfl, hx⟩ := y
      obtain ⟨c, hc, rfl⟩ := get_map hx
      have mc := hC.2 c (List.mem_of_getElem? hc)
      obtain ⟨sG, eG⟩ := h
      have mcG := mc.mono sG
      refine ⟨rfl, ⟨_, rfl, c.a, _, _, .ref c.sa, rfl, rfl, mcG.t, rfl, c.sa, rfl, ⟨_, mcG.s⟩, ?_⟩⟩
      refine in_it (walk_tup (K := K) (a := c.sa) (xs := c.ss.map fun p => V.ref p.1)) (fun j G2 => Same H G2 ∧ G2 D = some (.dK (deedKV (uniq (dns (cs.take i) ++ dn (c.ss.take j)))))) ⟨sG, by rw [eG]; simp [dn]⟩ (fun _ _ _ h => Same.sqT h.1 mc.s) (fun j x G2 G3 hj h2 y => ?_) (fun G2 h2 => ?_)
      · obtain ⟨rfl, hx⟩ := y
        obtain ⟨p, hp, rfl⟩ := get_map hx
        obtain ⟨s2, e2⟩ := h2
        have hpt := s2 _ _ (mc.p p (List.mem_of_getElem? hp))
        have hle := Nat.le_trans (uniq_len _) (dns_le (j := j) hc)
        refine ⟨rfl, _, rfl, p.1, _, _, .str (kindS p.2.call), rfl, rfl, sqT_new hpt, rfl, rfl, _, rfl, ?_⟩
        cases ec : p.2.call with
        | true =>
          refine iteNo (by show decide (V.str (kindS true) = V.str "do") = false; decide +kernel) ?_
          refine ⟨s2, ?_⟩
          rw [e2, dn_snoc hp, ec, if_pos rfl, List.append_nil]
        | false =>
          refine iteYes (by show decide (V.str (kindS false) = V.str "do") = true; decide +kernel) ?_
          refine ⟨_, rfl, p.1, _, _, .str p.2.nm, rfl, rfl, sqT_new hpt, rfl, _, Sum.inr p.2.nm, rfl, e2, ?_, fun b o e => ?_, ?_⟩
          · rw [deedKV_len]
            exact small (by omega)
          · rw [upd_ne (ne_of_none e nD)]
            exact s2 _ _ e
          · rw [upd_same, put_deed, ← uniq_snoc, dn_snoc hp, ec, if_neg Bool.false_ne_true, List.append_assoc]
      · refine ⟨h2.1, ?_⟩
        rw [h2.2, dns_snoc hc, List.length_map, List.take_of_length_le (Nat.le_refl _)]
    · obtain ⟨sG, eG⟩ := h
      rw [List.length_map, List.take_of_length_le (Nat.le_refl _)] at eG
      exact q G D sG nD eG
end
end Kb
namespace Kb
open PySem PySem.Spec PyProof.Rows L2
/-! ### check_each, check_together: of good courses -/
theorem deed_no {l : List Str} {d : Str} (h : d ∉ l) : valV (deedKV l) (Sum.inr d : L2.Key) = none := valV_none (by
  rw [deedKV_keys]
  intro z
  obtain ⟨y, hy, e⟩ := List.mem_map.mp z
  exact h (by rw [← Sum.inr.inj e]; exact hy))
theorem deed_yes {l : List Str} {d : Str} (h : d ∈ l) : (valV (deedKV l) (Sum.inr d : L2.Key)).isSome = true := by
  rw [← valV_any, List.any_eq_true]
  exact ⟨(Sum.inr d, V.bl true), List.mem_map.mpr ⟨d, h, rfl⟩, decide_eq_true rfl⟩
theorem nodup_le : ∀ {l m : List Str}, l.Nodup → (∀ x ∈ l, x ∈ m) → l.length ≤ m.length
  | [], _, _, _ => Nat.zero_le _
  | x :: l, m, nd, h => by
    rw [List.nodup_cons] at nd
    have hx := h x List.mem_cons_self
    have := nodup_le (l := l) (m := m.erase x) nd.2 fun y hy => (List.mem_erase_of_ne fun e => nd.1 (by rw [← e]; exact hy)).mpr (h y (List.mem_cons_of_mem _ hy))
    rw [List.length_erase_of_mem hx] at this
    have := List.length_pos_of_mem hx
    rw [List.length_cons]
    omega
theorem merge_deeds : ∀ (m l : List Str), l.Nodup → ∃ r, mergeK (deedKV l) (deedKV m) = deedKV r ∧ r.Nodup ∧ ∀ x ∈ r, x ∈ l ∨ x ∈ m
  | [], l, nd => ⟨l, rfl, nd, fun x hx => .inl hx⟩
  | d :: m, l, nd => by
    have e : mergeK (deedKV l) (deedKV (d :: m)) = mergeK (deedKV (addD l d)) (deedKV m) := by
      show mergeK (putK (deedKV l) (Sum.inr d) (V.bl true)) (deedKV m) = _
      rw [put_deed]
    have nd2 : (addD l d).Nodup := by
      unfold addD
      by_cases hd : d ∈ l
      · rw [if_pos hd]
        exact nd
      · rw [if_neg hd, List.nodup_append]
        exact ⟨nd, by simp, fun a ha b hb e => hd (by rw [← List.mem_singleton.mp hb, ← e]; exact ha)⟩
    obtain ⟨r, h1, h2, h3⟩ := merge_deeds m (addD l d) nd2
    refine ⟨r, e.trans h1, h2, fun x hx => ?_⟩
    rcases h3 x hx with z | z
    · unfold addD at z
      split at z
      · exact .inl z
      · rcases List.mem_append.mp z with z | z
        · exact .inl z
        · exact .inr (by rw [List.mem_singleton.mp z]; exact List.mem_cons_self)
    · exact .inr (List.mem_cons_of_mem _ z)
theorem dns_one (c : CA) : dns [c] = dn c.ss := by
  unfold dns
  simp
theorem dns_mem {cs : List CA} {c : CA} (h : c ∈ cs) {x : Str} (hx : x ∈ dn c.ss) : x ∈ dns cs := List.mem_flatMap.mpr ⟨c, h, hx⟩
def calls (ss : List (Addr × Stp)) : List Str := (ss.filter fun p => p.2.call).map (·.2.nm)
def nStages (cs : List CA) : Nat := (cs.map (·.n)).foldr (· + ·) 0
theorem calls_snoc {ss : List (Addr × Stp)} {i : Nat} {p : Addr × Stp} (h : ss[i]? = some p) : calls (ss.take (i + 1)) = calls (ss.take i) ++ (if p.2.call = true then [p.2.nm] else []) := by
  unfold calls
  rw [take_of_get h, List.filter_append, List.map_append]
  cases e : p.2.call
  · simp [e]
  · simp [e]
theorem calls_len (ss : List (Addr × Stp)) : (calls ss).length ≤ ss.length := by
  unfold calls
  rw [List.length_map]
  exact List.length_filter_le _ _
theorem nStages_snoc {cs : List CA} {i : Nat} {c : CA} (h : cs[i]? = some c) : nStages (cs.take (i + 1)) = nStages (cs.take i) + c.n := by
  unfold nStages
  rw [take_of_get h, List.map_append, List.map_singleton, List.foldr_append]
  have : ∀ (l : List Nat) (x : Nat), l.foldr (· + ·) x = l.foldr (· + ·) 0 + x := by
    intro l x
    induction l with
    | nil => simp
    | cons y l ih => rw [List.foldr_cons, List.foldr_cons, ih]; omega
  rw [this]
  simp
theorem nStages_le (cs : List CA) (i : Nat) : nStages (cs.take i) ≤ nStages cs := by
  induction cs generalizing i with
  | nil => simp
  | cons c cs ih =>
    cases i with
    | zero => exact Nat.zero_le _
    | succ i =>
      have := ih i
      unfold nStages at this ⊢
      rw [List.take_succ_cons, List.map_cons, List.map_cons, List.foldr_cons, List.foldr_cons]
      omega
/-- courses of which a book is made -/
structure CsOk (cs : List CA) : Prop where
  n8 : cs.length ≤ 8
  n1 : cs ≠ []
  ok : ∀ c ∈ cs, CrsOk c
  nd : (cs.map (·.nm)).Nodup
  cl : ∀ c ∈ cs, ∀ x ∈ calls c.ss, x ∈ cs.map (·.nm)
  st : nStages cs ≤ 60
  dz : (dns cs).length ≤ 100000
  d12 : (uniq (dns cs)).length ≤ 12
section
variable {P : Program} {w : World} {K : PySem.W.Frag} {mg : Str → Option Value} {base : Heap}
def spChEach (K : PySem.W.Frag) : Sp := fun vs H Q _ => ∃ (a : Addr) (cs : List CA), vs = [.ref a] ∧ CsAt K H a cs ∧ CsOk cs ∧ ∀ H', Same H H' → Q .non H'
abbrev nCe : List Str := ["courses", "earlier", "at", "course"]
theorem scCe : FnScope nCe ["courses"] (defScope sChEach) := ⟨rfl, rfl, rfl, by decide +kernel, rfl, by decide +kernel, by decide +kernel⟩
theorem ok_cheach {f fI : Addr} {fd fdI : FuncData} (F : Fun K "check_each" "check_each" sChEach f fd) (N : Nones mg) {tag : Nat} (g_MOST_COURSES : mg "MOST_COURSES" = some (.int 8 tag)) (G_is_course : FnOk P w K mg base CX0 6 fI fdI ["value"] (spIsCourse K)) (C_is_course : CallC K mg "is_course" ["value"] fI fdI) : FnOk P w K mg base CX0 7 f fd ["courses"] (spChEach K) := by
  refine F.ok scCe (fun vs H Q E h => ?_) (fun cdv A outer s H vs Q E hr h => ?_)
  · obtain ⟨a, cs, rfl, _⟩ := h
    rfl
  · obtain ⟨a, cs, rfl, hC, ok, q⟩ := h
    refine ⟨_, pss_cons (ps_set (i := 1) scCe.nd rfl (Or.inl rfl) pe_dnewK)
      (pss_cons (ps_for PassesOwn.never rfl (Ka.pi_enumT (by rfl) N.enumerate (pa_cons (pv 0) pa_nil)) (pg_tup rfl (pgs_cons (pg_name (i := 2) scCe.nd rfl (Or.inl rfl)) (pgs_cons (pg_name (i := 3) scCe.nd rfl (Or.inl rfl)) pgs_nil)))
        (pss_cons (ps_if (PW.pt (pw_or (pt_cmpR op_ge (pv 2) (pe_glob (v := .int 8) rfl g_MOST_COURSES ⟨_, rfl⟩) (nomark _)) (pw_or (pt_not (pt_val (pe_call G_is_course (hr.mono (by decide)) (by rfl) C_is_course.g C_is_course.kp C_is_course.b .nil pass0 (pa_cons (pv 3) pa_nil)))) (pw_or1 (pt_cmp (pc_din (hu_of hr) (pe_ix ix_tup (pv 3) pe_int (fun _ _ => rfl)) (pv 1))))))) (pss_one ps_never) pss_nil)
        (pss_one (ps_dput (hu_of hr) (pv 1) (pe_ix ix_tup (pv 3) pe_int (fun _ _ => rfl)) pe_bl rfl))))
      (pss_one (ps_if (pt_not (pt_truth (pv 0) (by intro _; rfl))) (pss_one ps_never) pss_nil))), ?_⟩
    intro d nd
    refine ⟨.ref a, rfl, a, _, rfl, Same.sqT (same_new nd) hC.1, ?_⟩
    refine for_it (walk_enumT (K := K) (a := a) (xs := cs.map fun c => V.ref c.a)) (fun i σ G => ∃ x2 x3 : Option V, σ = [some (.ref a), some (.ref d), x2, x3] ∧ Same H G ∧ G d = some (.dK (deedKV ((cs.take i).map (·.nm))))) ⟨none, none, rfl, same_new nd, upd_same⟩ (fun i σ G _ h => ?_) (fun i x σ G G' hi h y => ?_) (fun σ G h => ?_)
    · obtain ⟨_, _, _, sG, _⟩ := h
      exact Same.sqT sG hC.1
    · obtain ⟨T, z, v, rfl, nT, rfl, hz, hv⟩ := y
      obtain ⟨x2, x3, rfl, sG, eG⟩ := h
      cases hz
      obtain ⟨c, hc, rfl⟩ := get_map hv
      have mc := List.mem_of_getElem? hc
      have hi := lt_of_get hc
      have s1 := sG.trans (same_new (o := .tup [V.int (i : Nat), V.ref c.a]) nT)
      have e1 := (same_new (o := .tup [V.int (i : Nat), V.ref c.a]) nT) _ _ eG
      have n8 := ok.n8
      refine ⟨T, _, rfl, sqT_new upd_same, rfl, _, _, rfl, _, _, rfl, rfl, ?_⟩
      refine ⟨_, rfl, _, _, rfl, rfl, _, rfl, iteNo (decide_eq_false (by rw [List.length_map] at *; omega)) ?_⟩
      refine ⟨_, rfl, c, rfl, (hC.2 c mc).mono s1, ok.ok c mc, fun G2 s2 => ?_⟩
      refine ⟨true, rfl, iteF ?_⟩
      have hCc := (hC.2 c mc).mono (s1.trans s2)
      refine ⟨_, rfl, c.a, _, _, .str c.nm, rfl, rfl, hCc.t, rfl, _, rfl, d, _, rfl, DGet.k (k := Sum.inr c.nm) (s2 _ _ e1), ?_⟩
      have nin : c.nm ∉ (cs.take i).map (·.nm) := by
        intro z
        have nd := ok.nd
        rw [← List.take_append_drop i cs, List.map_append, drop_of_get hc, List.map_cons, List.nodup_append] at nd
        exact nd.2.2 _ z _ List.mem_cons_self rfl
      refine ⟨_, rfl, ?_⟩
      refine iteNo (by show (valV (deedKV ((cs.take i).map (·.nm))) (Sum.inr c.nm : L2.Key)).isSome = false; rw [deed_no nin]; rfl) ?_
      refine ⟨_, rfl, _, rfl, c.a, _, _, .str c.nm, rfl, rfl, hCc.t, rfl, d, _, rfl, DPut.k (k := Sum.inr c.nm) (s2 _ _ e1) ?_, _, _, rfl, fun b o e => ?_, ?_⟩
      · rw [deedKV_len, List.length_map, List.length_take]
        exact small (by omega)
      · rw [upd_ne (ne_of_none e nd)]
        exact (s1.trans s2) _ _ e
      · rw [upd_same, put_deed, take_of_get hc, List.map_append, List.map_singleton]
        unfold addD
        rw [if_neg nin]
    · obtain ⟨x2, x3, rfl, sG, eG⟩ := h
      refine ⟨_, rfl, true, ?_, ?_⟩
      · refine .inr (.inl ⟨_, Same.sqT sG hC.1, ?_⟩)
        have := ok.n1
        cases cs with
        | nil => exact absurd rfl this
        | cons c cs => rfl
      · exact iteF (q G sG)
def spChTog (K : PySem.W.Frag) : Sp := fun vs H Q _ => ∃ (a : Addr) (cs : List CA), vs = [.ref a] ∧ CsAt K H a cs ∧ CsOk cs ∧ ∀ H', Same H H' → Q .non H'
abbrev nCt : List Str := ["courses", "names", "stages", "deeds", "at", "course", "called", "step", "name"]
theorem scCt : FnScope nCt ["courses"] (defScope sChTog) := ⟨rfl, rfl, rfl, by decide +kernel, rfl, by decide +kernel, by decide +kernel⟩
theorem ok_chtog {f fI : Addr} {fd fdI : FuncData} (F : Fun K "check_together" "check_together" sChTog f fd) (N : Nones mg) {t1 t2 : Nat} (g_MOST_STAGES_TOGETHER : mg "MOST_STAGES_TOGETHER" = some (.int 60 t1)) (g_MOST_DEEDS : mg "MOST_DEEDS" = some (.int 12 t2)) (G_deeds_in : FnOk P w K mg base CX0 1 fI fdI ["courses"] (spDeedsIn K)) (C_deeds_in : CallC K mg "deeds_in" ["courses"] fI fdI) : FnOk P w K mg base CX0 2 f fd ["courses"] (spChTog K) := by
  refine F.ok scCt (fun vs H Q E h => ?_) (fun cdv A outer s H vs Q E hr h => ?_)
  · obtain ⟨a, cs, rfl, _⟩ := h
    rfl
  · obtain ⟨a, cs, rfl, hC, ok, q⟩ := h
    refine ⟨_, pss_cons (ps_set (i := 1) scCt.nd rfl (Or.inr rfl) (pe_dc (own := [("course", 5)]) (g := gName 5) (tt := tYes) rfl scCt.nd (pi_tup (pv 0)) (blkOk_by (own := [("course", 5)]) (N := nCt) (sc := defScope sChTog) (by decide +kernel)) (fun _ _ _ _ _ => (pg_name (i := 5) scCt.nd rfl (Or.inl rfl))) (fun _ _ _ _ _ => pts_nil) (fun _ _ _ _ _ => (pe_ix (ixT_at (K := K) rfl) (pv 5) pe_int (fun _ _ => rfl))) (fun _ _ _ _ _ => pe_bl)))
      (pss_cons (ps_set (i := 2) scCt.nd rfl (Or.inl rfl) pe_int)
      (pss_cons (ps_set (i := 3) scCt.nd rfl (Or.inl rfl) pe_dnewK)
      (pss_one (ps_for PassesOwn.never rfl (Ka.pi_enumT (by rfl) N.enumerate (pa_cons (pv 0) pa_nil)) (pg_tup rfl (pgs_cons (pg_name (i := 4) scCt.nd rfl (Or.inl rfl)) (pgs_cons (pg_name (i := 5) scCt.nd rfl (Or.inl rfl)) pgs_nil)))
        (pss_cons (ps_aug (i := 2) scCt.nd rfl (Or.inl rfl) (pe_ix ix_tup (pv 5) pe_int (fun _ _ => rfl)) ip_add)
        (pss_cons (ps_expr (pe_bm PySem.F.plainAttrs_dict PySem.F.slot_dict_update PySem.F.type_dict_update Ka.mt_update (pv 3) (pa_cons (pe_call G_deeds_in (hr.mono (by decide)) (by rfl) C_deeds_in.g C_deeds_in.kp C_deeds_in.b .nil pass0 (pa_cons (pe_tup (pa_cons (pv 5) pa_nil)) pa_nil)) pa_nil)))
        (pss_cons (ps_setLc (i := 6) (own := [("step", 7)]) (g := gName 7) rfl scCt.nd rfl rfl (sw_true rfl rfl rfl rfl) (pi_tup (pe_ix ix_tup (pv 5) pe_int (fun _ _ => rfl))) (blkOk_by (own := [("step", 7)]) (N := nCt) (sc := defScope sChTog) (by decide +kernel)) (fun _ _ _ _ _ => (pg_name (i := 7) scCt.nd rfl (Or.inl rfl))) (fun _ _ _ _ _ => pts_one (pt_cmpR op_eq (pe_ix (ixT_at (K := K) rfl) (pv 7) pe_int (fun _ _ => rfl)) pe_str (nomark _))) (fun _ _ _ _ _ => (pe_ix (ixT_at (K := K) rfl) (pv 7) pe_int (fun _ _ => rfl))))
        (pss_cons (ps_if (pt_not (pt_val (pe_callB (cr_all rfl) (by rfl) N.all (by decide +kernel) (pa_cons (pe_lc (own := [("name", 8)]) (g := gName 8) (tt := tYes) rfl scCt.nd (pi_list (pv 6)) (blkOk_by (own := [("name", 8)]) (N := nCt) (sc := defScope sChTog) (by decide +kernel)) (fun _ _ _ _ _ => (pg_name (i := 8) scCt.nd rfl (Or.inl rfl))) (fun _ _ _ _ _ => pts_nil) (fun _ _ _ _ _ => (pe_cmp (pc_din (hu_of hr) (pv 8) (pv 1)) rfl))) pa_nil)))) (pss_one ps_never) pss_nil)
        (pss_one (ps_if (PW.pt (pw_or (pt_cmpR op_gt (pv 2) (pe_glob (v := .int 60) rfl g_MOST_STAGES_TOGETHER ⟨_, rfl⟩) (nomark _)) (pw_or1 (pt_cmpR op_gt (pe_callB call_lenD (by rfl) N.len PySem.boot_len (pa_cons (pv 3) pa_nil)) (pe_glob (v := .int 12) rfl g_MOST_DEEDS ⟨_, rfl⟩) (nomark _))))) (pss_one ps_never) pss_nil)))))))))), ?_⟩
    refine ⟨.ref a, rfl, a, rfl, ⟨_, hC.1⟩, fun ns nns => ?_⟩
    refine dcK_it (walk_tup (K := K) (a := a) (xs := cs.map fun c => V.ref c.a)) (fun i G => Same H G ∧ G ns = some (.dK (deedKV ((cs.take i).map (·.nm))))) ⟨same_new nns, upd_same⟩ (fun _ _ _ h => Same.sqT h.1 hC.1) (fun i x G G' hi h y => ?_) (fun G h => ?_)
    · obtain ⟨rfl, hx⟩ := y
      obtain ⟨c, hc, rfl⟩ := get_map hx
      obtain ⟨sG, eG⟩ := h
      have hi := lt_of_get hc
      have n8 := ok.n8
      have mc := (hC.2 c (List.mem_of_getElem? hc)).mono sG
      have nin : c.nm ∉ (cs.take i).map (·.nm) := by
        intro z
        have nd := ok.nd
        rw [← List.take_append_drop i cs, List.map_append, drop_of_get hc, List.map_cons, List.nodup_append] at nd
        exact nd.2.2 _ z _ List.mem_cons_self rfl
      refine ⟨rfl, _, rfl, c.a, _, _, .str c.nm, rfl, rfl, mc.t, rfl, _, Sum.inr c.nm, rfl, eG, ?_, fun b o e => ?_, ?_⟩
      · rw [deedKV_len, List.length_map, List.length_take]
        exact small (by omega)
      · rw [upd_ne (ne_of_none e nns)]
        exact sG _ _ e
      · rw [upd_same, put_deed, take_of_get hc, List.map_append, List.map_singleton]
        unfold addD
        rw [if_neg nin]
    · obtain ⟨sG, eG⟩ := h
      rw [List.length_map, List.take_of_length_le (Nat.le_refl _)] at eG
      intro d nd
      have sG2 := sG.trans (same_new (o := .dK []) nd)
      have e2 := (same_new (o := .dK []) nd) _ _ eG
      have hdn : d ≠ ns := fun w => by
        rw [w, eG] at nd
        cases nd
      have ed : upd G d (.dK []) d = some (.dK []) := upd_same
      have ndH := sG.free nd
      generalize upd G d (.dK []) = G1 at sG2 e2 ed
      refine ⟨.ref a, rfl, a, _, rfl, Same.sqT sG2 hC.1, ?_⟩
      refine for_it (walk_enumT (K := K) (a := a) (xs := cs.map fun c => V.ref c.a)) (fun i σ G => ∃ (x4 x5 x6 x7 x8 : Option V) (ds : List Str), σ = [some (.ref a), some (.ref ns), some (.int (nStages (cs.take i) : Nat)), some (.ref d), x4, x5, x6, x7, x8] ∧ Same H G ∧ G ns = some (.dK (deedKV (cs.map (·.nm)))) ∧ G d = some (.dK (deedKV ds)) ∧ ds.Nodup ∧ ∀ x ∈ ds, x ∈ uniq (dns cs)) ⟨none, none, none, none, none, [], rfl, sG2, e2, ed, List.nodup_nil, fun x hx => nomatch hx⟩ (fun i σ G _ h => ?_) (fun i x σ G G' hi h y => ?_) (fun σ G h => ?_)
      · obtain ⟨_, _, _, _, _, _, _, sG, _⟩ := h
        exact Same.sqT sG hC.1
      · obtain ⟨T, z, v, rfl, nT, rfl, hz, hv⟩ := y
        obtain ⟨x4, x5, x6, x7, x8, ds, rfl, sG, eN, eD, ndd, sub⟩ := h
        cases hz
        obtain ⟨c, hc, rfl⟩ := get_map hv
        have mc := List.mem_of_getElem? hc
        have okc := ok.ok c mc
        have sT := same_new (o := .tup [V.int (i : Nat), V.ref c.a]) nT
        have hT : upd G T (.tup [V.int (i : Nat), V.ref c.a]) T = some (.tup [V.int (i : Nat), V.ref c.a]) := upd_same
        have eN := sT _ _ eN
        have eD := sT _ _ eD
        have sG := sG.trans sT
        generalize upd G T (.tup [V.int (i : Nat), V.ref c.a]) = G1 at sG hT eN eD
        refine ⟨T, _, rfl, sqT_new hT, rfl, _, _, rfl, _, _, rfl, rfl, ?_⟩
        have hCc := (hC.2 c mc).mono sG
        refine ⟨_, rfl, _, rfl, c.a, _, _, .int (c.n : Nat), rfl, rfl, hCc.t, rfl, _, _, rfl, rfl, ?_⟩
        refine ⟨_, rfl, .inr (.inr (.inl ⟨rfl, .inl ⟨_, eD⟩⟩)), _, rfl, smallE (by show 1 ≤ 1000000; decide), fun U nU => ?_⟩
        have sU := same_new (o := .tup [V.ref c.a]) nU
        have hU : upd G1 U (.tup [V.ref c.a]) U = some (.tup ([c].map fun c => V.ref c.a)) := upd_same
        have eN := sU _ _ eN
        have eD := sU _ _ eD
        have sG := sG.trans sU
        generalize upd G1 U (.tup [V.ref c.a]) = G2 at sG hU eN eD
        refine ⟨U, [c], rfl, ⟨sqT_new hU, fun c2 h2 => ?_⟩, ?_, fun G3 W s3 nW eW => ?_⟩
        · rw [List.mem_singleton.mp h2]
          exact (hC.2 c mc).mono sG
        · rw [dns_one]
          have := dn_len c.ss
          have := okc.sz
          omega
        have dW : d ≠ W := ne_of_none eD nW
        have eN := s3 _ _ eN
        have eD := s3 _ _ eD
        have sG := sG.trans s3
        rw [dns_one] at eW
        obtain ⟨r, em, ndr, hr2⟩ := merge_deeds (uniq (dn c.ss)) ds ndd
        have subR : ∀ x ∈ r, x ∈ uniq (dns cs) := fun x hx => (hr2 x hx).elim (sub x) fun z => (mem_uniq _ _).mpr (dns_mem mc ((mem_uniq _ _).mp z))
        have l12 := ok.d12
        have lr := nodup_le ndr subR
        have lds := nodup_le ndd sub
        have lun := uniq_len (dn c.ss)
        have ldn := dn_len c.ss
        have osz := okc.sz
        refine ⟨d, W, _, _, rfl, rfl, eD, eW, dW, by rw [deedKV_len, deedKV_len]; omega, ?_⟩
        rw [em]
        have kG : ∀ b o, H b = some o → upd G3 d (.dK (deedKV r)) b = some o := fun b o e => by
          rw [upd_ne (ne_of_none e ndH)]
          exact sG _ _ e
        have eN : upd G3 d (.dK (deedKV r)) ns = some (.dK (deedKV (cs.map (·.nm)))) := by
          rw [upd_ne hdn.symm]
          exact eN
        have eD : upd G3 d (.dK (deedKV r)) d = some (.dK (deedKV r)) := upd_same
        generalize upd G3 d (.dK (deedKV r)) = G4 at kG eN eD
        have kG : Same H G4 := kG
        have hCc := (hC.2 c mc).mono kG
        refine ⟨_, rfl, c.a, _, _, .ref c.sa, rfl, rfl, hCc.t, rfl, c.sa, rfl, ⟨_, hCc.s⟩, fun L nL => ?_⟩
        refine lc_it (walk_tup (K := K) (a := c.sa) (xs := c.ss.map fun p => V.ref p.1)) (fun j Z => Same G4 Z ∧ Z L = some (.lst ((calls (c.ss.take j)).map V.str))) ⟨same_new nL, upd_same⟩ (fun _ _ _ h => Same.sqT h.1 hCc.s) (fun j x Z Z' hj h y => ?_) (fun Z h => ?_)
        · obtain ⟨rfl, hx⟩ := y
          obtain ⟨p, hp, rfl⟩ := get_map hx
          obtain ⟨sZ, eZ⟩ := h
          have hpt := sZ _ _ (hCc.p p (List.mem_of_getElem? hp))
          refine ⟨rfl, _, rfl, p.1, _, _, .str (kindS p.2.call), rfl, rfl, sqT_new hpt, rfl, rfl, _, rfl, ?_⟩
          cases ec : p.2.call with
          | false =>
            refine iteNo (by show decide (V.str (kindS false) = V.str "call") = false; decide +kernel) ?_
            refine ⟨sZ, ?_⟩
            rw [eZ, calls_snoc hp, ec, if_neg Bool.false_ne_true, List.append_nil]
          | true =>
            refine iteYes (by show decide (V.str (kindS true) = V.str "call") = true; decide +kernel) ?_
            refine ⟨_, rfl, p.1, _, _, .str p.2.nm, rfl, rfl, sqT_new hpt, rfl, _, eZ, ?_, fun b o e => ?_, ?_⟩
            · rw [List.length_map]
              have := calls_len (c.ss.take j)
              rw [List.length_take] at this
              exact small (by omega)
            · rw [upd_ne (ne_of_none e nL)]
              exact sZ _ _ e
            · rw [upd_same, calls_snoc hp, ec, if_pos rfl, List.map_append]
              rfl
        · obtain ⟨sZ, eZ⟩ := h
          rw [List.length_map, List.take_of_length_le (Nat.le_refl _)] at eZ
          have eN := sZ _ _ eN
          have eD := sZ _ _ eD
          have kZ := kG.trans sZ
          have lca := calls_len c.ss
          refine ⟨.ref L, rfl, L, rfl, ⟨_, sqL_new eZ⟩, fun M nM => ?_⟩
          refine lc_pure (walk_list (K := K) (a := L) (xs := (calls c.ss).map V.str)) ((List.replicate (calls c.ss).length true).map V.bl) (by rw [List.length_map, List.length_map, List.length_replicate]) nM (fun _ s => s.seq (sqL_new eZ)) (fun j x H0 H' hj h0 y => ?_) (fun H' s' e => ?_)
          · obtain ⟨rfl, hx⟩ := y
            obtain ⟨z, hz, rfl⟩ := get_map hx
            have hzn := ok.cl c mc z (List.mem_of_getElem? hz)
            refine ⟨rfl, _, rfl, _, rfl, ns, _, rfl, DGet.k (k := Sum.inr z) (h0.1 _ _ eN), ?_⟩
            dsimp only
            rw [deed_yes hzn]
            refine h0.put nM (fun _ _ h => h) ?_ (by rw [List.length_map, List.length_replicate]; omega)
            rw [List.getElem?_map, List.getElem?_replicate, if_pos (lt_of_get hz)]
            rfl
          · refine ⟨M, _, rfl, sqL_new e, ?_⟩
            rw [all_trueL]
            refine ⟨true, rfl, iteF ?_⟩
            have st := ok.st
            have stl := nStages_le cs (i + 1)
            have sts := nStages_snoc hc
            refine ⟨_, rfl, _, _, rfl, rfl, _, rfl, iteNo (decide_eq_false (by show ¬ (60 : Int) < ((nStages (cs.take i) : Nat) : Int) + (c.n : Int); omega)) ?_⟩
            refine ⟨_, rfl, d, _, rfl, s' _ _ eD, _, _, rfl, rfl, _, rfl, iteNo (decide_eq_false (by rw [deedKV_len]; omega)) ?_⟩
            have es : ((nStages (cs.take i) : Nat) : Int) + (c.n : Int) = ((nStages (cs.take (i + 1)) : Nat) : Int) := by omega
            refine ⟨some (.int (i : Nat)), some (.ref c.a), some (.ref L), x7, x8, r, ?_, kZ.trans s', s' _ _ eN, s' _ _ eD, ndr, subR⟩
            rw [← es]
            rfl
      · obtain ⟨_, _, _, _, _, _, rfl, sG, _⟩ := h
        exact q G sG
end
end Kb
namespace Kb
open PySem PySem.Spec PyProof.Rows L2
/-! ### leaving_of, the stages as keys -/
def skey (c : CA) (k : Nat) : List L2.Key := [.inr c.nm, .inl (k : Int)]
def keysC (c : CA) (j : Nat) : List (List L2.Key) := (List.range j).map (skey c)
def keysOf (cs : List CA) : List (List L2.Key) := cs.flatMap fun c => keysC c c.n
theorem keysOf_snoc {cs : List CA} {i : Nat} {c : CA} (h : cs[i]? = some c) : keysOf (cs.take (i + 1)) = keysOf (cs.take i) ++ keysC c c.n := by
  unfold keysOf
  rw [take_of_get h, List.flatMap_append]
  simp
theorem keysC_snoc (c : CA) (j : Nat) : keysC c (j + 1) = keysC c j ++ [skey c j] := by
  unfold keysC
  rw [List.range_succ, List.map_append]
  rfl
theorem keysC_len (c : CA) (j : Nat) : (keysC c j).length = j := by
  unfold keysC
  rw [List.length_map, List.length_range]
theorem mem_keysC {c : CA} {j k : Nat} (h : k < j) : skey c k ∈ keysC c j := List.mem_map.mpr ⟨k, List.mem_range.mpr h, rfl⟩
theorem keysOf_len : ∀ cs : List CA, (keysOf cs).length = nStages cs
  | [] => rfl
  | c :: cs => by
    have := keysOf_len cs
    unfold keysOf nStages at *
    rw [List.flatMap_cons, List.length_append, List.map_cons, List.foldr_cons, this, keysC_len]
theorem mem_keysOf {cs : List CA} {c : CA} {k : Nat} (h : c ∈ cs) (hk : k < c.n) : skey c k ∈ keysOf cs := List.mem_flatMap.mpr ⟨c, h, mem_keysC hk⟩
theorem skey_inj {c c' : CA} {k k' : Nat} (h : skey c k = skey c' k') : c.nm = c'.nm ∧ k = k' := by
  unfold skey at h
  injection h with h1 h
  injection h with h2 h
  have h1 := Sum.inr.inj h1
  have h2 := Sum.inl.inj h2
  have h2 : (k : Int) = (k' : Int) := h2
  exact ⟨h1, by omega⟩
/-- a key that has not come -/
theorem key_new {cs : List CA} (nd : (cs.map (·.nm)).Nodup) {i : Nat} {c : CA} (h : cs[i]? = some c) (j : Nat) : skey c j ∉ keysOf (cs.take i) ++ keysC c j := by
  intro z
  rcases List.mem_append.mp z with z | z
  · obtain ⟨c', hc', hk⟩ := List.mem_flatMap.mp z
    obtain ⟨k, _, e⟩ := List.mem_map.mp hk
    have e := (skey_inj e).1
    rw [← List.take_append_drop i cs, List.map_append, drop_of_get h, List.map_cons, List.nodup_append] at nd
    exact nd.2.2 _ (List.mem_map.mpr ⟨c', hc', rfl⟩) _ List.mem_cons_self e
  · obtain ⟨k, hk, e⟩ := List.mem_map.mp z
    have := (skey_inj e).2
    have := List.mem_range.mp hk
    omega
theorem keys_nd {cs : List CA} (nd : (cs.map (·.nm)).Nodup) : ∀ i, i ≤ cs.length → (keysOf (cs.take i)).Nodup
  | 0, _ => by simp [keysOf]
  | i + 1, h => by
    have hc : cs[i]? = some (cs[i]'(by omega)) := List.getElem?_eq_getElem _
    have ih := keys_nd nd i (by omega)
    rw [keysOf_snoc hc]
    have : ∀ j, (keysOf (cs.take i) ++ keysC (cs[i]'(by omega)) j).Nodup := by
      intro j
      induction j with
      | zero => simpa [keysC] using ih
      | succ j ihj =>
        rw [keysC_snoc, ← List.append_assoc, List.nodup_append]
        exact ⟨ihj, by simp, fun a ha b hb e => key_new nd hc j (by rw [← List.mem_singleton.mp hb, ← e]; exact ha)⟩
    exact this _
/-- a key, the place of a list, its items -/
abbrev TR := List L2.Key × Addr × List V
def kvT (T : List TR) : List (List L2.Key × V) := T.map fun t => (t.1, V.ref t.2.1)
theorem kvT_keys (T : List TR) : (kvT T).map (·.1) = T.map (·.1) := by
  unfold kvT
  rw [List.map_map]
  rfl
/-- the lists stand, each new since H -/
structure LsAt (H G : Hp) (D : Addr) (n : Nat) (T : List TR) : Prop where
  st : ∀ t ∈ T, G t.2.1 = some (.lst t.2.2) ∧ H t.2.1 = none ∧ t.2.1 ≠ D ∧ t.2.2.length ≤ n
  nd : (T.map (·.2.1)).Nodup
theorem LsAt.mono {H G G' : Hp} {D : Addr} {n : Nat} {T : List TR} (h : LsAt H G D n T) (s : ∀ t ∈ T, ∀ o, G t.2.1 = some o → G' t.2.1 = some o) : LsAt H G' D n T := ⟨fun t ht => ⟨s t ht _ (h.st t ht).1, (h.st t ht).2⟩, h.nd⟩
theorem LsAt.le {H G : Hp} {D : Addr} {n m : Nat} {T : List TR} (h : LsAt H G D n T) (l : n ≤ m) : LsAt H G D m T := ⟨fun t ht => ⟨(h.st t ht).1, (h.st t ht).2.1, (h.st t ht).2.2.1, Nat.le_trans (h.st t ht).2.2.2 l⟩, h.nd⟩
/-- one list gets an item -/
def pushT (T : List TR) (k : List L2.Key) (x : V) : List TR := T.map fun t => if t.1 = k then (t.1, t.2.1, t.2.2 ++ [x]) else t
theorem pushT_keys (T : List TR) (k : List L2.Key) (x : V) : (pushT T k x).map (·.1) = T.map (·.1) := by
  unfold pushT
  rw [List.map_map]
  refine List.map_congr_left fun t _ => ?_
  show (if t.1 = k then (t.1, t.2.1, t.2.2 ++ [x]) else t).1 = t.1
  split <;> rfl
theorem pushT_addr (T : List TR) (k : List L2.Key) (x : V) : (pushT T k x).map (·.2.1) = T.map (·.2.1) := by
  unfold pushT
  rw [List.map_map]
  refine List.map_congr_left fun t _ => ?_
  show (if t.1 = k then (t.1, t.2.1, t.2.2 ++ [x]) else t).2.1 = t.2.1
  split <;> rfl
theorem pushT_kv (T : List TR) (k : List L2.Key) (x : V) : kvT (pushT T k x) = kvT T := by
  unfold pushT kvT
  rw [List.map_map]
  refine List.map_congr_left fun t _ => ?_
  show ((if t.1 = k then (t.1, t.2.1, t.2.2 ++ [x]) else t).1, V.ref (if t.1 = k then (t.1, t.2.1, t.2.2 ++ [x]) else t).2.1) = (t.1, V.ref t.2.1)
  split <;> rfl
theorem inj_of_nd {α β : Type} {f : α → β} : ∀ {l : List α}, (l.map f).Nodup → ∀ {x y : α}, x ∈ l → y ∈ l → f x = f y → x = y
  | [], _, _, _, h, _, _ => nomatch h
  | z :: l, nd, x, y, hx, hy, e => by
    rw [List.map_cons, List.nodup_cons] at nd
    rcases List.mem_cons.mp hx with e1 | hx
    · rcases List.mem_cons.mp hy with e2 | hy
      · rw [e1, e2]
      · exact absurd (List.mem_map.mpr ⟨y, hy, by rw [← e, e1]⟩) nd.1
    · rcases List.mem_cons.mp hy with e2 | hy
      · exact absurd (List.mem_map.mpr ⟨x, hx, by rw [e, e2]⟩) nd.1
      · exact inj_of_nd nd.2 hx hy e
theorem LsAt.push {H G : Hp} {D : Addr} {n : Nat} {T : List TR} (h : LsAt H G D n T) (kn : (T.map (·.1)).Nodup) {t : TR} (ht : t ∈ T) {x : V} : LsAt H (upd G t.2.1 (.lst (t.2.2 ++ [x]))) D (n + 1) (pushT T t.1 x) := by
  refine ⟨fun u hu => ?_, by rw [pushT_addr]; exact h.nd⟩
  obtain ⟨u0, hu0, rfl⟩ := List.mem_map.mp hu
  obtain ⟨a1, a2, a3, a4⟩ := h.st u0 hu0
  by_cases e : u0.1 = t.1
  · have : u0 = t := inj_of_nd kn hu0 ht e
    subst this
    rw [if_pos rfl]
    exact ⟨upd_same, a2, a3, by rw [List.length_append]; exact Nat.add_le_add_right a4 1⟩
  · rw [if_neg e]
    have : u0.2.1 ≠ t.2.1 := fun z => e (by rw [inj_of_nd (f := fun t : TR => t.2.1) h.nd hu0 ht z])
    exact ⟨by rw [upd_ne this]; exact a1, a2, a3, Nat.le_succ_of_le a4⟩
theorem LsAt.snoc {H G : Hp} {D l : Addr} {n : Nat} {T : List TR} {k : List L2.Key} (h : LsAt H G D n T) (e : G l = some (.lst [])) (n0 : H l = none) (nd : l ≠ D) (nT : ∀ t ∈ T, t.2.1 ≠ l) : LsAt H G D n (T ++ [(k, l, [])]) := by
  refine ⟨fun t ht => ?_, ?_⟩
  · rcases List.mem_append.mp ht with ht | ht
    · exact h.st t ht
    · rw [List.mem_singleton.mp ht]
      exact ⟨e, n0, nd, Nat.zero_le _⟩
  · rw [List.map_append, List.nodup_append]
    refine ⟨h.nd, by simp, fun a ha b hb e => ?_⟩
    obtain ⟨t, ht, rfl⟩ := List.mem_map.mp ha
    rw [List.map_singleton, List.mem_singleton] at hb
    exact nT t ht (e.trans hb)
def rTupOf (K : PySem.W.Frag) : List V → Hp → VK → Prop := fun xs H Q => ∃ p ys, xs = [.ref p] ∧ ((SqL K H p ys ∧ ∀ l, H l = none → Q (.ref l) (upd H l (.tup ys))) ∨ (SqT K H p ys ∧ Q (.ref p) H))
theorem tupOf_at {X : Cx} {K : PySem.W.Frag} (h : X.K = K) : CallR X (.type "tuple") (rTupOf K) := by
  subst h
  exact call_tuple_of
section
variable {P : Program} {w : World} {K : PySem.W.Frag} {mg : Str → Option Value} {base : Heap}
def spLeaving (K : PySem.W.Frag) : Sp := fun vs H Q _ => ∃ (a : Addr) (cs : List CA), vs = [.ref a] ∧ CsAt K H a cs ∧ CsOk cs ∧ ∀ H' p, Same H H' → Q (.ref p) H'
abbrev nLe : List Str := ["courses", "found", "course", "k", "step", "number", "stage"]
theorem scLe : FnScope nLe ["courses"] (defScope sLeaving) := ⟨rfl, rfl, rfl, by decide +kernel, rfl, by decide +kernel, by decide +kernel⟩
theorem ok_leaving {f : Addr} {fd : FuncData} (F : Fun K "leaving_of" "leaving_of" sLeaving f fd) (N : Nones mg) : FnOk P w K mg base CX0 1 f fd ["courses"] (spLeaving K) := by
  refine F.ok scLe (fun vs H Q E h => ?_) (fun cdv A outer s H vs Q E hr h => ?_)
  · obtain ⟨a, cs, rfl, _⟩ := h
    rfl
  · obtain ⟨a, cs, rfl, hC, ok, q⟩ := h
    refine ⟨_, pss_cons (ps_set (i := 1) scLe.nd rfl (Or.inr rfl) (Ka.pe_dc2 (own := [("course", 2), ("number", 5)]) (vs1 := [5]) (g := gName 2) (g1 := gName 5) (tt := tYes) (tt1 := tYes) (Ka.storeT (hu_of hr)) rfl scLe.nd (pi_tup (pv 0)) (blkOk_by (own := [("course", 2), ("number", 5)]) (N := nLe) (sc := defScope sLeaving) (by decide +kernel)) (by decide) (fun _ _ _ _ _ => (pg_name (i := 2) scLe.nd rfl (Or.inl rfl))) (fun _ _ _ _ _ => pts_nil) (fun _ _ _ _ _ => (pi_range1 (by rfl) N.range (pa_cons (pe_ix (ixT_at (K := K) rfl) (pv 2) pe_int (fun _ _ => rfl)) pa_nil))) (fun _ _ _ _ _ => (pg_name (i := 5) scLe.nd rfl (Or.inl rfl))) (fun _ _ _ _ _ => pts_nil) (fun _ _ _ _ _ => (pe_tup (pa_cons (pe_ix (ixT_at (K := K) rfl) (pv 2) pe_int (fun _ _ => rfl)) (pa_cons (pv 5) pa_nil)))) (fun _ _ _ _ _ => (pe_lst pa_nil))))
      (pss_cons (ps_for PassesOwn.never rfl (pi_tup (pv 0)) (pg_name (i := 2) scLe.nd rfl (Or.inl rfl))
        (pss_one (ps_for PassesOwn.never rfl (Ka.pi_enumT (by rfl) N.enumerate (pa_cons (pe_ix ix_tup (pv 2) pe_int (fun _ _ => rfl)) pa_nil)) (pg_tup rfl (pgs_cons (pg_name (i := 3) scLe.nd rfl (Or.inl rfl)) (pgs_cons (pg_name (i := 4) scLe.nd rfl (Or.inl rfl)) pgs_nil)))
          (pss_one (ps_expr (pe_bm PySem.F.plainAttrs_list PySem.F.slot_list_append PySem.F.type_list_append mt_append (pe_dget (hu_of hr) (pv 1) (pe_tup (pa_cons (pe_ix ix_tup (pv 2) pe_int (fun _ _ => rfl)) (pa_cons (pe_ix ix_tup (pv 4) pe_int (fun _ _ => rfl)) pa_nil))) (fun _ _ => rfl)) (pa_cons (pv 3) pa_nil)))))))
      (pss_one (ps_ret (pe_lock (Ka.pe_dcT (own := [("stage", 6)]) (g := gName 6) rfl (hu_of hr) scLe.nd (pi_keys (pv 1)) (blkOk_by (own := [("stage", 6)]) (N := nLe) (sc := defScope sLeaving) (by decide +kernel)) (fun _ _ _ _ _ => (pg_name (i := 6) scLe.nd rfl (Or.inl rfl))) (fun _ _ _ _ _ => (pv 6)) (fun _ _ _ _ _ => (pe_callTy (tupOf_at (K := K) rfl) (by rfl) N.tuple (by decide +kernel) (pa_cons (pe_dget (hu_of hr) (pv 1) (pv 6) (fun _ _ => rfl)) pa_nil)))))))), ?_⟩
    have st60 := ok.st
    refine ⟨.ref a, rfl, a, rfl, ⟨_, hC.1⟩, fun D nD => ?_⟩
    refine out_it (walk_tup (K := K) (a := a) (xs := cs.map fun c => V.ref c.a)) (fun i G => ∃ T : List TR, Same H G ∧ G D = some (.dT (kvT T)) ∧ T.map (·.1) = keysOf (cs.take i) ∧ LsAt H G D 0 T) ⟨[], same_new nD, upd_same, rfl, ⟨(fun t ht => nomatch ht), List.nodup_nil⟩⟩ (fun _ _ _ h => Same.sqT h.choose_spec.1 hC.1) (fun i x G G' hi h y => ?_) (fun G h => ?_)
    · obtain ⟨rfl, hx⟩ := y
      obtain ⟨c, hc, rfl⟩ := get_map hx
      obtain ⟨T, sG, eG, kT, lT⟩ := h
      have mc := List.mem_of_getElem? hc
      have mcG := (hC.2 c mc).mono sG
      have okc := ok.ok c mc
      have n1 := okc.n1
      refine ⟨rfl, _, rfl, c.a, _, _, .int (c.n : Nat), rfl, rfl, mcG.t, rfl, _, rfl, by omega, by omega, ?_⟩
      refine in_it (walk_r0 (n := c.n)) (fun j G2 => ∃ T : List TR, Same H G2 ∧ G2 D = some (.dT (kvT T)) ∧ T.map (·.1) = keysOf (cs.take i) ++ keysC c j ∧ LsAt H G2 D 0 T) ⟨T, sG, eG, by rw [kT]; simp [keysC], lT⟩ (fun _ _ _ _ => True.intro) (fun j x G2 G3 hj h2 y => ?_) (fun G2 h2 => ?_)
      · obtain ⟨rfl, rfl⟩ := y
        obtain ⟨T, s2, e2, kT, lT⟩ := h2
        have mc2 := (hC.2 c mc).mono s2
        refine ⟨rfl, _, rfl, c.a, _, _, .str c.nm, rfl, rfl, mc2.t, rfl, _, rfl, smallE (by show 2 ≤ 1000000; decide), fun b nb => ⟨Nat.zero_le _, fun l nl => ?_⟩⟩
        have sb := same_new (o := .tup [V.str c.nm, V.int (j : Nat)]) nb
        have eb : upd G3 b (.tup [V.str c.nm, V.int (j : Nat)]) b = some (.tup ((skey c j).map kV)) := upd_same
        have lT := lT.mono fun t _ o e => sb _ _ e
        have e2 := sb _ _ e2
        have s2 := s2.trans sb
        generalize upd G3 b (.tup [V.str c.nm, V.int (j : Nat)]) = G4 at sb eb lT e2 s2 nl
        have sl := same_new (o := .lst []) nl
        have el : upd G4 l (.lst []) l = some (.lst []) := upd_same
        have nT : ∀ t ∈ T, t.2.1 ≠ l := fun t ht => ne_of_none (lT.st t ht).1 nl
        have lT := lT.mono fun t _ o e => sl _ _ e
        have lD : l ≠ D := fun z => by
          rw [z, e2] at nl
          cases nl
        have nlH := s2.free nl
        have e2 := sl _ _ e2
        have eb := sl _ _ eb
        have s2 := s2.trans sl
        generalize upd G4 l (.lst []) = G5 at sl el lT e2 eb s2
        have len : (kvT T).length ≤ 60 := by
          have h1 : (kvT T).length = (T.map (·.1)).length := by unfold kvT; rw [List.length_map, List.length_map]
          have h2 := nStages_le cs (i + 1)
          have h3 := nStages_snoc hc
          rw [h1, kT, List.length_append, keysOf_len, keysC_len]
          omega
        refine ⟨kvT T, skey c j, b, rfl, eb, e2, small (by omega), T ++ [(skey c j, l, [])], fun b o e => ?_, ?_, ?_, ?_⟩
        · rw [upd_ne (ne_of_none e nD)]
          exact s2 _ _ e
        · rw [upd_same, putK_new]
          · unfold kvT
            rw [List.map_append]
            rfl
          · rw [kvT_keys, kT]
            exact key_new ok.nd hc j
        · rw [List.map_append, kT, keysC_snoc, List.append_assoc]
          rfl
        · refine (lT.snoc el nlH lD nT).mono fun t ht o e => ?_
          rw [upd_ne]
          · exact e
          · rcases List.mem_append.mp ht with z | z
            · exact (lT.st t z).2.2.1
            · rw [List.mem_singleton.mp z]
              exact lD
      · obtain ⟨T, s2, e2, kT, lT⟩ := h2
        exact ⟨T, s2, e2, by rw [kT, keysOf_snoc hc], lT⟩
    · obtain ⟨T, sG, eG, kT, lT⟩ := h
      rw [List.length_map, List.take_of_length_le (Nat.le_refl _)] at kT
      have kn : (T.map (·.1)).Nodup := by
        rw [kT]
        have := keys_nd ok.nd cs.length (Nat.le_refl _)
        rwa [List.take_length] at this
      refine ⟨_, rfl, a, rfl, ⟨_, Same.sqT sG hC.1⟩, ?_⟩
      refine for_it (walk_tup (K := K) (a := a) (xs := cs.map fun c => V.ref c.a)) (fun i σ Z => ∃ (x2 x3 x4 x5 x6 : Option V) (T : List TR), σ = [some (.ref a), some (.ref D), x2, x3, x4, x5, x6] ∧ Same H Z ∧ Z D = some (.dT (kvT T)) ∧ T.map (·.1) = keysOf cs ∧ LsAt H Z D (10000 * i) T) ⟨none, none, none, none, none, T, rfl, sG, eG, kT, lT⟩ (fun i σ Z _ h => ?_) (fun i x σ Z Z' hi h y => ?_) (fun σ Z h => ?_)
      · obtain ⟨_, _, _, _, _, _, _, sZ, _⟩ := h
        exact Same.sqT sZ hC.1
      · obtain ⟨rfl, hx⟩ := y
        obtain ⟨c, hc, rfl⟩ := get_map hx
        obtain ⟨x2, x3, x4, x5, x6, T, rfl, sZ, eZ, kT, lT⟩ := h
        have mc := List.mem_of_getElem? hc
        have okc := ok.ok c mc
        have osz := okc.sz
        have n8 := ok.n8
        have hi8 := lt_of_get hc
        have mcZ := (hC.2 c mc).mono sZ
        refine ⟨_, rfl, c.a, _, _, .ref c.sa, rfl, rfl, mcZ.t, rfl, c.sa, _, rfl, mcZ.s, ?_⟩
        refine for_it (walk_enumT (K := K) (a := c.sa) (xs := c.ss.map fun p => V.ref p.1)) (fun j σ Y => ∃ (x3 x4 x5 x6 : Option V) (T : List TR), σ = [some (.ref a), some (.ref D), some (.ref c.a), x3, x4, x5, x6] ∧ Same H Y ∧ Y D = some (.dT (kvT T)) ∧ T.map (·.1) = keysOf cs ∧ LsAt H Y D (10000 * i + j) T) ⟨x3, x4, x5, x6, T, rfl, sZ, eZ, kT, lT⟩ (fun j σ Y _ h => ?_) (fun j x σ Y Y' hj h y => ?_) (fun σ Y h => ?_)
        · obtain ⟨_, _, _, _, _, _, sY, _⟩ := h
          exact Same.sqT sY (hC.2 c mc).s
        · obtain ⟨U, z, v, rfl, nU, rfl, hz, hv⟩ := y
          obtain ⟨x3, x4, x5, x6, T, rfl, sY, eY, kT, lT⟩ := h
          cases hz
          obtain ⟨p, hp, rfl⟩ := get_map hv
          have mp := List.mem_of_getElem? hp
          have hjl := lt_of_get hp
          have sU := same_new (o := .tup [V.int (j : Nat), V.ref p.1]) nU
          have hU : upd Y U (.tup [V.int (j : Nat), V.ref p.1]) U = some (.tup [V.int (j : Nat), V.ref p.1]) := upd_same
          have lT := lT.mono fun t _ o e => sU _ _ e
          have eY := sU _ _ eY
          have sY := sY.trans sU
          generalize upd Y U (.tup [V.int (j : Nat), V.ref p.1]) = Y1 at sY hU eY lT
          have mcY := (hC.2 c mc).mono sY
          refine ⟨U, _, rfl, sqT_new hU, rfl, _, _, rfl, _, _, rfl, rfl, ?_⟩
          refine ⟨_, rfl, _, rfl, c.a, _, _, .str c.nm, rfl, rfl, mcY.t, rfl, _, rfl, p.1, _, _, .int (p.2.n : Nat), rfl, rfl, sqT_new (mcY.p p mp), rfl, smallE (by show 2 ≤ 1000000; decide), fun b nb => ?_⟩
          have sb := same_new (o := .tup [V.str c.nm, V.int (p.2.n : Nat)]) nb
          have eb : upd Y1 b (.tup [V.str c.nm, V.int (p.2.n : Nat)]) b = some (.tup ((skey c p.2.n).map kV)) := upd_same
          have lT := lT.mono fun t _ o e => sb _ _ e
          have eY := sb _ _ eY
          have sY := sY.trans sb
          generalize upd Y1 b (.tup [V.str c.nm, V.int (p.2.n : Nat)]) = Y2 at sY eb eY lT
          have hk : skey c p.2.n ∈ T.map (·.1) := by
            rw [kT]
            exact mem_keysOf mc (okc.sl p mp).1
          obtain ⟨t, ht, et⟩ := List.mem_map.mp hk
          have kn : (T.map (·.1)).Nodup := by
            rw [kT]
            have := keys_nd ok.nd cs.length (Nat.le_refl _)
            rwa [List.take_length] at this
          have hv : valV (kvT T) (skey c p.2.n) = some (.ref t.2.1) := valV_mem (by rw [kvT_keys]; exact kn) (List.mem_map.mpr ⟨t, ht, by rw [et]⟩)
          obtain ⟨a1, a2, a3, a4⟩ := lT.st t ht
          refine ⟨D, .ref t.2.1, rfl, hv ▸ DGet.t eY eb, .inl ⟨rfl, _, sqL_new a1⟩, _, rfl, t.2.1, _, _, rfl, rfl, a1, small (by omega), ?_⟩
          refine ⟨some (.int (j : Nat)), some (.ref p.1), x5, x6, pushT T t.1 (.int (j : Nat)), rfl, fun b2 o e => ?_, ?_, by rw [pushT_keys]; exact kT, lT.push kn ht⟩
          · rw [upd_ne (ne_of_none e a2)]
            exact sY _ _ e
          · rw [upd_ne a3.symm, pushT_kv]
            exact eY
        · obtain ⟨x3, x4, x5, x6, T, rfl, sY, eY, kT, lT⟩ := h
          refine ⟨_, _, _, _, _, T, rfl, sY, eY, kT, lT.le ?_⟩
          rw [List.length_map]
          omega
      · obtain ⟨x2, x3, x4, x5, x6, T, rfl, sZ, eZ, kT, lT⟩ := h
        have kn : (T.map (·.1)).Nodup := by
          rw [kT]
          have := keys_nd ok.nd cs.length (Nat.le_refl _)
          rwa [List.take_length] at this
        refine ⟨D, _, eZ, True.intro, fun od => ?_⟩
        generalize hL : upd Z D (.frz od (.dT (kvT T))) = L
        have fL : L D = some (.frz od (.dT (kvT T))) := by rw [← hL]; exact upd_same
        have kL : But D Z L := by rw [← hL]; exact But.upd
        have lT := lT.mono fun t ht o e => kL _ _ (lT.st t ht).2.2.1 e
        have sL : Same H L := fun b o e => kL _ _ (ne_of_none e nD) (sZ _ _ e)
        refine ⟨_, rfl, D, od, rfl, .inr ⟨kvT T, fL, fun D2 nD2 => ?_⟩⟩
        have lenT : (kvT T).length ≤ 60 := by
          have h1 : (kvT T).length = (T.map (·.1)).length := by unfold kvT; rw [List.length_map, List.length_map]
          rw [h1, kT, keysOf_len]
          exact st60
        refine dcT_it (walk_keysT (d := D) (o := od) (kvs := kvT T)) (fun i Y => Same L Y ∧ ∃ kvs, Y D2 = some (.dT kvs) ∧ kvs.length ≤ i) ⟨same_new nD2, [], upd_same, Nat.le_refl _⟩ (fun _ _ _ h => h.1 _ _ fL) (fun i x Y Y' hi h y => ?_) (fun Y h => ?_)
        · obtain ⟨rfl, k, v, b, hkv, rfl, hb⟩ := y
          obtain ⟨sY, kvs, eY, hl⟩ := h
          obtain ⟨t, ht, e⟩ := get_map hkv
          cases e
          have mt := List.mem_of_getElem? ht
          have hv : valV (kvT T) t.1 = some (.ref t.2.1) := valV_mem (by rw [kvT_keys]; exact kn) (List.mem_map.mpr ⟨t, mt, rfl⟩)
          have hG : DGet Y' D (.ref b) (some (.ref t.2.1)) := .inr ⟨kvT T, t.1, b, .inr ⟨od, sY _ _ fL⟩, rfl, hb, hv.symm⟩
          refine ⟨rfl, _, rfl, _, rfl, _, rfl, D, _, rfl, hG, t.2.1, _, rfl, .inl ⟨sqL_new (sY _ _ (lT.st t mt).1), fun l nl => ?_⟩⟩
          have sl := same_new (o := .tup t.2.2) nl
          refine ⟨kvs, t.1, b, rfl, sl _ _ hb, sl _ _ eY, small (by omega), fun b2 o e => ?_, _, upd_same, ?_⟩
          · rw [upd_ne (ne_of_none e nD2)]
            exact sl _ _ (sY _ _ e)
          · have := length_putK kvs t.1 (V.ref l)
            omega
        · obtain ⟨sY, kvs, eY, hl⟩ := h
          refine ⟨sY _ _ fL, q _ D2 fun b o e => ?_⟩
          rw [upd_ne (ne_of_none e nD)]
          exact sY _ _ (sL _ _ e)
end
end Kb
namespace Kb
open PySem PySem.Spec PyProof.Rows L2
/-! ### the class Book: its constructor, deeds -/
/-- what the written part says of the class -/
structure BkC (K : PySem.W.Frag) (mg : Str → Option Value) (C : Addr) : Prop where
  cl : Cls K C
  nC : NoAttr K C "courses"
  nP : NoAttr K C "_places"
  nS : NoAttr K C "_stages"
  nE : NoAttr K C "_ends"
  nL : NoAttr K C "_leaving"
  mgC : mg "Book" = some (.ref C)
/-- a book at p -/
def BookAt (K : PySem.W.Frag) (C : Addr) (H : Hp) (p : Addr) (a : Addr) (cs : List CA) : Prop :=
  ∃ (dx : Addr) (fs : List (Str × V)), H p = some (.ins C dx fs) ∧ fs.lookup ("courses" : Str) = some (.ref a) ∧ fs.lookup ("deeds" : Str) = none ∧ CsAt K H a cs ∧ CsOk cs
theorem BookAt.mono {K : PySem.W.Frag} {C : Addr} {H H' : Hp} {p a : Addr} {cs : List CA} (s : Same H H') (h : BookAt K C H p a cs) : BookAt K C H' p a cs := by
  obtain ⟨dx, fs, h1, h2, h3, h4, h5⟩ := h
  exact ⟨dx, fs, s _ _ h1, h2, h3, h4.mono s, h5⟩
theorem CsAt.but {K : PySem.W.Frag} {H H' : Hp} {a p : Addr} {cs : List CA} {C dx : Addr} {fs : List (Str × V)} (k : But p H H') (hp : H p = some (.ins C dx fs)) (h : CsAt K H a cs) : CsAt K H' a cs := by
  have one : ∀ {b : Addr} {xs : List V}, SqT K H b xs → SqT K H' b xs := fun {b xs} h => by
    rcases h with (h | ⟨o, h⟩) | h
    · exact .inl (.inl (k _ _ (fun e => by rw [e, hp] at h; cases h) h))
    · exact .inl (.inr ⟨o, k _ _ (fun e => by rw [e, hp] at h; cases h) h⟩)
    · exact .inr h
  refine ⟨one h.1, fun c hc => ?_⟩
  have := h.2 c hc
  exact ⟨one this.t, one this.e, one this.s, fun q hq => k _ _ (fun e => by have := this.p q hq; rw [e, hp] at this; cases this) (this.p q hq)⟩
abbrev SP := Addr × Str × Nat
def spV (S : List SP) : List V := S.map fun t => V.ref t.1
def spZ (t : SP) : Ka.HZ := (V.ref t.1, .tuple [.str t.2.1, .int (t.2.2 : Int)])
/-- the fields of a book so far -/
structure FsOk (fs : List (Str × V)) (a : Addr) (m : Nat) : Prop where
  c : fs.lookup ("courses" : Str) = some (.ref a)
  d : fs.lookup ("deeds" : Str) = none
  l : fs.length ≤ m
theorem putF_len {n : Str} {v : V} : ∀ {fs : List (Str × V)}, (putF n v fs).length ≤ fs.length + 1
  | [] => Nat.le_refl _
  | q :: fs => by
    have ih := putF_len (n := n) (v := v) (fs := fs)
    unfold putF
    split
    · simp
    · rw [List.length_cons, List.length_cons]
      omega
theorem FsOk.put {fs : List (Str × V)} {a : Addr} {m : Nat} {n : Str} {v : V} (h : FsOk fs a m) (h1 : ¬ ("courses" : Str) = n) (h2 : ¬ ("deeds" : Str) = n) : FsOk (putF n v fs) a (m + 1) :=
  ⟨by rw [lookup_putF, if_neg h1]; exact h.c, by rw [lookup_putF, if_neg h2]; exact h.d, Nat.le_trans putF_len (Nat.add_le_add_right h.l 1)⟩
section
variable {P : Program} {w : World} {K : PySem.W.Frag} {mg : Str → Option Value} {base : Heap}
def spBkInit (K : PySem.W.Frag) (C : Addr) : Sp := fun vs H Q _ => ∃ (p a dx : Addr) (cs : List CA), vs = [.ref p, .ref a] ∧ H p = some (.ins C dx []) ∧ CsAt K H a cs ∧ CsOk cs ∧ ∀ H', But p H H' → BookAt K C H' p a cs → Q .non H'
abbrev nBi : List Str := ["self", "courses", "at", "course", "number"]
theorem scBi : FnScope nBi ["self", "courses"] (defScope sBkInit) := ⟨rfl, rfl, rfl, by decide +kernel, rfl, by decide +kernel, by decide +kernel⟩
theorem ok_bkinit {f C fE fT fL : Addr} {fd fdE fdT fdL : FuncData} (F : Fun K "__init__" "Book.__init__" sBkInit f fd) (N : Nones mg) (B : BkC K mg C) (G_check_each : FnOk P w K mg base CX0 7 fE fdE ["courses"] (spChEach K)) (C_check_each : CallC K mg "check_each" ["courses"] fE fdE)
    (G_check_together : FnOk P w K mg base CX0 2 fT fdT ["courses"] (spChTog K)) (C_check_together : CallC K mg "check_together" ["courses"] fT fdT) (G_leaving_of : FnOk P w K mg base CX0 1 fL fdL ["courses"] (spLeaving K)) (C_leaving_of : CallC K mg "leaving_of" ["courses"] fL fdL) : FnOk P w K mg base CX0 8 f fd ["self", "courses"] (spBkInit K C) := by
  refine F.ok scBi (fun vs H Q E h => ?_) (fun cdv A outer s H vs Q E hr h => ?_)
  · obtain ⟨p, a, dx, cs, rfl, _⟩ := h
    rfl
  · obtain ⟨p, a, dx, cs, rfl, hp, hC, ok, q⟩ := h
    refine ⟨_, pss_cons (ps_if (pt_not (pt_val (pe_callB call_isi (by rfl) N.isinstance (by decide +kernel) (pa_cons (pv 1) (pa_cons (pe_bltn (v := .ty "tuple") (by rfl) N.tuple (by decide +kernel) rfl) pa_nil))))) (pss_one ps_never) pss_nil)
      (pss_cons (ps_expr (pe_call G_check_each (hr.mono (by decide)) (by rfl) C_check_each.g C_check_each.kp C_check_each.b .nil pass0 (pa_cons (pv 1) pa_nil)))
      (pss_cons (ps_expr (pe_call G_check_together (hr.mono (by decide)) (by rfl) C_check_together.g C_check_together.kp C_check_together.b .nil pass0 (pa_cons (pv 1) pa_nil)))
      (pss_cons (ps_fld (pv 0) (pv 1) rfl)
      (pss_cons (ps_fld (pv 0) (pe_dc (own := [("at", 2), ("course", 3)]) (g := gTup K 2 (gCons (gName 2) (gCons (gName 3) gNil))) (tt := tYes) rfl scBi.nd (Ka.pi_enumT (by rfl) N.enumerate (pa_cons (pv 1) pa_nil)) (blkOk_by (own := [("at", 2), ("course", 3)]) (N := nBi) (sc := defScope sBkInit) (by decide +kernel)) (fun _ _ _ _ _ => (tup_at (K := K) rfl rfl (pgs_cons (pg_name (i := 2) scBi.nd rfl (Or.inl rfl)) (pgs_cons (pg_name (i := 3) scBi.nd rfl (Or.inl rfl)) pgs_nil)))) (fun _ _ _ _ _ => pts_nil) (fun _ _ _ _ _ => (pe_ix (ixT_at (K := K) rfl) (pv 3) pe_int (fun _ _ => rfl))) (fun _ _ _ _ _ => (pv 2))) rfl)
      (pss_cons (ps_fld (pv 0) (pe_callTy call_tuple_of (by rfl) N.tuple (by decide +kernel) (pa_cons (pe_callB (Ka.cr_sortG hr.units) (by rfl) N.sorted (by decide +kernel) (pa_cons (pe_lc2 (own := [("course", 3), ("number", 4)]) (vs1 := [4]) (g := gName 3) (g1 := gName 4) (tt := tYes) (tt1 := tYes) rfl scBi.nd (pi_tup (pv 1)) (blkOk_by (own := [("course", 3), ("number", 4)]) (N := nBi) (sc := defScope sBkInit) (by decide +kernel)) (by decide) (fun _ _ _ _ _ => (pg_name (i := 3) scBi.nd rfl (Or.inl rfl))) (fun _ _ _ _ _ => pts_nil) (fun _ _ _ _ _ => (pi_range1 (by rfl) N.range (pa_cons (pe_ix (ixT_at (K := K) rfl) (pv 3) pe_int (fun _ _ => rfl)) pa_nil))) (fun _ _ _ _ _ => (pg_name (i := 4) scBi.nd rfl (Or.inl rfl))) (fun _ _ _ _ _ => pts_nil) (fun _ _ _ _ _ => (pe_tup (pa_cons (pe_ix (ixT_at (K := K) rfl) (pv 3) pe_int (fun _ _ => rfl)) (pa_cons (pv 4) pa_nil))))) pa_nil)) pa_nil)) rfl)
      (pss_cons (ps_fld (pv 0) (Ka.pe_dc2 (own := [("course", 3), ("number", 4)]) (vs1 := [4]) (g := gName 3) (g1 := gName 4) (tt := tYes) (tt1 := tYes) (Ka.storeT (hu_of hr)) rfl scBi.nd (pi_tup (pv 1)) (blkOk_by (own := [("course", 3), ("number", 4)]) (N := nBi) (sc := defScope sBkInit) (by decide +kernel)) (by decide) (fun _ _ _ _ _ => (pg_name (i := 3) scBi.nd rfl (Or.inl rfl))) (fun _ _ _ _ _ => pts_nil) (fun _ _ _ _ _ => (piT_at (K := K) rfl (pe_ix (ixT_at (K := K) rfl) (pv 3) pe_int (fun _ _ => rfl)))) (fun _ _ _ _ _ => (pg_name (i := 4) scBi.nd rfl (Or.inl rfl))) (fun _ _ _ _ _ => pts_nil) (fun _ _ _ _ _ => (pe_tup (pa_cons (pe_ix (ixT_at (K := K) rfl) (pv 3) pe_int (fun _ _ => rfl)) (pa_cons (pv 4) pa_nil)))) (fun _ _ _ _ _ => pe_bl)) rfl)
      (pss_one (ps_fld (pv 0) (pe_call G_leaving_of (hr.mono (by decide)) (by rfl) C_leaving_of.g C_leaving_of.kp C_leaving_of.b .nil pass0 (pa_cons (pv 1) pa_nil)) rfl)))))))), ?_⟩
    refine ⟨.ref a, rfl, .ref a, .ty "tuple", .type "tuple", .type "tuple", true, rfl, .ty "tuple", tyT hC.1, kit_ty (by decide +kernel), true, rfl, iteF ?_⟩
    refine ⟨_, rfl, a, cs, rfl, hC, ok, fun H1 s1 => ?_⟩
    refine ⟨_, rfl, a, cs, rfl, hC.mono s1, ok, fun H2 s2 => ?_⟩
    have hp2 := s2 _ _ (s1 _ _ hp)
    have k2 : But p H H2 := But.of (s1.trans s2)
    have hC2 := (hC.mono s1).mono s2
    refine ⟨_, rfl, _, rfl, p, C, dx, [], rfl, hp2, B.cl, B.nC, (by show 0 < 1000; decide), ?_⟩
    have F1 : FsOk (putF "courses" (.ref a) []) a 1 := ⟨by rw [lookup_putF, if_pos rfl], by rw [lookup_putF, if_neg (by decide +kernel)]; rfl, Nat.le_trans putF_len (Nat.le_refl _)⟩
    have hp3 : upd H2 p (.ins C dx (putF "courses" (.ref a) [])) p = some (.ins C dx (putF "courses" (.ref a) [])) := upd_same
    have k3 : But p H (upd H2 p (.ins C dx (putF "courses" (.ref a) []))) := k2.trans But.upd
    generalize upd H2 p (.ins C dx (putF "courses" (.ref a) [])) = G1 at hp3 k3
    generalize putF "courses" (.ref a) [] = fs1 at F1 hp3
    have hC3 := hC.but k3 hp
    -- _places
    refine ⟨_, rfl, a, _, rfl, hC3.1, fun D nD => ?_⟩
    refine dcK_it (walk_enumT (K := K) (a := a) (xs := cs.map fun c => V.ref c.a)) (fun i G => Same G1 G ∧ ∃ kvs, G D = some (.dK kvs) ∧ kvs.length ≤ i) ⟨same_new nD, [], upd_same, Nat.le_refl _⟩ (fun _ _ _ h => Same.sqT h.1 hC3.1) (fun i x G G' hi h y => ?_) (fun G h => ?_)
    · obtain ⟨T, z, v, rfl, nT, rfl, hz, hv⟩ := y
      obtain ⟨sG, kvs, eG, hl⟩ := h
      cases hz
      obtain ⟨c, hc, rfl⟩ := get_map hv
      have n8 := ok.n8
      have hi8 := lt_of_get hc
      have sT := same_new (o := .tup [V.int (i : Nat), V.ref c.a]) nT
      have hT : upd G T (.tup [V.int (i : Nat), V.ref c.a]) T = some (.tup [V.int (i : Nat), V.ref c.a]) := upd_same
      have mc := (hC3.2 c (List.mem_of_getElem? hc)).mono (sG.trans sT)
      refine ⟨T, _, rfl, sqT_new hT, rfl, _, _, rfl, _, _, rfl, rfl, rfl, ?_⟩
      refine ⟨_, rfl, c.a, _, _, .str c.nm, rfl, rfl, mc.t, rfl, _, rfl, kvs, Sum.inr c.nm, rfl, sT _ _ eG, small (by omega), fun b o e => ?_, _, upd_same, ?_⟩
      · rw [upd_ne (ne_of_none e nD)]
        exact sT _ _ (sG _ _ e)
      · have := length_putK kvs (Sum.inr c.nm : L2.Key) (V.int (i : Nat))
        omega
    obtain ⟨sG, _, _, _⟩ := h
    have hp4 := sG _ _ hp3
    have k4 := k3.trans (But.of sG)
    have F2 : FsOk (putF "_places" (.ref D) fs1) a 2 := F1.put (by decide +kernel) (by decide +kernel)
    refine ⟨_, rfl, p, C, dx, fs1, rfl, hp4, B.cl, B.nP, (by have := F1.l; omega), ?_⟩
    have hp5 : upd G p (.ins C dx (putF "_places" (.ref D) fs1)) p = some (.ins C dx (putF "_places" (.ref D) fs1)) := upd_same
    have k5 : But p H (upd G p (.ins C dx (putF "_places" (.ref D) fs1))) := k4.trans But.upd
    generalize upd G p (.ins C dx (putF "_places" (.ref D) fs1)) = G2 at hp5 k5
    generalize putF "_places" (.ref D) fs1 = fs2 at F2 hp5
    have hC5 := hC.but k5 hp
    clear hp4 k4 sG nD hp3 k3 F1 hC3
    -- _stages
    refine ⟨_, rfl, a, rfl, ⟨_, hC5.1⟩, fun L nL => ?_⟩
    refine lcout_it (walk_tup (K := K) (a := a) (xs := cs.map fun c => V.ref c.a)) (fun i G => Same G2 G ∧ ∃ S : List SP, G L = some (.lst (spV S)) ∧ (∀ t ∈ S, G t.1 = some (.tup [V.str t.2.1, V.int (t.2.2 : Nat)])) ∧ S.length ≤ nStages (cs.take i)) ⟨same_new nL, [], upd_same, (fun t ht => nomatch ht), Nat.zero_le _⟩ (fun _ _ _ h => Same.sqT h.1 hC5.1) (fun i x G G' hi h y => ?_) (fun G h => ?_)
    · obtain ⟨rfl, hx⟩ := y
      obtain ⟨c, hc, rfl⟩ := get_map hx
      obtain ⟨sG, S, eG, tS, lS⟩ := h
      have mc := List.mem_of_getElem? hc
      have okc := ok.ok c mc
      have n1 := okc.n1
      have h2 := nStages_le cs (i + 1)
      have h3 := nStages_snoc hc
      have st60 := ok.st
      refine ⟨rfl, _, rfl, c.a, _, _, .int (c.n : Nat), rfl, rfl, ((hC5.2 c mc).mono sG).t, rfl, _, rfl, by omega, by omega, ?_⟩
      refine lcin_it (walk_r0 (n := c.n)) (fun j G3 => Same G2 G3 ∧ ∃ S : List SP, G3 L = some (.lst (spV S)) ∧ (∀ t ∈ S, G3 t.1 = some (.tup [V.str t.2.1, V.int (t.2.2 : Nat)])) ∧ S.length ≤ nStages (cs.take i) + j) ⟨sG, S, eG, tS, lS⟩ (fun _ _ _ _ => True.intro) (fun j x G3 G4 hj h2 y => ?_) (fun G3 h2 => ?_)
      · obtain ⟨rfl, rfl⟩ := y
        obtain ⟨s3, S, e3, tS, lS⟩ := h2
        refine ⟨rfl, _, rfl, c.a, _, _, .str c.nm, rfl, rfl, ((hC5.2 c mc).mono s3).t, rfl, _, rfl, smallE (by show 2 ≤ 1000000; decide), fun b nb => ?_⟩
        have sb := same_new (o := .tup [V.str c.nm, V.int (j : Nat)]) nb
        have eb : upd G4 b (.tup [V.str c.nm, V.int (j : Nat)]) b = some (.tup [V.str c.nm, V.int (j : Nat)]) := upd_same
        have lb : b ≠ L := fun z => by rw [z, e3] at nb; cases nb
        refine ⟨_, sb _ _ e3, ?_, fun b2 o e => ?_, S ++ [(b, c.nm, j)], ?_, fun t ht => ?_, ?_⟩
        · unfold spV
          rw [List.length_map]
          exact small (by omega)
        · rw [upd_ne (ne_of_none e nL)]
          exact sb _ _ (s3 _ _ e)
        · rw [upd_same]
          unfold spV
          rw [List.map_append]
          rfl
        · rcases List.mem_append.mp ht with z | z
          · rw [upd_ne (fun w => by have := tS t z; rw [w, e3] at this; cases this)]
            exact sb _ _ (tS t z)
          · rw [List.mem_singleton.mp z, upd_ne lb]
            exact eb
        · rw [List.length_append, List.length_singleton]
          omega
      · obtain ⟨s3, S, e3, tS, lS⟩ := h2
        exact ⟨s3, S, e3, tS, by rw [h3]; exact lS⟩
    obtain ⟨sG, S, eG, tS, lS⟩ := h
    have hz0 : Ka.hzV (S.map spZ) = spV S := by
      unfold Ka.hzV spV
      rw [List.map_map]
      rfl
    refine ⟨L, S.map spZ, rfl, by rw [hz0]; exact sqL_new eG, fun z hz => ?_, fun z hz y hy => ?_, fun z hz => ?_, fun z hz => ?_, fun q1 nq1 => ?_⟩
    · obtain ⟨t, ht, rfl⟩ := List.mem_map.mp hz
      exact .tup (sqT_new (tS t ht)) (.cons (.str _) (.cons (.int _) .nil))
    · obtain ⟨t, ht, rfl⟩ := List.mem_map.mp hz
      obtain ⟨u, hu, rfl⟩ := List.mem_map.mp hy
      simp [spZ, PySem.W.alike, PySem.W.alikeAll]
    · obtain ⟨t, ht, rfl⟩ := List.mem_map.mp hz
      exact ⟨_, _, rfl⟩
    · obtain ⟨t, ht, rfl⟩ := List.mem_map.mp hz
      simp [spZ, PyData.depth, PyData.depthAll]
    have sq := same_new (o := .lst (Ka.hzV ((S.map spZ).mergeSort Ka.hzLe))) nq1
    have eq1 : upd G q1 (.lst (Ka.hzV ((S.map spZ).mergeSort Ka.hzLe))) q1 = some (.lst (Ka.hzV ((S.map spZ).mergeSort Ka.hzLe))) := upd_same
    have sG := sG.trans sq
    generalize upd G q1 (.lst (Ka.hzV ((S.map spZ).mergeSort Ka.hzLe))) = G3 at sG eq1
    refine ⟨q1, _, rfl, .inl ⟨sqL_new eq1, fun l nl => ?_⟩⟩
    have sG := sG.trans (same_new (o := .tup (Ka.hzV ((S.map spZ).mergeSort Ka.hzLe))) nl)
    generalize upd G3 l (.tup (Ka.hzV ((S.map spZ).mergeSort Ka.hzLe))) = G4 at sG
    have hp6 := sG _ _ hp5
    have k6 := k5.trans (But.of sG)
    have F3 : FsOk (putF "_stages" (.ref l) fs2) a 3 := F2.put (by decide +kernel) (by decide +kernel)
    refine ⟨_, rfl, p, C, dx, fs2, rfl, hp6, B.cl, B.nS, (by have := F2.l; omega), ?_⟩
    have hp7 : upd G4 p (.ins C dx (putF "_stages" (.ref l) fs2)) p = some (.ins C dx (putF "_stages" (.ref l) fs2)) := upd_same
    have k7 : But p H (upd G4 p (.ins C dx (putF "_stages" (.ref l) fs2))) := k6.trans But.upd
    generalize upd G4 p (.ins C dx (putF "_stages" (.ref l) fs2)) = G5 at hp7 k7
    generalize putF "_stages" (.ref l) fs2 = fs3 at F3 hp7
    have hC7 := hC.but k7 hp
    clear hp6 k6 sG sq eq1 eG tS hp5 k5 F2 hC5
    -- _ends
    refine ⟨_, rfl, a, rfl, ⟨_, hC7.1⟩, fun D2 nD2 => ?_⟩
    refine out_it (walk_tup (K := K) (a := a) (xs := cs.map fun c => V.ref c.a)) (fun i G => Same G5 G ∧ ∃ kvs, G D2 = some (.dT kvs) ∧ kvs.length ≤ 10000 * i) ⟨same_new nD2, [], upd_same, Nat.zero_le _⟩ (fun _ _ _ h => Same.sqT h.1 hC7.1) (fun i x G G' hi h y => ?_) (fun G h => ?_)
    · obtain ⟨rfl, hx⟩ := y
      obtain ⟨c, hc, rfl⟩ := get_map hx
      obtain ⟨sG, kvs, eG, lG⟩ := h
      have mc := List.mem_of_getElem? hc
      have okc := ok.ok c mc
      have n8 := ok.n8
      have ez := okc.ez
      have hi8 := lt_of_get hc
      have mcG := (hC7.2 c mc).mono sG
      refine ⟨rfl, _, rfl, c.a, _, _, .ref c.ea, rfl, rfl, mcG.t, rfl, c.ea, rfl, ⟨_, mcG.e⟩, ?_⟩
      refine in_it (walk_tup (K := K) (a := c.ea) (xs := natV c.es)) (fun j G6 => Same G5 G6 ∧ ∃ kvs, G6 D2 = some (.dT kvs) ∧ kvs.length ≤ 10000 * i + j) ⟨sG, kvs, eG, lG⟩ (fun _ _ _ h => Same.sqT h.1 (hC7.2 c mc).e) (fun j x G6 G7 hj h2 y => ?_) (fun G6 h2 => ?_)
      · obtain ⟨rfl, hx⟩ := y
        rw [natV_len] at hj
        obtain ⟨e, he, rfl⟩ := get_map (f := fun (i : Nat) => V.int (i : Int)) hx
        obtain ⟨s6, kvs, e6, l6⟩ := h2
        refine ⟨rfl, _, rfl, c.a, _, _, .str c.nm, rfl, rfl, ((hC7.2 c mc).mono s6).t, rfl, _, rfl, smallE (by show 2 ≤ 1000000; decide), fun b nb => ?_⟩
        have sb := same_new (o := .tup [V.str c.nm, V.int (e : Int)]) nb
        have eb : upd G7 b (.tup [V.str c.nm, V.int (e : Int)]) b = some (.tup ((skey c e).map kV)) := upd_same
        refine ⟨kvs, skey c e, b, rfl, eb, sb _ _ e6, small (by omega), fun b2 o e => ?_, _, upd_same, ?_⟩
        · rw [upd_ne (ne_of_none e nD2)]
          exact sb _ _ (s6 _ _ e)
        · have := length_putK kvs (skey c e) (V.bl true)
          omega
      · obtain ⟨s6, kvs, e6, l6⟩ := h2
        rw [natV_len] at l6
        exact ⟨s6, kvs, e6, by omega⟩
    obtain ⟨sG, _, _, _⟩ := h
    have hp8 := sG _ _ hp7
    have k8 := k7.trans (But.of sG)
    have F4 : FsOk (putF "_ends" (.ref D2) fs3) a 4 := F3.put (by decide +kernel) (by decide +kernel)
    refine ⟨_, rfl, p, C, dx, fs3, rfl, hp8, B.cl, B.nE, (by have := F3.l; omega), ?_⟩
    have hp9 : upd G p (.ins C dx (putF "_ends" (.ref D2) fs3)) p = some (.ins C dx (putF "_ends" (.ref D2) fs3)) := upd_same
    have k9 : But p H (upd G p (.ins C dx (putF "_ends" (.ref D2) fs3))) := k8.trans But.upd
    generalize upd G p (.ins C dx (putF "_ends" (.ref D2) fs3)) = G8 at hp9 k9
    generalize putF "_ends" (.ref D2) fs3 = fs4 at F4 hp9
    have hC9 := hC.but k9 hp
    -- _leaving
    refine ⟨_, rfl, a, cs, rfl, hC9, ok, fun G9 l2 s9 => ?_⟩
    have F5 : FsOk (putF "_leaving" (.ref l2) fs4) a 5 := F4.put (by decide +kernel) (by decide +kernel)
    refine ⟨_, rfl, p, C, dx, fs4, rfl, s9 _ _ hp9, B.cl, B.nL, (by have := F4.l; omega), ?_⟩
    have k10 : But p H (upd G9 p (.ins C dx (putF "_leaving" (.ref l2) fs4))) := (k9.trans (But.of s9)).trans But.upd
    exact q _ k10 ⟨dx, _, upd_same, F5.c, F5.d, hC.but k10 hp, ok⟩
/-- the deeds of a book -/
def spBkDeeds (K : PySem.W.Frag) (C : Addr) : Sp := fun vs H Q _ => ∃ (p a : Addr) (cs : List CA), vs = [.ref p] ∧ BookAt K C H p a cs ∧ ∀ H' q ds, Same H H' → H q = none → H' q = some (.tup (ds.map V.str)) → ds.Perm (uniq (dns cs)) → sortedS ds = true → Q (.ref q) H'
abbrev nBd : List Str := ["self"]
theorem scBd : FnScope nBd ["self"] (defScope sBkDeeds) := ⟨rfl, rfl, rfl, by decide +kernel, rfl, by decide +kernel, by decide +kernel⟩
theorem ok_bkdeeds {f C fI : Addr} {fd fdI : FuncData} (F : Fun K "deeds" "Book.deeds" sBkDeeds f fd) (N : Nones mg) (B : BkC K mg C) (G_deeds_in : FnOk P w K mg base CX0 1 fI fdI ["courses"] (spDeedsIn K)) (C_deeds_in : CallC K mg "deeds_in" ["courses"] fI fdI) : FnOk P w K mg base CX0 2 f fd ["self"] (spBkDeeds K C) := by
  refine F.ok scBd (fun vs H Q E h => ?_) (fun cdv A outer s H vs Q E hr h => ?_)
  · obtain ⟨p, a, cs, rfl, _⟩ := h
    rfl
  · obtain ⟨p, a, cs, rfl, ⟨dx, fs, hp, hc, hd, hC, ok⟩, q⟩ := h
    refine ⟨_, pss_one (ps_ret (pe_callTy call_tuple_of (by rfl) N.tuple (by decide +kernel) (pa_cons (pe_callB (call_sortedD rfl) (by rfl) N.sorted (by decide +kernel) (pa_cons (pe_call G_deeds_in (hr.mono (by decide)) (by rfl) C_deeds_in.g C_deeds_in.kp C_deeds_in.b .nil pass0 (pa_cons (pe_fld (pv 0) rfl) pa_nil)) pa_nil)) pa_nil))), ?_⟩
    refine ⟨_, rfl, p, C, dx, fs, .ref a, rfl, hp, B.cl, B.nC, hc, a, cs, rfl, hC, ok.dz, fun H1 D s1 nD eD => ?_⟩
    refine ⟨D, _, uniq (dns cs), rfl, .inl eD, deedKV_keys _, by have := ok.d12; omega, fun ys l hperm hs nl => ?_⟩
    have s2 := same_new (o := .lst (ys.map V.str)) nl
    refine ⟨l, _, rfl, .inl ⟨sqL_new upd_same, fun t nt => ?_⟩⟩
    exact q _ t ys ((s1.trans s2).trans (same_new nt)) ((s1.trans s2).free nt) upd_same hperm hs
end
end Kb
namespace Kb
open PySem PySem.Spec PyProof.Rows L2
/-! ### the order of texts -/
abbrev leS (a b : Str) : Prop := a.cps.toList ≤ b.cps.toList
theorem leS_anti {a b : Str} (h1 : leS a b) (h2 : leS b a) : a = b := by
  have e : a.cps.toList = b.cps.toList := List.le_antisymm h1 h2
  cases a
  cases b
  rename_i x y
  have : x = y := Array.toList_inj.mp e
  rw [this]
theorem rising_pw : ∀ (l : List Str) (p : Str), risingS p l = true → (p :: l).Pairwise leS
  | [], p, _ => List.pairwise_singleton _ _
  | x :: r, p, h => by
    have h : (!ltCps x.cps.toList p.cps.toList && risingS x r) = true := h
    rw [Bool.and_eq_true, ltCps_eq, Bool.not_eq_true', decide_eq_false_iff_not] at h
    have ih := rising_pw r x h.2
    have hpx : leS p x := h.1
    refine List.pairwise_cons.mpr ⟨fun y hy => ?_, ih⟩
    rcases List.mem_cons.mp hy with e | e
    · rw [e]
      exact hpx
    · exact List.le_trans hpx ((List.pairwise_cons.mp ih).1 y e)
theorem sorted_pw {l : List Str} (h : sortedS l = true) : l.Pairwise leS := by
  cases l with
  | nil => exact List.Pairwise.nil
  | cons x r => exact rising_pw r x h
theorem sorted_of {l : List Str} (h : l.Pairwise leS) : sortedS l = true := by
  refine sortedS_of_pairwise l (h.imp fun {a b} hab => ?_)
  rw [ltCps_eq, decide_eq_false_iff_not]
  exact hab
theorem pw_uniq : ∀ {a b : List Str}, a.Pairwise leS → b.Pairwise leS → a.Perm b → a = b
  | [], b, _, _, p => (List.nil_perm.mp p).symm
  | x :: a, [], _, _, p => absurd p.length_eq (by simp)
  | x :: a, y :: b, ha, hb, p => by
    have ha2 := List.pairwise_cons.mp ha
    have hb2 := List.pairwise_cons.mp hb
    have exy : x = y := by
      rcases List.mem_cons.mp (p.mem_iff.mp List.mem_cons_self : x ∈ y :: b) with e | e
      · exact e
      · rcases List.mem_cons.mp (p.mem_iff.mpr List.mem_cons_self : y ∈ x :: a) with e2 | e2
        · exact e2.symm
        · exact leS_anti (ha2.1 y e2) (hb2.1 x e)
    subst exy
    rw [pw_uniq ha2.2 hb2.2 (List.Perm.cons_inv p)]
theorem sorted_uniq {a b : List Str} (ha : sortedS a = true) (hb : sortedS b = true) (p : a.Perm b) : a = b := pw_uniq (sorted_pw ha) (sorted_pw hb) p
theorem perm_of_mem : ∀ {a b : List Str}, a.Nodup → b.Nodup → (∀ x, x ∈ a ↔ x ∈ b) → a.Perm b := fun ha hb h => (List.perm_ext_iff_of_nodup ha hb).mpr h
theorem sorted_filter {l : List Str} (p : Str → Bool) (h : sortedS l = true) : sortedS (l.filter p) = true := sorted_of ((sorted_pw h).filter p)
end Kb
namespace Kb
open PySem PySem.Spec PyProof.Rows L2
/-! ### dealings -/
/-- a pair of a deed and a desk where it stands -/
abbrev DP := Addr × Str × Str
def DealAt (K : PySem.W.Frag) (H : Hp) (a : Addr) (ps : List DP) : Prop := SqT K H a (ps.map fun p => V.ref p.1) ∧ ∀ p ∈ ps, H p.1 = some (.tup [.str p.2.1, .str p.2.2])
theorem DealAt.mono {K : PySem.W.Frag} {H H' : Hp} {a : Addr} {ps : List DP} (s : Same H H') (h : DealAt K H a ps) : DealAt K H' a ps := ⟨Same.sqT s h.1, fun p hp => s _ _ (h.2 p hp)⟩
structure DOk (ps : List DP) : Prop where
  nd : (ps.map (·.2.1)).Nodup
  sz : ps.length ≤ 12
def byKV (ps : List DP) : List (L2.Key × V) := ps.map fun p => (Sum.inr p.2.1, V.str p.2.2)
theorem byKV_len (ps : List DP) : (byKV ps).length = ps.length := List.length_map _
theorem byKV_keys (ps : List DP) : (byKV ps).map (·.1) = (ps.map (·.2.1)).map Sum.inr := by
  unfold byKV
  rw [List.map_map, List.map_map]
  rfl
/-- the desk of a deed -/
def deskOf : List DP → Str → Option Str
  | [], _ => none
  | p :: ps, d => if p.2.1 = d then some p.2.2 else deskOf ps d
theorem valV_by : ∀ (ps : List DP) (d : Str), valV (byKV ps) (Sum.inr d : L2.Key) = (deskOf ps d).map V.str
  | [], _ => rfl
  | p :: ps, d => by
    show valV ((((Sum.inr p.2.1 : L2.Key), V.str p.2.2)) :: byKV ps) _ = _
    unfold deskOf
    by_cases h : p.2.1 = d
    · rw [if_pos h, valV_pos (by rw [h])]
      rfl
    · rw [if_neg h, valV_neg (fun z => h (Sum.inr.inj z)), valV_by ps d]
/-- the first place of a row whose deed has no desk -/
def bad (ps : List DP) (us : List Str) : Option Nat := us.findIdx? fun x => (deskOf ps x).isNone
theorem bad_none {ps : List DP} {us : List Str} (h : bad ps us = none) {x : Str} (hx : x ∈ us) : ∃ k, deskOf ps x = some k := by
  have := List.findIdx?_eq_none_iff.mp h x hx
  cases e : deskOf ps x with
  | none =>
    rw [e] at this
    cases this
  | some k => exact ⟨k, rfl⟩
/-- the part of a row at a desk -/
def partL (ps : List DP) (k : Str) (us : List Str) : List Str := us.filter fun x => decide (deskOf ps x = some k)
theorem partL_snoc {ps : List DP} {k : Str} {us : List Str} {i : Nat} {x : Str} (h : us[i]? = some x) : partL ps k (us.take (i + 1)) = partL ps k (us.take i) ++ (if deskOf ps x = some k then [x] else []) := by
  unfold partL
  rw [take_of_get h, List.filter_append]
  by_cases e : deskOf ps x = some k <;> simp [e]
def IsDesks (ps : List DP) (ds : List Str) : Prop := ds.Perm (uniq (ps.map (·.2.2))) ∧ sortedS ds = true
section
variable {P : Program} {w : World} {K : PySem.W.Frag} {mg : Str → Option Value} {base : Heap}
def spByDeed (K : PySem.W.Frag) : Sp := fun vs H Q _ => ∃ (a : Addr) (ps : List DP), vs = [.ref a] ∧ DealAt K H a ps ∧ DOk ps ∧ ∀ H' D, Same H H' → H D = none → H' D = some (.dK (byKV ps)) → Q (.ref D) H'
abbrev nDd : List Str := ["dealing", "deed", "desk"]
theorem scDd : FnScope nDd ["dealing"] (defScope sByDeed) := ⟨rfl, rfl, rfl, by decide +kernel, rfl, by decide +kernel, by decide +kernel⟩
theorem ok_bydeed {f : Addr} {fd : FuncData} (F : Fun K "desks_by_deed" "desks_by_deed" sByDeed f fd) : FnOk P w K mg base CX0 1 f fd ["dealing"] (spByDeed K) := by
  refine F.ok scDd (fun vs H Q E h => ?_) (fun cdv A outer s H vs Q E hr h => ?_)
  · obtain ⟨a, ps, rfl, _⟩ := h
    rfl
  · obtain ⟨a, ps, rfl, hD, ok, q⟩ := h
    refine ⟨_, pss_one (ps_ret (pe_dc (own := [("deed", 1), ("desk", 2)]) (g := gTup K 2 (gCons (gName 1) (gCons (gName 2) gNil))) (tt := tYes) rfl scDd.nd (pi_tup (pv 0)) (blkOk_by (own := [("deed", 1), ("desk", 2)]) (N := nDd) (sc := defScope sByDeed) (by decide +kernel)) (fun _ _ _ _ _ => (tup_at (K := K) rfl rfl (pgs_cons (pg_name (i := 1) scDd.nd rfl (Or.inl rfl)) (pgs_cons (pg_name (i := 2) scDd.nd rfl (Or.inl rfl)) pgs_nil)))) (fun _ _ _ _ _ => pts_nil) (fun _ _ _ _ _ => (pv 1)) (fun _ _ _ _ _ => (pv 2)))), ?_⟩
    refine ⟨.ref a, rfl, a, rfl, ⟨_, hD.1⟩, fun D nD => ?_⟩
    refine dcK_it (walk_tup (K := K) (a := a) (xs := ps.map fun p => V.ref p.1)) (fun i G => Same H G ∧ G D = some (.dK (byKV (ps.take i)))) ⟨same_new nD, upd_same⟩ (fun _ _ _ h => Same.sqT h.1 hD.1) (fun i x G G' hi h y => ?_) (fun G h => ?_)
    · obtain ⟨rfl, hx⟩ := y
      obtain ⟨p, hp, rfl⟩ := get_map hx
      obtain ⟨sG, eG⟩ := h
      have sz := ok.sz
      have hi := lt_of_get hp
      refine ⟨p.1, _, rfl, sqT_new (sG _ _ (hD.2 p (List.mem_of_getElem? hp))), rfl, _, _, rfl, _, _, rfl, rfl, rfl, ?_⟩
      refine ⟨_, rfl, _, rfl, _, Sum.inr p.2.1, rfl, eG, ?_, fun b o e => ?_, ?_⟩
      · rw [byKV_len, List.length_take]
        exact small (by omega)
      · rw [upd_ne (ne_of_none e nD)]
        exact sG _ _ e
      · rw [upd_same, putK_new, take_of_get hp]
        · unfold byKV
          rw [List.map_append]
          rfl
        · rw [byKV_keys]
          intro z
          obtain ⟨y, hy, e⟩ := List.mem_map.mp z
          rw [Sum.inr.inj e] at hy
          have nd := ok.nd
          rw [← List.take_append_drop i ps, List.map_append, drop_of_get hp, List.map_cons, List.nodup_append] at nd
          exact nd.2.2 _ hy _ List.mem_cons_self rfl
    · obtain ⟨sG, eG⟩ := h
      rw [List.length_map, List.take_of_length_le (Nat.le_refl _)] at eG
      exact q G D sG nD eG
def spDesksOf (K : PySem.W.Frag) : Sp := fun vs H Q _ => ∃ (a : Addr) (ps : List DP) (ds : List Str), vs = [.ref a] ∧ DealAt K H a ps ∧ DOk ps ∧ IsDesks ps ds ∧ ∀ H' q, Same H H' → H q = none → H' q = some (.tup (ds.map V.str)) → Q (.ref q) H'
abbrev nDo : List Str := ["dealing", "_", "desk"]
theorem scDo : FnScope nDo ["dealing"] (defScope sDesksOf) := ⟨rfl, rfl, rfl, by decide +kernel, rfl, by decide +kernel, by decide +kernel⟩
theorem ok_desksof {f : Addr} {fd : FuncData} (F : Fun K "desks_of" "desks_of" sDesksOf f fd) (N : Nones mg) : FnOk P w K mg base CX0 1 f fd ["dealing"] (spDesksOf K) := by
  refine F.ok scDo (fun vs H Q E h => ?_) (fun cdv A outer s H vs Q E hr h => ?_)
  · obtain ⟨a, ps, ds, rfl, _⟩ := h
    rfl
  · obtain ⟨a, ps, ds, rfl, hD, ok, isd, q⟩ := h
    refine ⟨_, pss_one (ps_ret (pe_callTy call_tuple_of (by rfl) N.tuple (by decide +kernel) (pa_cons (pe_callB (call_sortedD rfl) (by rfl) N.sorted (by decide +kernel) (pa_cons (pe_dc (own := [("_", 1), ("desk", 2)]) (g := gTup K 2 (gCons (gName 1) (gCons (gName 2) gNil))) (tt := tYes) rfl scDo.nd (pi_tup (pv 0)) (blkOk_by (own := [("_", 1), ("desk", 2)]) (N := nDo) (sc := defScope sDesksOf) (by decide +kernel)) (fun _ _ _ _ _ => (tup_at (K := K) rfl rfl (pgs_cons (pg_name (i := 1) scDo.nd rfl (Or.inl rfl)) (pgs_cons (pg_name (i := 2) scDo.nd rfl (Or.inl rfl)) pgs_nil)))) (fun _ _ _ _ _ => pts_nil) (fun _ _ _ _ _ => (pv 2)) (fun _ _ _ _ _ => pe_bl)) pa_nil)) pa_nil))), ?_⟩
    refine ⟨.ref a, rfl, a, rfl, ⟨_, hD.1⟩, fun D nD => ?_⟩
    refine dcK_it (walk_tup (K := K) (a := a) (xs := ps.map fun p => V.ref p.1)) (fun i G => Same H G ∧ G D = some (.dK (deedKV (uniq ((ps.take i).map (·.2.2)))))) ⟨same_new nD, upd_same⟩ (fun _ _ _ h => Same.sqT h.1 hD.1) (fun i x G G' hi h y => ?_) (fun G h => ?_)
    · obtain ⟨rfl, hx⟩ := y
      obtain ⟨p, hp, rfl⟩ := get_map hx
      obtain ⟨sG, eG⟩ := h
      have sz := ok.sz
      have hi := lt_of_get hp
      refine ⟨p.1, _, rfl, sqT_new (sG _ _ (hD.2 p (List.mem_of_getElem? hp))), rfl, _, _, rfl, _, _, rfl, rfl, rfl, ?_⟩
      refine ⟨_, rfl, _, Sum.inr p.2.2, rfl, eG, ?_, fun b o e => ?_, ?_⟩
      · rw [deedKV_len]
        have := uniq_len ((ps.take i).map (·.2.2))
        rw [List.length_map, List.length_take] at this
        exact small (by omega)
      · rw [upd_ne (ne_of_none e nD)]
        exact sG _ _ e
      · rw [upd_same, put_deed, take_of_get hp, List.map_append, List.map_singleton, uniq_snoc]
    · obtain ⟨sG, eG⟩ := h
      rw [List.length_map, List.take_of_length_le (Nat.le_refl _)] at eG
      have hl := uniq_len (ps.map (·.2.2))
      rw [List.length_map] at hl
      have sz := ok.sz
      refine ⟨D, _, uniq (ps.map (·.2.2)), rfl, .inl eG, deedKV_keys _, by omega, fun ys l hperm hs nl => ?_⟩
      have s2 := same_new (o := .lst (ys.map V.str)) nl
      obtain rfl : ys = ds := sorted_uniq hs isd.2 (hperm.trans isd.1.symm)
      refine ⟨l, _, rfl, .inl ⟨sqL_new upd_same, fun t nt => ?_⟩⟩
      exact q _ t ((sG.trans s2).trans (same_new nt)) ((sG.trans s2).free nt) upd_same
def spDeedsAt (K : PySem.W.Frag) : Sp := fun vs H Q _ => ∃ (a : Addr) (ps : List DP) (k : Str), vs = [.ref a, .str k] ∧ DealAt K H a ps ∧ DOk ps ∧ ∀ H' q, Same H H' → H q = none → H' q = some (.tup (((ps.filter fun p => decide (p.2.2 = k)).map (·.2.1)).map V.str)) → Q (.ref q) H'
abbrev nDa : List Str := ["dealing", "desk", "deed", "place"]
theorem scDa : FnScope nDa ["dealing", "desk"] (defScope sDeedsAt) := ⟨rfl, rfl, rfl, by decide +kernel, rfl, by decide +kernel, by decide +kernel⟩
theorem ok_deedsat {f : Addr} {fd : FuncData} (F : Fun K "deeds_at" "deeds_at" sDeedsAt f fd) (N : Nones mg) : FnOk P w K mg base CX0 1 f fd ["dealing", "desk"] (spDeedsAt K) := by
  refine F.ok scDa (fun vs H Q E h => ?_) (fun cdv A outer s H vs Q E hr h => ?_)
  · obtain ⟨a, ps, k, rfl, _⟩ := h
    rfl
  · obtain ⟨a, ps, k, rfl, hD, ok, q⟩ := h
    refine ⟨_, pss_one (ps_ret (pe_callTy call_tuple_of (by rfl) N.tuple (by decide +kernel) (pa_cons (pe_lc (own := [("deed", 2), ("place", 3)]) (g := gTup K 2 (gCons (gName 2) (gCons (gName 3) gNil))) rfl scDa.nd (pi_tup (pv 0)) (blkOk_by (own := [("deed", 2), ("place", 3)]) (N := nDa) (sc := defScope sDeedsAt) (by decide +kernel)) (fun _ _ _ _ _ => (tup_at (K := K) rfl rfl (pgs_cons (pg_name (i := 2) scDa.nd rfl (Or.inl rfl)) (pgs_cons (pg_name (i := 3) scDa.nd rfl (Or.inl rfl)) pgs_nil)))) (fun _ _ _ _ _ => pts_one (pt_cmpR op_eq (pv 3) (pv 1) (nomark _))) (fun _ _ _ _ _ => (pv 2))) pa_nil))), ?_⟩
    refine ⟨.ref a, rfl, a, rfl, ⟨_, hD.1⟩, fun D nD => ?_⟩
    refine lc_it (walk_tup (K := K) (a := a) (xs := ps.map fun p => V.ref p.1)) (fun i G => Same H G ∧ G D = some (.lst ((((ps.take i).filter fun p => decide (p.2.2 = k)).map (·.2.1)).map V.str))) ⟨same_new nD, upd_same⟩ (fun _ _ _ h => Same.sqT h.1 hD.1) (fun i x G G' hi h y => ?_) (fun G h => ?_)
    · obtain ⟨rfl, hx⟩ := y
      obtain ⟨p, hp, rfl⟩ := get_map hx
      obtain ⟨sG, eG⟩ := h
      have sz := ok.sz
      have hi := lt_of_get hp
      refine ⟨p.1, _, rfl, sqT_new (sG _ _ (hD.2 p (List.mem_of_getElem? hp))), rfl, _, _, rfl, _, _, rfl, rfl, rfl, ?_⟩
      refine ⟨_, rfl, _, rfl, rfl, _, rfl, ite2 (fun c => ?_) (fun c => ?_)⟩
      · have c : p.2.2 = k := by
          have := of_decide_eq_true c
          injection this
        refine ⟨_, rfl, _, eG, ?_, fun b o e => ?_, ?_⟩
        · have := List.length_filter_le (fun p : DP => decide (p.2.2 = k)) (ps.take i)
          rw [List.length_map, List.length_map]
          rw [List.length_take] at this
          exact small (by omega)
        · rw [upd_ne (ne_of_none e nD)]
          exact sG _ _ e
        · rw [upd_same, take_of_get hp, List.filter_append, List.map_append, List.map_append]
          simp [c]
      · have c : ¬ p.2.2 = k := fun e => c (decide_eq_true (by rw [e]))
        refine ⟨sG, ?_⟩
        rw [eG, take_of_get hp, List.filter_append, List.map_append, List.map_append]
        simp [c]
    · obtain ⟨sG, eG⟩ := h
      rw [List.length_map, List.take_of_length_le (Nat.le_refl _)] at eG
      refine ⟨D, _, rfl, .inl ⟨sqL_new eG, fun t nt => ?_⟩⟩
      exact q _ t (sG.trans (same_new nt)) (sG.free nt) upd_same
end
end Kb
namespace Kb
open PySem PySem.Spec PyProof.Rows L2
theorem bad_some {ps : List DP} {us : List Str} {i : Nat} {x : Str} (h : us[i]? = some x) (hx : deskOf ps x = none) (hb : ∀ (j : Nat) (y : Str), j < i → us[j]? = some y → (deskOf ps y).isSome = true) : bad ps us = some i := by
  obtain ⟨h1, h2⟩ := List.getElem?_eq_some_iff.mp h
  refine List.findIdx?_eq_some_iff_getElem.mpr ⟨h1, ?_, fun j hj => ?_⟩
  · rw [h2, hx]
    rfl
  · have := hb j (us[j]'(by omega)) hj (List.getElem?_eq_getElem _)
    cases e : deskOf ps (us[j]'(by omega)) with
    | none =>
      rw [e] at this
      cases this
    | some k => simp
theorem bad_no {ps : List DP} {us : List Str} (hb : ∀ (j : Nat) (y : Str), us[j]? = some y → (deskOf ps y).isSome = true) : bad ps us = none := by
  refine List.findIdx?_eq_none_iff.mpr fun x hx => ?_
  obtain ⟨j, hj⟩ := List.getElem?_of_mem hx
  have := hb j x hj
  cases e : deskOf ps x with
  | none =>
    rw [e] at this
    cases this
  | some k => rfl
section
variable {P : Program} {w : World} {K : PySem.W.Frag} {mg : Str → Option Value} {base : Heap}
def spDeskOf (K : PySem.W.Frag) : Sp := fun vs H Q _ => ∃ (a : Addr) (ps : List DP) (d : Str), vs = [.ref a, .str d] ∧ DealAt K H a ps ∧ DOk ps ∧ ∀ H', Same H H' → Q (((deskOf ps d).map V.str).getD .non) H'
abbrev nDf : List Str := ["dealing", "deed"]
theorem scDf : FnScope nDf ["dealing", "deed"] (defScope sDeskOf) := ⟨rfl, rfl, rfl, by decide +kernel, rfl, by decide +kernel, by decide +kernel⟩
theorem ok_deskof {f fB : Addr} {fd fdB : FuncData} (F : Fun K "desk_of" "desk_of" sDeskOf f fd) (N : Nones mg) (G_desks_by_deed : FnOk P w K mg base CX0 1 fB fdB ["dealing"] (spByDeed K)) (C_desks_by_deed : CallC K mg "desks_by_deed" ["dealing"] fB fdB) : FnOk P w K mg base CX0 2 f fd ["dealing", "deed"] (spDeskOf K) := by
  refine F.ok scDf (fun vs H Q E h => ?_) (fun cdv A outer s H vs Q E hr h => ?_)
  · obtain ⟨a, ps, d, rfl, _⟩ := h
    rfl
  · obtain ⟨a, ps, d, rfl, hD, ok, q⟩ := h
    refine ⟨_, pss_one (ps_ret (pe_dget1 (hu_of hr) (pe_call G_desks_by_deed (hr.mono (by decide)) (by rfl) C_desks_by_deed.g C_desks_by_deed.kp C_desks_by_deed.b .nil pass0 (pa_cons (pv 0) pa_nil)) (pv 1) ⟨rfl, rfl, rfl, rfl⟩)), ?_⟩
    refine ⟨.ref a, rfl, a, ps, rfl, hD, ok, fun H1 D s1 nD eD => ?_⟩
    refine ⟨D, rfl, .inl ⟨_, .inl eD⟩, _, rfl, _, DGet.k (k := Sum.inr d) eD, ?_⟩
    rw [valV_by]
    exact q H1 s1
/-- a row asked for by a dealing: refused at its first stranger -/
def spChDeeds (K : PySem.W.Frag) (C : Addr) : Sp := fun vs H Q E => ∃ (d r : Addr) (ps : List DP) (us : List Str), vs = [.ref d, .ref r] ∧ H d = some (.dK (byKV ps)) ∧ SqT K H r (us.map V.str) ∧ (bad ps us = none → ∀ H', Same H H' → Q .non H') ∧ (∀ i : Nat, bad ps us = some i → AtW C E H (i : Int))
abbrev nCk : List Str := ["desks", "row", "at", "deed"]
theorem scCk : FnScope nCk ["desks", "row"] (defScope sChDeeds) := ⟨rfl, rfl, rfl, by decide +kernel, rfl, by decide +kernel, by decide +kernel⟩
theorem ok_chdeeds {f C fE : Addr} {fd fdE : FuncData} (R : RowC K mg C fE fdE) (F : Fun K "check_deeds" "check_deeds" sChDeeds f fd) (N : Nones mg) : FnOk P w K mg base (L2.CX P w) 3 f fd ["desks", "row"] (spChDeeds K C) := by
  have GE : FnOk P w K mg base CX0 1 fE fdE ["self", "at"] (spAtInit C) := ok_rowinit R
  refine F.okX scCk (fun vs H Q E h => ?_) (fun cdv A outer s H vs Q E hr h => ?_)
  · obtain ⟨d, r, ps, us, rfl, _⟩ := h
    rfl
  · obtain ⟨d, r, ps, us, rfl, hd, hR, q, qE⟩ := h
    refine ⟨_, pss_one (ps_for (passes_of rfl) rfl (Ka.pi_enumT (by rfl) N.enumerate (pa_cons (pv 1) pa_nil)) (pg_tup rfl (pgs_cons (pg_name (i := 2) scCk.nd rfl (Or.inl rfl)) (pgs_cons (pg_name (i := 3) scCk.nd rfl (Or.inl rfl)) pgs_nil)))
        (pss_one (ps_if (pt_cmp (pc_dnotin (hu_of hr) (pv 3) (pv 0))) (pss_one (ps_raise rfl (takes_of rfl rfl rfl rfl) (pmk_oex R.oex R.iC R.tI GE hr R.b .nil pass0 (by rfl) R.gC (pa_cons (pv 2) pa_nil)))) pss_nil))), ?_⟩
    refine ⟨_, rfl, r, _, rfl, hR, ?_⟩
    refine for_it (walk_enumT (K := K) (a := r) (xs := us.map V.str)) (fun i σ G => ∃ x2 x3 : Option V, σ = [some (.ref d), some (.ref r), x2, x3] ∧ Same H G ∧ ∀ (j : Nat) (y : Str), j < i → us[j]? = some y → (deskOf ps y).isSome = true) ⟨none, none, rfl, fun _ _ h => h, fun j y hj => absurd hj (Nat.not_lt_zero _)⟩ (fun i σ G _ h => ?_) (fun i x σ G G' hi h y => ?_) (fun σ G h => ?_)
    · obtain ⟨_, _, _, sG, _⟩ := h
      exact Same.sqT sG hR
    · obtain ⟨T, z, v, rfl, nT, rfl, hz, hv⟩ := y
      obtain ⟨x2, x3, rfl, sG, hall⟩ := h
      cases hz
      obtain ⟨x, hx, rfl⟩ := get_map hv
      have sT := same_new (o := .tup [V.int (i : Nat), V.str x]) nT
      have s2 := sG.trans sT
      refine ⟨T, _, rfl, sqT_new upd_same, rfl, _, _, rfl, _, _, rfl, rfl, ?_⟩
      refine ⟨_, rfl, _, rfl, d, _, rfl, DGet.k (k := Sum.inr x) (s2 _ _ hd), _, rfl, ?_⟩
      rw [valV_by]
      cases e : deskOf ps x with
      | none =>
        refine iteYes rfl ?_
        refine ⟨_, rfl, atW_mk ((qE i (bad_some hx e hall)).mono s2)⟩
      | some k =>
        refine iteNo rfl ?_
        refine ⟨_, _, rfl, s2, fun j y hj hy => ?_⟩
        by_cases h2 : j = i
        · subst h2
          rw [hx] at hy
          cases hy
          rw [e]
          rfl
        · exact hall j y (by omega) hy
    · obtain ⟨_, _, rfl, sG, hall⟩ := h
      refine q (bad_no fun j y hy => hall j y (by rw [List.length_map]; exact lt_of_get hy) hy) G sG
def spPart (K : PySem.W.Frag) (C : Addr) : Sp := fun vs H Q E => ∃ (a r : Addr) (k : Str) (ps : List DP) (us : List Str), vs = [.ref a, .str k, .ref r] ∧ DealAt K H a ps ∧ DOk ps ∧ SqT K H r (us.map V.str) ∧ us.length ≤ 1000 ∧ (bad ps us = none → ∀ H' p, Same H H' → H p = none → H' p = some (.tup ((partL ps k us).map V.str)) → Q (.ref p) H') ∧ (∀ i : Nat, bad ps us = some i → AtW C E H (i : Int))
abbrev nPa : List Str := ["dealing", "desk", "row", "desks", "deed"]
theorem scPa : FnScope nPa ["dealing", "desk", "row"] (defScope sPart) := ⟨rfl, rfl, rfl, by decide +kernel, rfl, by decide +kernel, by decide +kernel⟩
theorem ok_part {f C fE fB fK : Addr} {fd fdE fdB fdK : FuncData} (F : Fun K "part" "part" sPart f fd) (N : Nones mg) (G_desks_by_deed : FnOk P w K mg base CX0 1 fB fdB ["dealing"] (spByDeed K)) (C_desks_by_deed : CallC K mg "desks_by_deed" ["dealing"] fB fdB) (G_check_deeds : FnOk P w K mg base (L2.CX P w) 3 fK fdK ["desks", "row"] (spChDeeds K C)) (C_check_deeds : CallC K mg "check_deeds" ["desks", "row"] fK fdK) : FnOk P w K mg base (L2.CX P w) 4 f fd ["dealing", "desk", "row"] (spPart K C) := by
  refine F.okX scPa (fun vs H Q E h => ?_) (fun cdv A outer s H vs Q E hr h => ?_)
  · obtain ⟨a, r, k, ps, us, rfl, _⟩ := h
    rfl
  · obtain ⟨a, r, k, ps, us, rfl, hD, ok, hR, hz, q, qE⟩ := h
    refine ⟨_, pss_cons (ps_set (i := 3) scPa.nd rfl (Or.inr rfl) (pe_call G_desks_by_deed (hr.mono (by decide)) (by rfl) C_desks_by_deed.g C_desks_by_deed.kp C_desks_by_deed.b .nil pass0 (pa_cons (pv 0) pa_nil)))
      (pss_cons (ps_expr (pe_call G_check_deeds (hr.mono (by decide)) (by rfl) C_check_deeds.g C_check_deeds.kp C_check_deeds.b .nil (passes_call (takes_of rfl rfl rfl rfl) (fun _ _ _ _ h => h)) (pa_cons (pv 3) (pa_cons (pv 2) pa_nil))))
      (pss_one (ps_ret (pe_callTy call_tuple_of (by rfl) N.tuple (by decide +kernel) (pa_cons (pe_lc (own := [("deed", 4)]) (g := gName 4) rfl scPa.nd (pi_tup (pv 2)) (blkOk_by (own := [("deed", 4)]) (N := nPa) (sc := defScope sPart) (by decide +kernel)) (fun _ _ _ _ _ => (pg_name (i := 4) scPa.nd rfl (Or.inl rfl))) (fun _ _ _ _ _ => pts_one (pt_cmpR op_eq (pe_dget (hu_of hr) (pv 3) (pv 4) (fun _ _ => rfl)) (pv 1) (nomark _))) (fun _ _ _ _ _ => (pv 4))) pa_nil))))), ?_⟩
    refine ⟨_, rfl, a, ps, rfl, hD, ok, fun H1 D s1 nD eD => ?_⟩
    refine ⟨_, rfl, _, rfl, D, r, ps, us, rfl, eD, Same.sqT s1 hR, fun hb H2 s2 => ?_, fun i hi => (qE i hi).mono s1⟩
    refine ⟨_, rfl, r, rfl, ⟨_, Same.sqT (s1.trans s2) hR⟩, fun L nL => ?_⟩
    have s12 := s1.trans s2
    refine lc_it (walk_tup (K := K) (a := r) (xs := us.map V.str)) (fun i G => Same H2 G ∧ G L = some (.lst ((partL ps k (us.take i)).map V.str))) ⟨same_new nL, upd_same⟩ (fun _ _ _ h => Same.sqT h.1 (Same.sqT s12 hR)) (fun i x G G' hi h y => ?_) (fun G h => ?_)
    · obtain ⟨rfl, hy⟩ := y
      obtain ⟨x, hx, rfl⟩ := get_map hy
      obtain ⟨sG, eG⟩ := h
      obtain ⟨k2, hk⟩ := bad_none hb (List.mem_of_getElem? hx)
      refine ⟨rfl, _, rfl, _, rfl, D, .str k2, rfl, ?_, _, rfl, rfl, _, rfl, ite2 (fun c => ?_) (fun c => ?_)⟩
      · have := DGet.k (k := Sum.inr x) (sG _ _ (s2 _ _ eD))
        rw [valV_by, hk] at this
        exact this
      · have c : k2 = k := by
          have := of_decide_eq_true c
          injection this
        refine ⟨_, rfl, _, eG, ?_, fun b o e => ?_, ?_⟩
        · have := List.length_filter_le (fun x => decide (deskOf ps x = some k)) (us.take i)
          rw [List.length_take] at this
          rw [List.length_map]
          unfold partL
          exact small (by omega)
        · rw [upd_ne (ne_of_none e nL)]
          exact sG _ _ e
        · rw [upd_same, partL_snoc hx, hk, c, if_pos rfl, List.map_append]
          rfl
      · have c : ¬ k2 = k := fun e => c (decide_eq_true (by rw [e]))
        refine ⟨sG, ?_⟩
        rw [eG, partL_snoc hx, hk, if_neg (fun e => c (Option.some.inj e)), List.append_nil]
    · obtain ⟨sG, eG⟩ := h
      rw [List.length_map, List.take_of_length_le (Nat.le_refl _)] at eG
      refine ⟨L, _, rfl, .inl ⟨sqL_new eG, fun t nt => ?_⟩⟩
      have s3 := (s12.trans sG).trans (same_new (o := .tup ((partL ps k us).map V.str)) nt)
      exact q hb _ t s3 ((s12.trans sG).free nt) upd_same
end
end Kb
namespace Kb
open PySem PySem.Spec PyProof.Rows L2
/-! ### within -/
section
variable {α : Type} [DecidableEq α]
def sub : List α → List α → Bool
  | [], _ => true
  | _ :: _, [] => false
  | d :: u, e :: z => if d = e then sub u z else sub (d :: u) z
theorem sub_none {d : α} {u : List α} : ∀ {z : List α}, (∀ k : Nat, z[k]? ≠ some d) → sub (d :: u) z = false
  | [], _ => rfl
  | e :: z, h => by
    have h0 : e ≠ d := fun x => h 0 (by rw [x]; rfl)
    rw [sub, if_neg (fun x => h0 x.symm)]
    exact sub_none fun k => by
      have := h (k + 1)
      simpa using this
theorem sub_hit {d : α} {u : List α} : ∀ {z : List α} {j : Nat}, z[j]? = some d → (∀ k : Nat, k < j → z[k]? ≠ some d) → sub (d :: u) z = sub u (z.drop (j + 1))
  | [], j, h, _ => by simp at h
  | e :: z, 0, h, _ => by
    have e1 : e = d := by simpa using h
    rw [sub, if_pos e1.symm]
    rfl
  | e :: z, j + 1, h, h2 => by
    have h0 : e ≠ d := fun x => h2 0 (Nat.succ_pos _) (by rw [x]; rfl)
    rw [sub, if_neg (fun x => h0 x.symm), List.drop_succ_cons]
    exact sub_hit (by simpa using h) fun k hk => by
      have := h2 (k + 1) (Nat.succ_lt_succ hk)
      simpa using this
theorem first_at (x : α) : ∀ l : List α, (∀ k : Nat, l[k]? ≠ some x) ∨ ∃ m : Nat, l[m]? = some x ∧ ∀ k : Nat, k < m → l[k]? ≠ some x
  | [] => .inl fun k h => by simp at h
  | e :: l => by
    by_cases h : e = x
    · exact .inr ⟨0, by rw [h]; rfl, fun k hk => absurd hk (Nat.not_lt_zero k)⟩
    · have h0 : (e :: l)[0]? ≠ some x := fun z => h (Option.some.inj z)
      rcases first_at x l with hn | ⟨m, h1, h2⟩
      · refine .inl fun k => ?_
        cases k with
        | zero => exact h0
        | succ k => simpa using hn k
      · refine .inr ⟨m + 1, by simpa using h1, fun k hk => ?_⟩
        cases k with
        | zero => exact h0
        | succ k => simpa using h2 k (Nat.lt_of_succ_lt_succ hk)
end
section
variable {P : Program} {w : World} {K : PySem.W.Frag} {mg : Str → Option Value} {base : Heap}
theorem scWithin : FnScope ["u", "v", "rest", "deed"] ["u", "v"] (defScope sWithin) := ⟨rfl, rfl, rfl, by decide +kernel, rfl, by decide +kernel, by decide +kernel⟩
def spWithin (K : PySem.W.Frag) : Sp := fun vs H Q _ => ∃ (a b : Addr) (us zs : List Str), vs = [.ref a, .ref b] ∧ SqT K H a (us.map V.str) ∧ SqT K H b (zs.map V.str) ∧ ∀ H', Same H H' → Q (.bl (sub us zs)) H'
theorem ok_within {f : Addr} {fd : FuncData} (F : Fun K "within" "within" sWithin f fd) (mi : mg "iter" = none) : FnOk P w K mg base CX0 1 f fd ["u", "v"] (spWithin K) := by
  refine F.ok scWithin (fun vs H Q E h => ?_) (fun cdv A outer s H vs Q E hr h => ?_)
  · obtain ⟨a, b, us, zs, rfl, _⟩ := h
    rfl
  · obtain ⟨a, b, us, zs, rfl, hA, hB, q⟩ := h
    refine ⟨_, pss_cons (ps_set (i := 2) scWithin.nd rfl (.inl rfl) (pe_callB Ka.call_iterT (by rfl) mi (by decide +kernel) (pa_cons (pv 1) pa_nil)))
      (pss_cons (ps_for PassesOwn.never rfl (pi_tup (pv 0)) (pg_name (i := 3) scWithin.nd rfl (.inl rfl))
        (pss_one (ps_if (pt_not (pt_cmpR (Ka.op_inTI rfl) (pv 3) (pv 2) rfl)) (pss_one (ps_ret pe_bl)) pss_nil)))
      (pss_one (ps_ret pe_bl))), ?_⟩
    refine ⟨.ref b, rfl, b, zs.map V.str, rfl, hB, fun it nit hle => ?_⟩
    refine ⟨.ref a, rfl, a, rfl, ⟨_, Same.sqT (same_new nit) hA⟩, ?_⟩
    have nab : ∀ c o, H c = some o → c ≠ it := fun c o e => ne_of_none e nit
    refine for_tup (K := K) (a := a) (xs := us.map V.str) (fun i σ H' => ∃ (d : Option V) (j : Nat), σ = [some (.ref a), some (.ref b), some (.ref it), d] ∧ Same H H' ∧ H' it = some (Ka.TupI b it j) ∧ sub us zs = sub (us.drop i) (zs.drop j))
      ⟨none, 0, rfl, same_new nit, upd_same, rfl⟩ (fun i σ H' _ ⟨_, _, _, sm, _⟩ => Same.sqT sm hA) ?_ ?_
    · rintro i x σ H' hx ⟨d, j, rfl, sm, hit, eq⟩
      obtain ⟨z, hz, rfl⟩ := get_map hx
      rw [drop_of_get hz] at eq
      refine ⟨.str z, rfl, .ref it, rfl, z, it, b, zs, j, rfl, rfl, hle, hit, Same.sqT sm hB, ?_⟩
      have ne : ∀ c o, H c = some o → c ≠ it := fun c o e => ne_of_none e nit
      rcases first_at z (zs.drop j) with hn | ⟨m, h1, h2⟩
      · rw [sub_none hn] at eq
        rw [eq] at q
        refine .inr ⟨fun k hk hz' => hn (k - j) (by rw [List.getElem?_drop, Nat.add_sub_cancel' hk]; exact hz'), false, rfl, q _ fun c o e => ?_⟩
        rw [ItX.dropH_ne (ne c o e)]
        exact sm c o e
      · rw [sub_hit h1 h2, List.drop_drop] at eq
        rw [List.getElem?_drop] at h1
        refine .inl ⟨j + m, Nat.le_add_right _ _, h1, fun k hk hk2 hz' => h2 (k - j) (by omega) (by rw [List.getElem?_drop, Nat.add_sub_cancel' hk]; exact hz'), true, rfl, ?_⟩
        refine ⟨_, j + m + 1, rfl, fun c o e => ?_, upd_same, eq⟩
        rw [upd_ne (ne c o e)]
        exact sm c o e
    · rintro σ H' ⟨d, j, rfl, sm, hit, eq⟩
      rw [List.length_map, List.drop_length] at eq
      have e : sub us zs = true := by rw [eq, sub]
      rw [e] at q
      exact q H' sm
end
end Kb
namespace Kb
open PySem PySem.Spec PyProof.Rows L2
/-! ### parts -/
abbrev SA := Str × Addr
def saKV (T : List SA) : List (L2.Key × V) := T.map fun t => (Sum.inr t.1, V.ref t.2)
theorem saKV_keys (T : List SA) : (saKV T).map (·.1) = (T.map (·.1)).map Sum.inr := by
  unfold saKV
  rw [List.map_map, List.map_map]
  rfl
theorem nd_map {α β : Type} {f : α → β} (inj : ∀ a b, f a = f b → a = b) {l : List α} (h : l.Nodup) : (l.map f).Nodup := by
  unfold List.Nodup at h ⊢
  rw [List.pairwise_map]
  exact h.imp fun ne e => ne (inj _ _ e)
theorem saKV_len (T : List SA) : (saKV T).length = T.length := List.length_map _
theorem sa_get {T : List SA} (nd : (T.map (·.1)).Nodup) {t : SA} (h : t ∈ T) : valV (saKV T) (Sum.inr t.1 : L2.Key) = some (.ref t.2) := valV_mem (by
  rw [saKV_keys]
  exact nd_map (fun a b e => Sum.inr.inj e) nd) (List.mem_map.mpr ⟨t, h, rfl⟩)
/-- the lists of the desks, the first i deeds told -/
structure PLs (H G : Hp) (D : Addr) (ps : List DP) (us : List Str) (i : Nat) (T : List SA) : Prop where
  st : ∀ t ∈ T, G t.2 = some (.lst ((partL ps t.1 (us.take i)).map V.str)) ∧ H t.2 = none ∧ t.2 ≠ D
  nd : (T.map (·.2)).Nodup
theorem PLs.mono {H G G' : Hp} {D : Addr} {ps : List DP} {us : List Str} {i : Nat} {T : List SA} (h : PLs H G D ps us i T) (s : ∀ t ∈ T, ∀ o, G t.2 = some o → G' t.2 = some o) : PLs H G' D ps us i T := ⟨fun t ht => ⟨s t ht _ (h.st t ht).1, (h.st t ht).2⟩, h.nd⟩
/-- a part where it stands: the pair, its desk, its row -/
abbrev PT3 := Addr × Str × Addr
def PtAt (H : Hp) (q : Addr) (ps : List DP) (us : List Str) (ds : List Str) : Prop :=
  ∃ L : List PT3, H q = some (.tup (L.map fun t => V.ref t.1)) ∧ L.map (·.2.1) = ds ∧ ∀ t ∈ L, H t.1 = some (.tup [.str t.2.1, .ref t.2.2]) ∧ H t.2.2 = some (.tup ((partL ps t.2.1 us).map V.str))
theorem PtAt.mono {H H' : Hp} {q : Addr} {ps : List DP} {us ds : List Str} (s : Same H H') (h : PtAt H q ps us ds) : PtAt H' q ps us ds := by
  obtain ⟨L, h1, h2, h3⟩ := h
  exact ⟨L, s _ _ h1, h2, fun t ht => ⟨s _ _ (h3 t ht).1, s _ _ (h3 t ht).2⟩⟩
theorem deskOf_mem {ps : List DP} {d k : Str} (h : deskOf ps d = some k) : k ∈ ps.map (·.2.2) := by
  induction ps with
  | nil => cases h
  | cons p ps ih =>
    unfold deskOf at h
    split at h
    · cases h
      exact List.mem_cons_self
    · exact List.mem_cons_of_mem _ (ih h)
theorem isd_mem {ps : List DP} {ds : List Str} (h : IsDesks ps ds) (k : Str) : k ∈ ds ↔ k ∈ ps.map (·.2.2) := h.1.mem_iff.trans (mem_uniq _ _)
theorem isd_nd {ps : List DP} {ds : List Str} (h : IsDesks ps ds) : ds.Nodup := h.1.nodup_iff.mpr (uniq_nd _)
theorem isd_len {ps : List DP} {ds : List Str} (h : IsDesks ps ds) : ds.length ≤ ps.length := by
  have := uniq_len (ps.map (·.2.2))
  rw [List.length_map] at this
  rw [h.1.length_eq]
  exact this
theorem partL_len (ps : List DP) (k : Str) (us : List Str) : (partL ps k us).length ≤ us.length := List.length_filter_le _ _
section
variable {P : Program} {w : World} {K : PySem.W.Frag} {mg : Str → Option Value} {base : Heap}
def spParts (K : PySem.W.Frag) (C : Addr) : Sp := fun vs H Q E => ∃ (a r : Addr) (ps : List DP) (us ds : List Str), vs = [.ref a, .ref r] ∧ DealAt K H a ps ∧ DOk ps ∧ IsDesks ps ds ∧ SqT K H r (us.map V.str) ∧ us.length ≤ 1000 ∧ (bad ps us = none → ∀ H' p, Same H H' → H p = none → PtAt H' p ps us ds → Q (.ref p) H') ∧ (∀ i : Nat, bad ps us = some i → AtW C E H (i : Int))
abbrev nPs : List Str := ["dealing", "row", "desks", "found", "deed", "desk"]
theorem scPs : FnScope nPs ["dealing", "row"] (defScope sParts) := ⟨rfl, rfl, rfl, by decide +kernel, rfl, by decide +kernel, by decide +kernel⟩
theorem ok_parts {f C fB fK fD : Addr} {fd fdB fdK fdD : FuncData} (F : Fun K "parts" "parts" sParts f fd) (N : Nones mg) (G_desks_by_deed : FnOk P w K mg base CX0 1 fB fdB ["dealing"] (spByDeed K)) (C_desks_by_deed : CallC K mg "desks_by_deed" ["dealing"] fB fdB) (G_check_deeds : FnOk P w K mg base (L2.CX P w) 3 fK fdK ["desks", "row"] (spChDeeds K C)) (C_check_deeds : CallC K mg "check_deeds" ["desks", "row"] fK fdK)
    (G_desks_of : FnOk P w K mg base CX0 1 fD fdD ["dealing"] (spDesksOf K)) (C_desks_of : CallC K mg "desks_of" ["dealing"] fD fdD) : FnOk P w K mg base (L2.CX P w) 4 f fd ["dealing", "row"] (spParts K C) := by
  refine F.okX scPs (fun vs H Q E h => ?_) (fun cdv A outer s H vs Q E hr h => ?_)
  · obtain ⟨a, r, ps, us, ds, rfl, _⟩ := h
    rfl
  · obtain ⟨a, r, ps, us, ds, rfl, hD, ok, isd, hR, hz, q, qE⟩ := h
    refine ⟨_, pss_cons (ps_set (i := 2) scPs.nd rfl (Or.inl rfl) (pe_call G_desks_by_deed (hr.mono (by decide)) (by rfl) C_desks_by_deed.g C_desks_by_deed.kp C_desks_by_deed.b .nil pass0 (pa_cons (pv 0) pa_nil)))
      (pss_cons (ps_expr (pe_call G_check_deeds (hr.mono (by decide)) (by rfl) C_check_deeds.g C_check_deeds.kp C_check_deeds.b .nil (passes_call (takes_of rfl rfl rfl rfl) (fun _ _ _ _ h => h)) (pa_cons (pv 2) (pa_cons (pv 1) pa_nil))))
      (pss_cons (ps_set (i := 3) scPs.nd rfl (Or.inr rfl) (pe_dc (own := [("desk", 5)]) (g := gName 5) (tt := tYes) rfl scPs.nd (pi_tup (pe_call G_desks_of (hr.mono (by decide)) (by rfl) C_desks_of.g C_desks_of.kp C_desks_of.b .nil pass0 (pa_cons (pv 0) pa_nil))) (blkOk_by (own := [("desk", 5)]) (N := nPs) (sc := defScope sParts) (by decide +kernel)) (fun _ _ _ _ _ => (pg_name (i := 5) scPs.nd rfl (Or.inl rfl))) (fun _ _ _ _ _ => pts_nil) (fun _ _ _ _ _ => (pv 5)) (fun _ _ _ _ _ => (pe_lst pa_nil))))
      (pss_cons (ps_for (passes_of rfl) rfl (pi_tup (pv 1)) (pg_name (i := 4) scPs.nd rfl (Or.inl rfl))
        (pss_one (ps_expr (pe_bm PySem.F.plainAttrs_list PySem.F.slot_list_append PySem.F.type_list_append mt_append (pe_dget (hu_of hr) (pv 3) (pe_dget (hu_of hr) (pv 2) (pv 4) (fun _ _ => rfl)) (fun _ _ => rfl)) (pa_cons (pv 4) pa_nil)))))
      (pss_one (ps_ret (pe_callTy call_tuple_of (by rfl) N.tuple (by decide +kernel) (pa_cons (pe_lock (pe_lc (own := [("desk", 5)]) (g := gName 5) (tt := tYes) rfl scPs.nd (pi_keys (pv 3)) (blkOk_by (own := [("desk", 5)]) (N := nPs) (sc := defScope sParts) (by decide +kernel)) (fun _ _ _ _ _ => (pg_name (i := 5) scPs.nd rfl (Or.inl rfl))) (fun _ _ _ _ _ => pts_nil) (fun _ _ _ _ _ => (pe_tup (pa_cons (pv 5) (pa_cons (pe_callTy (tupOf_at (K := K) rfl) (by rfl) N.tuple (by decide +kernel) (pa_cons (pe_dget (hu_of hr) (pv 3) (pv 5) (fun _ _ => rfl)) pa_nil)) pa_nil)))))) pa_nil))))))), ?_⟩
    refine ⟨_, rfl, a, ps, rfl, hD, ok, fun H1 D0 s1 nD0 eD0 => ?_⟩
    refine ⟨_, rfl, _, rfl, D0, r, ps, us, rfl, eD0, Same.sqT s1 hR, fun hb H2 s2 => ?_, fun i hi => (qE i hi).mono s1⟩
    have s12 := s1.trans s2
    refine ⟨_, rfl, a, ps, ds, rfl, hD.mono s12, ok, isd, fun H3 qd s3 nqd eqd => ?_⟩
    refine ⟨qd, rfl, ⟨_, sqT_new eqd⟩, fun D nD => ?_⟩
    have s13 := s12.trans s3
    have dn := isd_nd isd
    have dl := isd_len isd
    have sz := ok.sz
    refine dcK_it (walk_tup (K := K) (a := qd) (xs := ds.map V.str)) (fun i G => ∃ T : List SA, Same H3 G ∧ G D = some (.dK (saKV T)) ∧ T.map (·.1) = ds.take i ∧ PLs H3 G D ps us 0 T) ⟨[], same_new nD, upd_same, rfl, ⟨(fun t ht => nomatch ht), List.nodup_nil⟩⟩ (fun _ _ _ h => Same.sqT h.choose_spec.1 (sqT_new eqd)) (fun i x G G' hi h y => ?_) (fun G h => ?_)
    · obtain ⟨rfl, hy⟩ := y
      obtain ⟨k, hk, rfl⟩ := get_map hy
      obtain ⟨T, sG, eG, kT, lT⟩ := h
      refine ⟨rfl, _, rfl, Nat.zero_le _, fun l nl => ?_⟩
      have sl := same_new (o := .lst []) nl
      have el : upd G' l (.lst []) l = some (.lst []) := upd_same
      have nT : ∀ t ∈ T, t.2 ≠ l := fun t ht => ne_of_none (lT.st t ht).1 nl
      have lD : l ≠ D := fun z => by rw [z, eG] at nl; cases nl
      have nlH := sG.free nl
      have lenT : T.length ≤ 12 := by
        have := congrArg List.length kT
        rw [List.length_map, List.length_take] at this
        omega
      refine ⟨saKV T, Sum.inr k, rfl, sl _ _ eG, by rw [saKV_len]; exact small (by omega), T ++ [(k, l)], fun b o e => ?_, ?_, ?_, ⟨fun t ht => ?_, ?_⟩⟩
      · rw [upd_ne (ne_of_none e nD)]
        exact sl _ _ (sG _ _ e)
      · rw [upd_same, putK_new]
        · unfold saKV
          rw [List.map_append]
          rfl
        · rw [saKV_keys, kT]
          intro z
          obtain ⟨y, hy, e⟩ := List.mem_map.mp z
          rw [Sum.inr.inj e] at hy
          rw [← List.take_append_drop i ds, drop_of_get hk, List.nodup_append] at dn
          exact dn.2.2 _ hy _ List.mem_cons_self rfl
      · rw [List.map_append, kT, take_of_get hk]
        rfl
      · rcases List.mem_append.mp ht with z | z
        · obtain ⟨a1, a2, a3⟩ := lT.st t z
          exact ⟨by rw [upd_ne a3]; exact sl _ _ a1, a2, a3⟩
        · rw [List.mem_singleton.mp z]
          exact ⟨by rw [upd_ne lD]; exact el, nlH, lD⟩
      · rw [List.map_append, List.nodup_append]
        refine ⟨lT.nd, by simp, fun b hb c hc e => ?_⟩
        obtain ⟨t, ht, rfl⟩ := List.mem_map.mp hb
        rw [List.map_singleton, List.mem_singleton] at hc
        exact nT t ht (e.trans hc)
    · obtain ⟨T, sG, eG, kT, lT⟩ := h
      rw [List.length_map, List.take_of_length_le (Nat.le_refl _)] at kT
      have kn : (T.map (·.1)).Nodup := by rw [kT]; exact dn
      have lenT : T.length ≤ 12 := by
        have := congrArg List.length kT
        rw [List.length_map] at this
        omega
      have nDH : H3 D = none := nD
      refine ⟨_, rfl, r, rfl, ⟨_, Same.sqT (s13.trans sG) hR⟩, ?_⟩
      refine for_it (walk_tup (K := K) (a := r) (xs := us.map V.str)) (fun i σ Z => ∃ (x4 x5 : Option V), σ = [some (.ref a), some (.ref r), some (.ref D0), some (.ref D), x4, x5] ∧ Same H3 Z ∧ Z D = some (.dK (saKV T)) ∧ PLs H3 Z D ps us i T) ⟨none, none, rfl, sG, eG, lT⟩ (fun i σ Z _ h => ?_) (fun i x σ Z Z' hi h y => ?_) (fun σ Z h => ?_)
      · obtain ⟨_, _, _, sZ, _⟩ := h
        exact Same.sqT (s13.trans sZ) hR
      · obtain ⟨rfl, hy⟩ := y
        obtain ⟨x, hx, rfl⟩ := get_map hy
        obtain ⟨x4, x5, rfl, sZ, eZ, lT⟩ := h
        obtain ⟨k, hk⟩ := bad_none hb (List.mem_of_getElem? hx)
        have hkd : k ∈ T.map (·.1) := by rw [kT]; exact (isd_mem isd k).mpr (deskOf_mem hk)
        obtain ⟨t, ht, et⟩ := List.mem_map.mp hkd
        obtain ⟨a1, a2, a3⟩ := lT.st t ht
        have g1 : DGet Z' D0 (.str x) (some (.str k)) := by
          have := DGet.k (k := Sum.inr x) (sZ _ _ (s3 _ _ (s2 _ _ eD0)))
          rw [valV_by, hk] at this
          exact this
        have g2 : DGet Z' D (.str k) (some (.ref t.2)) := by
          have := DGet.k (k := Sum.inr t.1) eZ
          rw [sa_get kn ht, et] at this
          exact this
        have lp := partL_len ps t.1 (us.take i)
        rw [List.length_take] at lp
        refine ⟨_, rfl, _, rfl, _, rfl, D0, _, rfl, g1, D, _, rfl, g2, .inl ⟨rfl, _, sqL_new a1⟩, _, rfl, t.2, _, _, rfl, rfl, a1, by rw [List.length_map]; exact small (by omega), ?_⟩
        refine ⟨_, _, rfl, fun b o e => ?_, ?_, ⟨fun u hu => ?_, lT.nd⟩⟩
        · rw [upd_ne (ne_of_none e a2)]
          exact sZ _ _ e
        · rw [upd_ne a3.symm]
          exact eZ
        · obtain ⟨b1, b2, b3⟩ := lT.st u hu
          by_cases e : u.1 = t.1
          · have : u = t := inj_of_nd kn hu ht e
            subst this
            refine ⟨?_, b2, b3⟩
            rw [upd_same, partL_snoc hx, hk, et, if_pos rfl, List.map_append]
            rfl
          · have ne : u.2 ≠ t.2 := fun z => e (by rw [inj_of_nd (f := fun t : SA => t.2) lT.nd hu ht z])
            refine ⟨?_, b2, b3⟩
            rw [upd_ne ne, partL_snoc hx, hk, if_neg (fun z => e (by rw [et]; exact (Option.some.inj z).symm)), List.append_nil]
            exact b1
      · obtain ⟨x4, x5, rfl, sZ, eZ, lT⟩ := h
        rw [List.length_map] at lT
        have nDZ : ∀ t ∈ T, t.2 ≠ D := fun t ht => (lT.st t ht).2.2
        refine ⟨D, _, eZ, True.intro, fun od => ?_⟩
        generalize hL : upd Z D (.frz od (.dK (saKV T))) = L
        have fL : L D = some (.frz od (.dK (saKV T))) := by rw [← hL]; exact upd_same
        have kL : But D Z L := by rw [← hL]; exact But.upd
        have lT := lT.mono fun t ht o e => kL _ _ (nDZ t ht) e
        have sL : Same H3 L := fun b o e => kL _ _ (ne_of_none e nDH) (sZ _ _ e)
        refine ⟨_, rfl, D, od, rfl, .inl ⟨saKV T, fL, fun W nW => ?_⟩⟩
        refine lc_it (walk_keys (d := D) (o := od) (kvs := saKV T)) (fun i G => ∃ L3 : List PT3, Same L G ∧ G W = some (.lst (L3.map fun t => V.ref t.1)) ∧ L3.map (·.2.1) = ds.take i ∧ ∀ t ∈ L3, G t.1 = some (.tup [.str t.2.1, .ref t.2.2]) ∧ G t.2.2 = some (.tup ((partL ps t.2.1 us).map V.str)) ∧ H t.1 = none ∧ H t.2.2 = none) ⟨[], same_new nW, upd_same, rfl, fun t ht => nomatch ht⟩ (fun _ _ _ h => h.choose_spec.1 _ _ fL) (fun i x G G' hi h y => ?_) (fun G h => ?_)
        · obtain ⟨rfl, ky, va, hkv, rfl⟩ := y
          obtain ⟨L3, sG, eG, k3, t3⟩ := h
          obtain ⟨t, ht, e⟩ := get_map hkv
          cases e
          have mt := List.mem_of_getElem? ht
          have hlt := lt_of_get ht
          obtain ⟨a1, a2, a3⟩ := lT.st t mt
          have g2 : DGet G' D (.str t.1) (some (.ref t.2)) := .inl ⟨saKV T, Sum.inr t.1, .inr ⟨od, sG _ _ fL⟩, rfl, (sa_get kn mt).symm⟩
          rw [show us.take us.length = us from List.take_length] at a1
          have hk : ds[i]? = some t.1 := by
            rw [← kT, List.getElem?_map, ht]
            rfl
          have len3 : L3.length ≤ 12 := by
            have := congrArg List.length k3
            rw [List.length_map, List.length_take] at this
            omega
          refine ⟨rfl, .str t.1, rfl, _, rfl, .str t.1, rfl, D, _, rfl, g2, t.2, _, rfl, .inl ⟨sqL_new (sG _ _ a1), fun l nl => ⟨smallE (by show 2 ≤ 1000000; decide), fun p np => ?_⟩⟩⟩
          have sl := same_new (o := .tup ((partL ps t.1 us).map V.str)) nl
          have el : upd G' l (.tup ((partL ps t.1 us).map V.str)) l = some (.tup ((partL ps t.1 us).map V.str)) := upd_same
          have sH : Same H G' := fun b o e => sG _ _ (sL _ _ (s13 _ _ e))
          have nlH := sH.free nl
          generalize upd G' l (.tup ((partL ps t.1 us).map V.str)) = G1 at sl el np
          have sp := same_new (o := .tup [V.str t.1, V.ref l]) np
          have ep : upd G1 p (.tup [V.str t.1, V.ref l]) p = some (.tup [V.str t.1, V.ref l]) := upd_same
          have npH := (sH.trans sl).free np
          have el := sp _ _ el
          have s2' := sl.trans sp
          generalize upd G1 p (.tup [V.str t.1, V.ref l]) = G2 at sp ep el s2'
          have nWt : ∀ {c : Addr} {xs : List V}, G2 c = some (.tup xs) → c ≠ W := fun e z => by
            rw [z, s2' _ _ eG] at e
            cases e
          refine ⟨_, s2' _ _ eG, by rw [List.length_map]; exact small (by omega), L3 ++ [(p, t.1, l)], fun b o e => ?_, ?_, ?_, fun u hu => ?_⟩
          · rw [upd_ne (ne_of_none e nW)]
            exact s2' _ _ (sG _ _ e)
          · rw [upd_same, List.map_append]
            rfl
          · rw [List.map_append, k3, take_of_get hk]
            rfl
          · rcases List.mem_append.mp hu with z | z
            · obtain ⟨b1, b2, b3, b4⟩ := t3 u z
              have c1 := s2' _ _ b1
              have c2 := s2' _ _ b2
              exact ⟨by rw [upd_ne (nWt c1)]; exact c1, by rw [upd_ne (nWt c2)]; exact c2, b3, b4⟩
            · rw [List.mem_singleton.mp z]
              exact ⟨by rw [upd_ne (nWt ep)]; exact ep, by rw [upd_ne (nWt el)]; exact el, npH, nlH⟩
        · obtain ⟨L3, sG, eG, k3, t3⟩ := h
          have nDH0 : H D = none := s13.free nDH
          have dlen : (saKV T).length = ds.length := by
            have := congrArg List.length kT
            rw [List.length_map] at this
            rw [saKV_len]
            exact this
          rw [List.take_of_length_le (by rw [dlen]; exact Nat.le_refl _)] at k3
          have fG := sG _ _ fL
          refine ⟨fG, W, _, rfl, .inl ⟨sqL_new (by rw [upd_ne (fun z => by rw [z, fG] at eG; cases eG)]; exact eG), fun p np => ?_⟩⟩
          have keep : ∀ b o, H b = some o → upd G D (.dK (saKV T)) b = some o := fun b o e => by
            rw [upd_ne (ne_of_none e nDH0)]
            exact sG _ _ (sL _ _ (s13 _ _ e))
          have keep : Same H (upd G D (.dK (saKV T))) := keep
          have nDt : ∀ {c : Addr} {xs : List V}, G c = some (.tup xs) → c ≠ D := fun e z => by
            rw [z, fG] at e
            cases e
          have sp := same_new (o := .tup (L3.map fun t => V.ref t.1)) np
          refine q hb _ p (keep.trans sp) (keep.free np) ⟨L3, upd_same, k3, fun t ht => ?_⟩
          obtain ⟨b1, b2, b3, b4⟩ := t3 t ht
          exact ⟨sp _ _ (by rw [upd_ne (nDt b1)]; exact b1), sp _ _ (by rw [upd_ne (nDt b2)]; exact b2)⟩
end
end Kb
namespace Kb
open PySem PySem.Spec PyProof.Rows L2
/-! ### within_by, same_by, view_at -/
def ptD (ps : List DP) (us ds : List Str) : PyData := .tuple (ds.map fun k => .tuple [.str k, Ka.rowD (partL ps k us)])
theorem eq_ptD (ps : List DP) (us vs : List Str) : ∀ ds : List Str, PyData.eqvAll (ds.map fun k => .tuple [.str k, Ka.rowD (partL ps k us)]) (ds.map fun k => .tuple [.str k, Ka.rowD (partL ps k vs)]) = ds.all fun k => decide (partL ps k us = partL ps k vs)
  | [] => by simp [PyData.eqvAll]
  | k :: ds => by
    rw [List.map_cons, List.map_cons, PyData.eqvAll, eq_ptD ps us vs ds, List.all_cons]
    have : PyData.eqv (.tuple [.str k, Ka.rowD (partL ps k us)]) (.tuple [.str k, Ka.rowD (partL ps k vs)]) = decide (partL ps k us = partL ps k vs) := by
      rw [PyData.eqv, PyData.eqvAll, PyData.eqvAll, PyData.eqvAll, eq_str, eqR]
      simp
    rw [this]
theorem depPt (ps : List DP) (us : List Str) : ∀ ds : List Str, PyData.depthAll (ds.map fun k => PyData.tuple [.str k, Ka.rowD (partL ps k us)]) ≤ 4 := dep_le fun k => by
  have := depR (partL ps k us)
  simp only [PyData.depth, PyData.depthAll]
  omega
theorem shPt {ps : List DP} {us ds : List Str} (hn : ∀ z ∈ us, isName z = true) (hd : ∀ z ∈ ds, isName z = true) : SeqAt.shaped (ptD ps us ds) = true := by
  refine shaped_of ?_ ?_
  · unfold ptD
    rw [PyData.canLay0]
    refine lay_all ds fun k hk => ?_
    have hl := layR (r := partL ps k us) fun z hz => hn z (List.mem_filter.mp hz).1
    rw [PyData.canLay0, PyData.canLayAll0, PyData.canLayAll0, PyData.canLayAll0, PyData.canLay0, name_ok (hd k hk), hl]
    rfl
  · have := depPt ps us ds
    unfold ptD
    simp only [PyData.depth]
    omega
theorem PtAt.dp {K : PySem.W.Frag} {H : Hp} {q : Addr} {ps : List DP} {us ds : List Str} (h : PtAt H q ps us ds) : Dp K H (.ref q) (ptD ps us ds) := by
  obtain ⟨L, h1, h2, h3⟩ := h
  refine .tup (sqT_new h1) ?_
  subst h2
  clear h1
  induction L with
  | nil => exact .nil
  | cons t L ih =>
    obtain ⟨a1, a2⟩ := h3 t List.mem_cons_self
    exact .cons (.tup (sqT_new a1) (.cons (.str _) (.cons (dpR a2) .nil))) (ih fun u hu => h3 u (List.mem_cons_of_mem _ hu))
section
variable {P : Program} {w : World} {K : PySem.W.Frag} {mg : Str → Option Value} {base : Heap}
def spBy (K : PySem.W.Frag) (C : Addr) (b : List DP → List Str → List Str → List Str → Bool) : Sp := fun vs H Q E => ∃ (a r t : Addr) (ps : List DP) (us zs ds : List Str), vs = [.ref a, .ref r, .ref t] ∧ DealAt K H a ps ∧ DOk ps ∧ IsDesks ps ds ∧ (∀ z ∈ ds, isName z = true) ∧ SqT K H r (us.map V.str) ∧ us.length ≤ 1000 ∧ (∀ z ∈ us, isName z = true) ∧ SqT K H t (zs.map V.str) ∧ zs.length ≤ 1000 ∧ (∀ z ∈ zs, isName z = true) ∧
  (bad ps us = none → bad ps zs = none → ∀ H', Same H H' → Q (.bl (b ps us zs ds)) H') ∧ (∀ i : Nat, bad ps us = some i → AtW C E H (i : Int)) ∧ (∀ i : Nat, bad ps us = none → bad ps zs = some i → AtW C E H (i : Int))
def withinB (ps : List DP) (us zs ds : List Str) : Bool := ds.all fun k => sub (partL ps k us) (partL ps k zs)
def sameB (ps : List DP) (us zs ds : List Str) : Bool := ds.all fun k => decide (partL ps k us = partL ps k zs)
abbrev nWb : List Str := ["dealing", "u", "v", "pairs", "others", "at"]
theorem scWb : FnScope nWb ["dealing", "u", "v"] (defScope sWithinBy) := ⟨rfl, rfl, rfl, by decide +kernel, rfl, by decide +kernel, by decide +kernel⟩
theorem ok_withinby {f C fP fW : Addr} {fd fdP fdW : FuncData} (F : Fun K "within_by" "within_by" sWithinBy f fd) (N : Nones mg) (G_parts : FnOk P w K mg base (L2.CX P w) 4 fP fdP ["dealing", "row"] (spParts K C)) (C_parts : CallC K mg "parts" ["dealing", "row"] fP fdP) (G_within : FnOk P w K mg base CX0 1 fW fdW ["u", "v"] (spWithin K)) (C_within : CallC K mg "within" ["u", "v"] fW fdW) : FnOk P w K mg base (L2.CX P w) 5 f fd ["dealing", "u", "v"] (spBy K C withinB) := by
  refine F.okX scWb (fun vs H Q E h => ?_) (fun cdv A outer s H vs Q E hr h => ?_)
  · obtain ⟨a, r, t, ps, us, zs, ds, rfl, _⟩ := h
    rfl
  · obtain ⟨a, r, t, ps, us, zs, ds, rfl, hD, ok, isd, nds, hR, hz, nus, hT, hz2, nzs, q, q1, q2⟩ := h
    refine ⟨_, pss_cons (ps_set (i := 3) scWb.nd rfl (Or.inr rfl) (pe_call G_parts (hr.mono (by decide)) (by rfl) C_parts.g C_parts.kp C_parts.b .nil (passes_call (takes_of rfl rfl rfl rfl) (fun _ _ _ _ h => h)) (pa_cons (pv 0) (pa_cons (pv 1) pa_nil))))
      (pss_cons (ps_set (i := 4) scWb.nd rfl (Or.inr rfl) (pe_call G_parts (hr.mono (by decide)) (by rfl) C_parts.g C_parts.kp C_parts.b .nil (passes_call (takes_of rfl rfl rfl rfl) (fun _ _ _ _ h => h)) (pa_cons (pv 0) (pa_cons (pv 2) pa_nil))))
      (pss_one (ps_ret (pe_callB (cr_all rfl) (by rfl) N.all (by decide +kernel) (pa_cons (pe_lc (own := [("at", 5)]) (g := gName 5) (tt := tYes) rfl scWb.nd (pi_range1 (by rfl) N.range (pa_cons (pe_callB call_len_seq (by rfl) N.len PySem.boot_len (pa_cons (pv 3) pa_nil)) pa_nil)) (blkOk_by (own := [("at", 5)]) (N := nWb) (sc := defScope sWithinBy) (by decide +kernel)) (fun _ _ _ _ _ => (pg_name (i := 5) scWb.nd rfl (Or.inl rfl))) (fun _ _ _ _ _ => pts_nil) (fun _ _ _ _ _ => (pe_call G_within (hr.mono (by decide)) (by rfl) C_within.g C_within.kp C_within.b .nil pass0 (pa_cons (pe_ix (ixT_at (K := K) rfl) (pe_ix (ixT_at (K := K) rfl) (pv 3) (pv 5) (fun _ _ => rfl)) pe_int (fun _ _ => rfl)) (pa_cons (pe_ix (ixT_at (K := K) rfl) (pe_ix (ixT_at (K := K) rfl) (pv 4) (pv 5) (fun _ _ => rfl)) pe_int (fun _ _ => rfl)) pa_nil))))) pa_nil))))), ?_⟩
    refine ⟨_, rfl, _, rfl, a, r, ps, us, ds, rfl, hD, ok, isd, hR, hz, fun hb H1 p s1 np hp => ?_, q1⟩
    refine ⟨_, rfl, _, rfl, a, t, ps, zs, ds, rfl, hD.mono s1, ok, isd, Same.sqT s1 hT, hz2, fun hb2 H2 p2 s2 np2 hp2 => ?_, fun i hi => (q2 i hb hi).mono s1⟩
    have hp := hp.mono s2
    obtain ⟨L, l1, l2, l3⟩ := id hp
    obtain ⟨M, m1, m2, m3⟩ := id hp2
    have ll : L.length = ds.length := by rw [← l2, List.length_map]
    have ml : M.length = ds.length := by rw [← m2, List.length_map]
    have dl := isd_len isd
    have sz := ok.sz
    refine ⟨_, rfl, p, _, rfl, .inr (sqT_new l1), (ds.length : Nat), by rw [List.length_map, ll], by omega, by omega, fun D nD => ?_⟩
    rw [show ((ds.length : Nat) : Int).toNat = ds.length from rfl]
    refine lc_pure (walk_r0 (n := ds.length)) ((ds.map fun k => sub (partL ps k us) (partL ps k zs)).map V.bl) (by rw [List.length_map, List.length_map]) nD (fun _ _ => True.intro) (fun i x H0 H' hi h0 y => ?_) (fun H' s' e => ?_)
    · obtain ⟨rfl, rfl⟩ := y
      have g1 : L[i]? = some (L[i]'(by omega)) := List.getElem?_eq_getElem _
      have g2 : M[i]? = some (M[i]'(by omega)) := List.getElem?_eq_getElem _
      generalize L[i]'(by omega) = u at g1
      generalize M[i]'(by omega) = v at g2
      obtain ⟨u1, u2⟩ := l3 u (List.mem_of_getElem? g1)
      obtain ⟨v1, v2⟩ := m3 v (List.mem_of_getElem? g2)
      have k1 : ds[i]? = some u.2.1 := by rw [← l2, List.getElem?_map, g1]; rfl
      have k2 : ds[i]? = some v.2.1 := by rw [← m2, List.getElem?_map, g2]; rfl
      have ek : v.2.1 = u.2.1 := Option.some.inj (k2.symm.trans k1)
      have gL : (L.map fun t => V.ref t.1)[i]? = some (.ref u.1) := by rw [List.getElem?_map, g1]; rfl
      have gM : (M.map fun t => V.ref t.1)[i]? = some (.ref v.1) := by rw [List.getElem?_map, g2]; rfl
      refine ⟨rfl, _, rfl, .int (i : Nat), rfl, p, _, _, _, rfl, rfl, sqT_new (h0.1 _ _ l1), atI_nat gL, u.1, _, _, .ref u.2.2, rfl, rfl, sqT_new (h0.1 _ _ u1), rfl, _, rfl, .int (i : Nat), rfl, p2, _, _, _, rfl, rfl, sqT_new (h0.1 _ _ m1), atI_nat gM, v.1, _, _, .ref v.2.2, rfl, rfl, sqT_new (h0.1 _ _ v1), rfl, ?_⟩
      refine ⟨u.2.2, v.2.2, _, _, rfl, sqT_new (h0.1 _ _ u2), sqT_new (h0.1 _ _ v2), fun H3 s3 => ?_⟩
      refine h0.put nD s3 ?_ (by rw [List.length_map, List.length_map]; omega)
      rw [List.getElem?_map, List.getElem?_map, k1, ek]
      rfl
    · refine ⟨D, _, rfl, sqL_new e, ?_⟩
      rw [List.all_map]
      exact q hb hb2 _ ((s1.trans s2).trans s')
abbrev nSb : List Str := ["dealing", "u", "v", "pairs"]
theorem scSb : FnScope nSb ["dealing", "u", "v"] (defScope sSameBy) := ⟨rfl, rfl, rfl, by decide +kernel, rfl, by decide +kernel, by decide +kernel⟩
theorem ok_sameby {f C fP : Addr} {fd fdP : FuncData} (F : Fun K "same_by" "same_by" sSameBy f fd) (G_parts : FnOk P w K mg base (L2.CX P w) 4 fP fdP ["dealing", "row"] (spParts K C)) (C_parts : CallC K mg "parts" ["dealing", "row"] fP fdP) : FnOk P w K mg base (L2.CX P w) 5 f fd ["dealing", "u", "v"] (spBy K C sameB) := by
  refine F.okX scSb (fun vs H Q E h => ?_) (fun cdv A outer s H vs Q E hr h => ?_)
  · obtain ⟨a, r, t, ps, us, zs, ds, rfl, _⟩ := h
    rfl
  · obtain ⟨a, r, t, ps, us, zs, ds, rfl, hD, ok, isd, nds, hR, hz, nus, hT, hz2, nzs, q, q1, q2⟩ := h
    refine ⟨_, pss_cons (ps_set (i := 3) scSb.nd rfl (Or.inl rfl) (pe_call G_parts (hr.mono (by decide)) (by rfl) C_parts.g C_parts.kp C_parts.b .nil (passes_call (takes_of rfl rfl rfl rfl) (fun _ _ _ _ h => h)) (pa_cons (pv 0) (pa_cons (pv 1) pa_nil))))
      (pss_one (ps_ret (pe_cmpR (op_eqD hr.units) (pv 3) (pe_call G_parts (hr.mono (by decide)) (by rfl) C_parts.g C_parts.kp C_parts.b .nil (passes_call (takes_of rfl rfl rfl rfl) (fun _ _ _ _ h => h)) (pa_cons (pv 0) (pa_cons (pv 2) pa_nil))) (nomark _)))), ?_⟩
    refine ⟨_, rfl, _, rfl, a, r, ps, us, ds, rfl, hD, ok, isd, hR, hz, fun hb H1 p s1 np hp => ?_, q1⟩
    refine ⟨_, rfl, _, rfl, _, rfl, a, t, ps, zs, ds, rfl, hD.mono s1, ok, isd, Same.sqT s1 hT, hz2, fun hb2 H2 p2 s2 np2 hp2 => ?_, fun i hi => (q2 i hb hi).mono s1⟩
    refine ⟨_, _, (hp.mono s2).dp, hp2.dp, shPt nus nds, shPt nzs nds, ?_⟩
    have e : PyData.eqv (ptD ps us ds) (ptD ps zs ds) = sameB ps us zs ds := by
      unfold ptD
      rw [PyData.eqv, eq_ptD]
      rfl
    rw [e]
    exact q hb hb2 _ (s1.trans s2)
/-- the view at a desk: a deed's row where it stands -/
def VwAt (H : Hp) (q : Addr) (ps : List DP) (k : Str) : Prop := ∃ L : List SA, H q = some (.dK (saKV L)) ∧ L.map (·.1) = ps.map (·.2.1) ∧ ∀ (i : Nat) (t : SA) (p : DP), L[i]? = some t → ps[i]? = some p → H t.2 = some (.tup (if p.2.2 = k then [V.str p.2.1] else []))
def spViewAt (K : PySem.W.Frag) : Sp := fun vs H Q _ => ∃ (a : Addr) (ps : List DP) (k : Str), vs = [.ref a, .str k] ∧ DealAt K H a ps ∧ DOk ps ∧ ∀ H' q, Same H H' → H q = none → VwAt H' q ps k → Q (.ref q) H'
abbrev nVa : List Str := ["dealing", "desk", "deed", "place"]
theorem scVa : FnScope nVa ["dealing", "desk"] (defScope sViewAt) := ⟨rfl, rfl, rfl, by decide +kernel, rfl, by decide +kernel, by decide +kernel⟩
theorem ok_viewat {f : Addr} {fd : FuncData} (F : Fun K "view_at" "view_at" sViewAt f fd) : FnOk P w K mg base CX0 1 f fd ["dealing", "desk"] (spViewAt K) := by
  refine F.ok scVa (fun vs H Q E h => ?_) (fun cdv A outer s H vs Q E hr h => ?_)
  · obtain ⟨a, ps, k, rfl, _⟩ := h
    rfl
  · obtain ⟨a, ps, k, rfl, hD, ok, q⟩ := h
    refine ⟨_, pss_one (ps_ret (pe_dc (own := [("deed", 2), ("place", 3)]) (g := gTup K 2 (gCons (gName 2) (gCons (gName 3) gNil))) (tt := tYes) rfl scVa.nd (pi_tup (pv 0)) (blkOk_by (own := [("deed", 2), ("place", 3)]) (N := nVa) (sc := defScope sViewAt) (by decide +kernel)) (fun _ _ _ _ _ => (tup_at (K := K) rfl rfl (pgs_cons (pg_name (i := 2) scVa.nd rfl (Or.inl rfl)) (pgs_cons (pg_name (i := 3) scVa.nd rfl (Or.inl rfl)) pgs_nil)))) (fun _ _ _ _ _ => pts_nil) (fun _ _ _ _ _ => (pv 2)) (fun _ _ _ _ _ => (pe_ifExp (pt_cmpR op_eq (pv 3) (pv 1) (nomark _)) (pe_tup (pa_cons (pv 2) pa_nil)) (pe_tup pa_nil))))), ?_⟩
    refine ⟨.ref a, rfl, a, rfl, ⟨_, hD.1⟩, fun D nD => ?_⟩
    have sz := ok.sz
    refine dcK_it (walk_tup (K := K) (a := a) (xs := ps.map fun p => V.ref p.1)) (fun i G => Same H G ∧ ∃ L : List SA, G D = some (.dK (saKV L)) ∧ L.map (·.1) = (ps.take i).map (·.2.1) ∧ ∀ (j : Nat) (t : SA) (p : DP), L[j]? = some t → ps[j]? = some p → G t.2 = some (.tup (if p.2.2 = k then [V.str p.2.1] else []))) ⟨same_new nD, [], upd_same, rfl, fun j t p h => by simp at h⟩ (fun _ _ _ h => Same.sqT h.1 hD.1) (fun i x G G' hi h y => ?_) (fun G h => ?_)
    · obtain ⟨rfl, hx⟩ := y
      obtain ⟨p, hp, rfl⟩ := get_map hx
      obtain ⟨sG, L, eG, kL, tL⟩ := h
      have hi := lt_of_get hp
      have lenL : L.length = i := by
        have := congrArg List.length kL
        rw [List.length_map, List.length_map, List.length_take] at this
        omega
      refine ⟨p.1, _, rfl, sqT_new (sG _ _ (hD.2 p (List.mem_of_getElem? hp))), rfl, _, _, rfl, _, _, rfl, rfl, rfl, ?_⟩
      have fin : ∀ (b : Addr) (G2 : Hp) (xs : List V), Same G' G2 → G2 b = some (.tup xs) → xs = (if p.2.2 = k then [V.str p.2.1] else []) → ∃ kvs ky, (V.str p.2.1) = kV ky ∧ G2 D = some (.dK kvs) ∧ kvs.length < sizeLine ∧ (Same H (upd G2 D (.dK (putK kvs ky (V.ref b)))) ∧ ∃ L : List SA, upd G2 D (.dK (putK kvs ky (V.ref b))) D = some (.dK (saKV L)) ∧ L.map (·.1) = (ps.take (i + 1)).map (·.2.1) ∧ ∀ (j : Nat) (t : SA) (p : DP), L[j]? = some t → ps[j]? = some p → upd G2 D (.dK (putK kvs ky (V.ref b))) t.2 = some (.tup (if p.2.2 = k then [V.str p.2.1] else []))) := by
        intro b G2 xs sb eb ex
        refine ⟨saKV L, Sum.inr p.2.1, rfl, sb _ _ eG, by rw [saKV_len]; exact small (by omega), fun c o e => ?_, L ++ [(p.2.1, b)], ?_, ?_, fun j t p2 hj hp2 => ?_⟩
        · rw [upd_ne (ne_of_none e nD)]
          exact sb _ _ (sG _ _ e)
        · rw [upd_same, putK_new]
          · unfold saKV
            rw [List.map_append]
            rfl
          · rw [saKV_keys, kL]
            intro z
            obtain ⟨y, hy, e⟩ := List.mem_map.mp z
            rw [Sum.inr.inj e] at hy
            have nd := ok.nd
            rw [← List.take_append_drop i ps, List.map_append, drop_of_get hp, List.map_cons, List.nodup_append] at nd
            exact nd.2.2 _ hy _ List.mem_cons_self rfl
        · rw [List.map_append, kL, take_of_get hp, List.map_append]
          rfl
        · have nDt : ∀ {c : Addr} {xs : List V}, G2 c = some (.tup xs) → c ≠ D := fun e z => by
            rw [z, sb _ _ eG] at e
            cases e
          by_cases hji : j < i
          · rw [List.getElem?_append_left (by omega)] at hj
            have := sb _ _ (tL j t p2 hj hp2)
            rw [upd_ne (nDt this)]
            exact this
          · have hj2 := lt_of_get hj
            rw [List.length_append, List.length_singleton] at hj2
            obtain rfl : j = i := by omega
            rw [List.getElem?_append_right (by omega), lenL, Nat.sub_self] at hj
            cases hj
            rw [hp] at hp2
            cases hp2
            rw [upd_ne (nDt eb), eb, ex]
      refine ⟨_, rfl, _, rfl, _, rfl, rfl, _, rfl, ite2 (fun c => ?_) (fun c => ?_)⟩
      · have c : p.2.2 = k := by
          have := of_decide_eq_true c
          injection this
        refine ⟨_, rfl, smallE (by show 1 ≤ 1000000; decide), fun b nb => ?_⟩
        exact fin b _ _ (same_new nb) upd_same (by rw [if_pos c])
      · have c : ¬ p.2.2 = k := fun e => c (decide_eq_true (by rw [e]))
        refine ⟨smallE (by show 0 ≤ 1000000; decide), fun b nb => ?_⟩
        exact fin b _ _ (same_new nb) upd_same (by rw [if_neg c])
    · obtain ⟨sG, L, eG, kL, tL⟩ := h
      rw [List.length_map, List.take_of_length_le (Nat.le_refl _)] at kL
      exact q G D sG nD ⟨L, eG, kL, tL⟩
end
end Kb
namespace Kb
open PySem PySem.Spec PyProof.Rows L2
/-! ### is_pair_of, check_dealing, one_desk, own_desks -/
theorem TyX.mono {K : PySem.W.Frag} {H H' : Hp} {x : V} {t : Value} (s : Same H H') (h : TyX K H x t) : TyX K H' x t := by
  cases h with
  | base b =>
    refine .base ?_
    cases b with
    | non => exact .non
    | bl y => exact .bl y
    | int y => exact .int y
    | str y => exact .str y
    | flt y => exact .flt y
    | lst e => exact .lst (s _ _ e)
    | frz e => exact .frz (s _ _ e)
    | tup e => exact .tup (s _ _ e)
    | dK e => exact .dK (s _ _ e)
    | dT e => exact .dT (s _ _ e)
    | ins e a1 a2 a3 a4 a5 => exact .ins (s _ _ e) a1 a2 a3 a4 a5
  | byt b => exact .byt b
  | set e => exact .set (s _ _ e)
  | kList e c => exact .kList e c
  | kTuple e c => exact .kTuple e c
  | kDict e c => exact .kDict e c
  | fTuple e => exact .fTuple (s _ _ e)
  | fDict e => exact .fDict (s _ _ e)
/-- a value asked for a name -/
def NV (K : PySem.W.Frag) (H : Hp) (x : V) (o : Option Str) : Prop := (o = none ∧ ∃ t : String, TyX K H x (.type t) ∧ kitB t "str" = some false) ∨ ∃ s, o = some s ∧ x = .str s ∧ s.length ≤ sizeLine
theorem NV.mono {K : PySem.W.Frag} {H H' : Hp} {x : V} {o : Option Str} (s : Same H H') (h : NV K H x o) : NV K H' x o := h.imp (fun ⟨e, t, h1, h2⟩ => ⟨e, t, TyX.mono s h1, h2⟩) id
def isN (o : Option Str) : Bool := match o with
  | none => false
  | some s => isName s
/-- a value asked for a pair of the deed d -/
inductive PairV (K : PySem.W.Frag) (H : Hp) (d : Str) : V → Bool → Prop where
  | other {v : V} {t : String} (h1 : TyX K H v (.type t)) (h2 : kitB t "tuple" = some false) : PairV K H d v false
  | size {p : Addr} {xs : List V} (h1 : SqT K H p xs) (h2 : xs.length ≠ 2) : PairV K H d (.ref p) false
  | pair {p : Addr} {x y : V} {ox oy : Option Str} (h1 : SqT K H p [x, y]) (h2 : NV K H x ox) (h3 : NV K H y oy) : PairV K H d (.ref p) (isN ox && (decide (ox = some d) && isN oy))
theorem PairV.mono {K : PySem.W.Frag} {H H' : Hp} {d : Str} {v : V} {b : Bool} (s : Same H H') (h : PairV K H d v b) : PairV K H' d v b := by
  cases h with
  | other h1 h2 => exact .other (TyX.mono s h1) h2
  | size h1 h2 => exact .size (Same.sqT s h1) h2
  | pair h1 h2 h3 => exact .pair (Same.sqT s h1) (h2.mono s) (h3.mono s)
section
variable {P : Program} {w : World} {K : PySem.W.Frag} {mg : Str → Option Value} {base : Heap}
def spPairOf (K : PySem.W.Frag) : Sp := fun vs H Q _ => ∃ (v : V) (d : Str) (b : Bool), vs = [v, .str d] ∧ PairV K H d v b ∧ ∀ H', Same H H' → Q (.bl b) H'
abbrev nPo : List Str := ["value", "deed"]
theorem scPo : FnScope nPo ["value", "deed"] (defScope sPairOf) := ⟨rfl, rfl, rfl, by decide +kernel, rfl, by decide +kernel, by decide +kernel⟩
theorem ok_pairof {f fN : Addr} {fd fdN : FuncData} (F : Fun K "is_pair_of" "is_pair_of" sPairOf f fd) (N : Nones mg) (G_is_name : FnOk P w K mg base CX0 2 fN fdN ["value"] (spName K)) (C_is_name : CallC K mg "is_name" ["value"] fN fdN) : FnOk P w K mg base CX0 3 f fd ["value", "deed"] (spPairOf K) := by
  refine F.ok scPo (fun vs H Q E h => ?_) (fun cdv A outer s H vs Q E hr h => ?_)
  · obtain ⟨v, d, b, rfl, _⟩ := h
    rfl
  · obtain ⟨v, d, b, rfl, hv, q⟩ := h
    refine ⟨_, pss_cons (ps_if (PW.pt (pw_or (pt_not (pt_val (pe_callB call_isi (by rfl) N.isinstance (by decide +kernel) (pa_cons (pv 0) (pa_cons (pe_bltn (v := .ty "tuple") (by rfl) N.tuple (by decide +kernel) rfl) pa_nil))))) (pw_or1 (pt_cmpR op_ne (pe_callB call_len_seq (by rfl) N.len PySem.boot_len (pa_cons (pv 0) pa_nil)) pe_int (nomark _))))) (pss_one (ps_ret pe_bl)) pss_nil)
      (pss_one (ps_ret (pe_and (pe_call G_is_name (hr.mono (by decide)) (by rfl) C_is_name.g C_is_name.kp C_is_name.b .nil pass0 (pa_cons (pe_ix ix_tup (pv 0) pe_int (fun _ _ => rfl)) pa_nil)) (pe_and (pe_cmpR op_eq (pe_ix ix_tup (pv 0) pe_int (fun _ _ => rfl)) (pv 1) (nomark _)) (pe_one (pe_call G_is_name (hr.mono (by decide)) (by rfl) C_is_name.g C_is_name.kp C_is_name.b .nil pass0 (pa_cons (pe_ix ix_tup (pv 0) pe_int (fun _ _ => rfl)) pa_nil))))))), ?_⟩
    cases hv with
    | @other _ t h1 h2 =>
      refine ⟨_, rfl, v, .ty "tuple", .type t, .type "tuple", false, rfl, .ty "tuple", h1, kit_ty h2, false, rfl, iteT (iteT ?_)⟩
      exact q H (fun _ _ h => h)
    | @size p xs h1 h2 =>
      refine ⟨_, rfl, .ref p, .ty "tuple", .type "tuple", .type "tuple", true, rfl, .ty "tuple", tyT h1, kit_ty (by decide +kernel), true, rfl, iteF ?_⟩
      refine ⟨_, rfl, p, _, rfl, .inr h1, rfl, _, rfl, iteYes ?_ ?_⟩
      · have : ¬ V.int ((xs.length : Nat) : Int) = V.int 2 := fun e => by
          injection e with e
          omega
        show (!decide (V.int ((xs.length : Nat) : Int) = V.int 2)) = true
        rw [decide_eq_false this]
        rfl
      · exact q H (fun _ _ h => h)
    | @pair p x y ox oy h1 h2 h3 =>
      refine ⟨_, rfl, .ref p, .ty "tuple", .type "tuple", .type "tuple", true, rfl, .ty "tuple", tyT h1, kit_ty (by decide +kernel), true, rfl, iteF ?_⟩
      refine ⟨_, rfl, p, _, rfl, .inr h1, rfl, _, rfl, iteNo (by simp) ?_⟩
      refine ⟨_, rfl, p, _, _, x, rfl, rfl, h1, rfl, x, rfl, ?_⟩
      rcases h2 with ⟨rfl, t, t1, t2⟩ | ⟨z, rfl, rfl, hz⟩
      · refine .inl ⟨t, t1, t2, _, rfl, iteF ?_⟩
        exact q H (fun _ _ h => h)
      refine .inr ⟨z, rfl, hz, fun H1 s1 => ⟨_, rfl, ite2 (fun c => ?_) (fun c => ?_)⟩⟩
      · have c : isName z = true := c
        rw [show isN (some z) = true from c, Bool.true_and] at q
        refine ⟨_, rfl, p, _, _, .str z, rfl, rfl, Same.sqT s1 h1, rfl, _, rfl, rfl, _, rfl, ite2 (fun c2 => ?_) (fun c2 => ?_)⟩
        · have c2 : z = d := by
            have := of_decide_eq_true c2
            injection this
          rw [show decide (some z = some d) = true from decide_eq_true (by rw [c2]), Bool.true_and] at q
          refine ⟨_, rfl, p, _, _, y, rfl, rfl, Same.sqT s1 h1, rfl, y, rfl, ?_⟩
          rcases h3 with ⟨rfl, t, t1, t2⟩ | ⟨z2, rfl, rfl, hz2⟩
          · exact .inl ⟨t, TyX.mono s1 t1, t2, q H1 s1⟩
          · exact .inr ⟨z2, rfl, hz2, fun H2 s2 => q H2 (s1.trans s2)⟩
        · have c2 : ¬ z = d := fun e => c2 (decide_eq_true (by rw [e]))
          rw [show decide (some z = some d) = false from decide_eq_false (fun e => c2 (Option.some.inj e)), Bool.false_and] at q
          exact q H1 s1
      · have c : isName z = false := Bool.eq_false_iff.mpr c
        rw [show isN (some z) = false from c, Bool.false_and] at q
        exact q H1 s1
def spChDeal (K : PySem.W.Frag) (C CB : Addr) : Sp := fun vs H Q E => ∃ (p a : Addr) (cs : List CA) (ds : List Str) (v : V), vs = [.ref p, v] ∧ BookAt K CB H p a cs ∧ ds.Perm (uniq (dns cs)) ∧ sortedS ds = true ∧
  ((∃ t : String, TyX K H v (.type t) ∧ kitB t "tuple" = some false ∧ AtW C E H (-1)) ∨
   (∃ (x : Addr) (xs : List V) (bs : Nat → Bool), v = .ref x ∧ SqT K H x xs ∧ xs.length ≤ 100 ∧ (∀ (i : Nat) (y : V) (d : Str), xs[i]? = some y → ds[i]? = some d → (∀ j : Nat, j < i → j < ds.length ∧ bs j = true) → PairV K H d y (bs i)) ∧
     (∀ i : Nat, i < xs.length → (∀ j : Nat, j < i → j < ds.length ∧ bs j = true) → (ds.length ≤ i ∨ bs i = false) → AtW C E H (i : Int)) ∧
     ((∀ j : Nat, j < xs.length → j < ds.length ∧ bs j = true) → (xs.length < ds.length → AtW C E H (xs.length : Int)) ∧ (ds.length ≤ xs.length → ∀ H', Same H H' → Q .non H'))))
abbrev nCd : List Str := ["book", "dealing", "deeds", "at", "pair"]
theorem scCd : FnScope nCd ["book", "dealing"] (defScope sChDeal) := ⟨rfl, rfl, rfl, by decide +kernel, rfl, by decide +kernel, by decide +kernel⟩
theorem ok_chdeal {f C CB fE fM fP : Addr} {fd fdE fdM fdP : FuncData} (R : DelC K mg C fE fdE) (B : BkC K mg CB) (F : Fun K "check_dealing" "check_dealing" sChDeal f fd) (N : Nones mg) (GM_deeds : FnOk P w K mg base CX0 2 fM fdM ["self"] (spBkDeeds K CB)) (bM_deeds : Binds K fdM ["self"] []) (m_deeds : Meth K CB "deeds" fM) (G_is_pair_of : FnOk P w K mg base CX0 3 fP fdP ["value", "deed"] (spPairOf K)) (C_is_pair_of : CallC K mg "is_pair_of" ["value", "deed"] fP fdP) : FnOk P w K mg base (L2.CX P w) 4 f fd ["book", "dealing"] (spChDeal K C CB) := by
  have GE : FnOk P w K mg base CX0 1 fE fdE ["self", "at"] (spAtInit C) := ok_delinit R
  refine F.okX scCd (fun vs H Q E h => ?_) (fun cdv A outer s H vs Q E hr h => ?_)
  · obtain ⟨p, a, cs, ds, v, rfl, _⟩ := h
    rfl
  · obtain ⟨p, a, cs, ds, v, rfl, hB, hp, hs, hv⟩ := h
    have hr2 := hr.mono (show 2 ≤ 3 by decide)
    refine ⟨_, pss_cons (ps_if (pt_not (pt_val (pe_callB call_isi (by rfl) N.isinstance (by decide +kernel) (pa_cons (pv 1) (pa_cons (pe_bltn (v := .ty "tuple") (by rfl) N.tuple (by decide +kernel) rfl) pa_nil))))) (pss_one (ps_raise rfl (takes_of rfl rfl rfl rfl) (pmk_oex R.oex R.iC R.tI GE hr2 R.b .nil pass0 (by rfl) R.gC (pa_cons (pe_un un_neg pe_int) pa_nil)))) pss_nil)
      (pss_cons (ps_set (i := 2) scCd.nd rfl (Or.inl rfl) (pe_meth0 (pv 0) B.cl m_deeds GM_deeds (hr.mono (by decide)) bM_deeds .nil pass0))
      (pss_cons (ps_for (passes_of rfl) rfl (Ka.pi_enumT (by rfl) N.enumerate (pa_cons (pv 1) pa_nil)) (pg_tup rfl (pgs_cons (pg_name (i := 3) scCd.nd rfl (Or.inl rfl)) (pgs_cons (pg_name (i := 4) scCd.nd rfl (Or.inl rfl)) pgs_nil)))
        (pss_one (ps_if (PW.pt (pw_or (pt_cmpR op_ge (pv 3) (pe_callB call_len_seq (by rfl) N.len PySem.boot_len (pa_cons (pv 2) pa_nil)) (nomark _)) (pw_or1 (pt_not (pt_val (pe_call G_is_pair_of (hr.mono (by decide)) (by rfl) C_is_pair_of.g C_is_pair_of.kp C_is_pair_of.b .nil pass0 (pa_cons (pv 4) (pa_cons (pe_ix ix_tup (pv 2) (pv 3) (fun _ _ => rfl)) pa_nil)))))))) (pss_one (ps_raise rfl (takes_of rfl rfl rfl rfl) (pmk_oex R.oex R.iC R.tI GE hr2 R.b .nil pass0 (by rfl) R.gC (pa_cons (pv 3) pa_nil)))) pss_nil)))
      (pss_one (ps_if (pt_cmpR op_lt (pe_callB call_len_seq (by rfl) N.len PySem.boot_len (pa_cons (pv 1) pa_nil)) (pe_callB call_len_seq (by rfl) N.len PySem.boot_len (pa_cons (pv 2) pa_nil)) (nomark _)) (pss_one (ps_raise rfl (takes_of rfl rfl rfl rfl) (pmk_oex R.oex R.iC R.tI GE hr2 R.b .nil pass0 (by rfl) R.gC (pa_cons (pe_callB call_len_seq (by rfl) N.len PySem.boot_len (pa_cons (pv 1) pa_nil)) pa_nil)))) pss_nil)))), ?_⟩
    rcases hv with ⟨t, h1, h2, h3⟩ | ⟨x, xs, bs, rfl, hX, hlx, hPV, qi, qn⟩
    · refine ⟨_, rfl, v, .ty "tuple", .type t, .type "tuple", false, rfl, .ty "tuple", h1, kit_ty h2, false, rfl, iteT ?_⟩
      exact ⟨1, rfl, atW_mk h3⟩
    · refine ⟨_, rfl, .ref x, .ty "tuple", .type "tuple", .type "tuple", true, rfl, .ty "tuple", tyT hX, kit_ty (by decide +kernel), true, rfl, iteF ?_⟩
      obtain ⟨dx, fs, b1, b2, b3, b4, b5⟩ := id hB
      refine ⟨_, rfl, p, dx, fs, rfl, b1, b3, p, a, cs, rfl, hB, fun H1 q ds2 s1 nq eq hp2 hs2 => ?_⟩
      obtain rfl : ds2 = ds := sorted_uniq hs2 hs (hp2.trans hp.symm)
      have d12 : ds2.length ≤ 12 := by rw [hp.length_eq]; exact b5.d12
      refine ⟨_, rfl, x, _, rfl, Same.sqT s1 hX, ?_⟩
      refine for_it (walk_enumT (K := K) (a := x) (xs := xs)) (fun i σ G => ∃ x3 x4 : Option V, σ = [some (.ref p), some (.ref x), some (.ref q), x3, x4] ∧ Same H1 G ∧ ∀ j : Nat, j < i → j < ds2.length ∧ bs j = true) ⟨none, none, rfl, fun _ _ h => h, fun j hj => absurd hj (Nat.not_lt_zero _)⟩ (fun i σ G _ h => ?_) (fun i y σ G G' hi h yy => ?_) (fun σ G h => ?_)
      · obtain ⟨_, _, _, sG, _⟩ := h
        exact Same.sqT sG (Same.sqT s1 hX)
      · obtain ⟨T, z, v, rfl, nT, rfl, hz, hv⟩ := yy
        obtain ⟨x3, x4, rfl, sG, hall⟩ := h
        cases hz
        have hv : xs[i]? = some v := hv
        have sT := same_new (o := .tup [V.int (i : Nat), v]) nT
        have s2 := sG.trans sT
        have s3 := s1.trans s2
        refine ⟨T, _, rfl, sqT_new upd_same, rfl, _, _, rfl, _, _, rfl, rfl, ?_⟩
        refine ⟨_, rfl, _, rfl, q, _, rfl, .inr (sqT_new (s2 _ _ eq)), _, _, rfl, rfl, _, rfl, ite2 (fun c => ?_) (fun c => ?_)⟩
        · have c := of_decide_eq_true c
          rw [List.length_map] at c
          refine iteT ?_
          refine ⟨_, rfl, atW_mk ((qi i hi hall (.inl (by omega))).mono s3)⟩
        · have c : i < ds2.length := by
            have := of_decide_eq_false (Bool.eq_false_iff.mpr c)
            rw [List.length_map] at this
            omega
          have hd : ds2[i]? = some (ds2[i]'c) := List.getElem?_eq_getElem c
          have hdm : (ds2.map V.str)[i]? = some (.str (ds2[i]'c)) := by rw [List.getElem?_map, hd]; rfl
          refine ⟨v, rfl, _, rfl, .int (i : Nat), rfl, q, _, _, _, rfl, rfl, sqT_new (s2 _ _ eq), atI_nat hdm, v, _, bs i, rfl, (hPV i v _ hv hd hall).mono s3, fun H4 s4 => ?_⟩
          cases eb : bs i with
          | false =>
            refine ⟨false, rfl, iteT ?_⟩
            refine ⟨_, rfl, atW_mk ((qi i hi hall (.inr eb)).mono (s3.trans s4))⟩
          | true =>
            refine ⟨true, rfl, iteF ?_⟩
            refine ⟨_, _, rfl, s2.trans s4, fun j hj => ?_⟩
            by_cases h2 : j = i
            · subst h2
              exact ⟨c, eb⟩
            · exact hall j (by omega)
      · obtain ⟨x3, x4, rfl, sG, hall⟩ := h
        obtain ⟨q1, q2⟩ := qn hall
        have s3 := s1.trans sG
        refine ⟨_, rfl, x, _, rfl, .inr (Same.sqT s3 hX), _, rfl, q, _, rfl, .inr (sqT_new (sG _ _ eq)), _, _, rfl, rfl, _, rfl, ite2 (fun c => ?_) (fun c => ?_)⟩
        · have c := of_decide_eq_true c
          rw [List.length_map] at c
          refine ⟨_, rfl, x, _, rfl, .inr (Same.sqT s3 hX), atW_mk ((q1 (by omega)).mono s3)⟩
        · have c := of_decide_eq_false (Bool.eq_false_iff.mpr c)
          rw [List.length_map] at c
          exact q2 (by omega) G s3
/-- the dealing that gives each deed what g tells -/
def DlAt (H : Hp) (q : Addr) (ds : List Str) (g : Str → Str) : Prop := ∃ L : List Addr, H q = some (.tup (L.map V.ref)) ∧ L.length = ds.length ∧ ∀ (i : Nat) (c : Addr) (d : Str), L[i]? = some c → ds[i]? = some d → H c = some (.tup [.str d, .str (g d)])
def spDesk1 (K : PySem.W.Frag) (CB : Addr) : Sp := fun vs H Q _ => ∃ (p a : Addr) (cs : List CA) (ds : List Str) (k : Str), vs = [.ref p, .str k] ∧ BookAt K CB H p a cs ∧ ds.Perm (uniq (dns cs)) ∧ sortedS ds = true ∧ ∀ H' q, Same H H' → DlAt H' q ds (fun _ => k) → Q (.ref q) H'
def spOwnD (K : PySem.W.Frag) (CB : Addr) : Sp := fun vs H Q _ => ∃ (p a : Addr) (cs : List CA) (ds : List Str), vs = [.ref p] ∧ BookAt K CB H p a cs ∧ ds.Perm (uniq (dns cs)) ∧ sortedS ds = true ∧ ∀ H' q, Same H H' → DlAt H' q ds (fun d => d) → Q (.ref q) H'
abbrev nOd : List Str := ["book", "desk", "deed"]
theorem scOd : FnScope nOd ["book", "desk"] (defScope sOneDesk) := ⟨rfl, rfl, rfl, by decide +kernel, rfl, by decide +kernel, by decide +kernel⟩
theorem ok_onedesk {f CB fM : Addr} {fd fdM : FuncData} (B : BkC K mg CB) (F : FunD K "one_desk" "one_desk" (defArgs sOneDesk) (defBody sOneDesk) (defScope sOneDesk) [] [("desk", .str "one")] f fd) (N : Nones mg) (GM_deeds : FnOk P w K mg base CX0 2 fM fdM ["self"] (spBkDeeds K CB)) (bM_deeds : Binds K fdM ["self"] []) (m_deeds : Meth K CB "deeds" fM) : FnOk P w K mg base CX0 3 f fd ["book", "desk"] (spDesk1 K CB) := by
  refine F.ok scOd (fun vs H Q E h => ?_) (fun cdv A outer s H vs Q E hr h => ?_)
  · obtain ⟨p, a, cs, ds, k, rfl, _⟩ := h
    rfl
  · obtain ⟨p, a, cs, ds, k, rfl, hB, hp, hs, fin⟩ := h
    refine ⟨_, pss_one (ps_ret (pe_callTy call_tuple_of (by rfl) N.tuple (by decide +kernel) (pa_cons (pe_lc (own := [("deed", 2)]) (g := gName 2) (tt := tYes) rfl scOd.nd (pi_tup (pe_meth0 (pv 0) B.cl m_deeds GM_deeds (hr.mono (by decide)) bM_deeds .nil pass0)) (blkOk_by (own := [("deed", 2)]) (N := nOd) (sc := defScope sOneDesk) (by decide +kernel)) (fun _ _ _ _ _ => (pg_name (i := 2) scOd.nd rfl (Or.inl rfl))) (fun _ _ _ _ _ => pts_nil) (fun _ _ _ _ _ => (pe_tup (pa_cons (pv 2) (pa_cons (pv 1) pa_nil))))) pa_nil))), ?_⟩
    obtain ⟨dx, fs, b1, b2, b3, b4, b5⟩ := id hB
    refine ⟨_, rfl, p, dx, fs, rfl, b1, b3, p, a, cs, rfl, hB, fun H1 q ds2 s1 nq eq hp2 hs2 => ?_⟩
    obtain rfl : ds2 = ds := sorted_uniq hs2 hs (hp2.trans hp.symm)
    have d12 : ds2.length ≤ 12 := by rw [hp.length_eq]; exact b5.d12
    refine ⟨q, rfl, ⟨_, sqT_new eq⟩, fun D nD => ?_⟩
    refine lc_it (walk_tup (K := K) (a := q) (xs := ds2.map V.str)) (fun i G => ∃ L : List Addr, Same H1 G ∧ G D = some (.lst (L.map V.ref)) ∧ L.length = i ∧ ∀ (i : Nat) (c : Addr) (d : Str), L[i]? = some c → ds2[i]? = some d → G c = some (.tup [.str d, .str k])) ⟨[], same_new nD, upd_same, rfl, fun i c d h => by simp at h⟩ (fun _ _ _ h => sqT_new (h.choose_spec.1 _ _ eq)) (fun i x G G' hi h y => ?_) (fun G h => ?_)
    · obtain ⟨rfl, hy⟩ := y
      obtain ⟨d, hd, rfl⟩ := get_map hy
      obtain ⟨L, sG, eG, lL, tL⟩ := h
      rw [List.length_map] at hi
      refine ⟨rfl, .str d, rfl, .str k, rfl, smallE (by show 2 ≤ 1000000; decide), fun b nb => ?_⟩
      have sb := same_new (o := .tup [V.str d, V.str k]) nb
      have eb : upd G' b (.tup [V.str d, V.str k]) b = some (.tup [V.str d, V.str k]) := upd_same
      have nDt : ∀ {c : Addr} {xs : List V}, upd G' b (.tup [V.str d, V.str k]) c = some (.tup xs) → c ≠ D := fun e z => by
        rw [z, sb _ _ eG] at e
        cases e
      refine ⟨_, sb _ _ eG, by rw [List.length_map]; exact small (by omega), L ++ [b], fun c o e => ?_, ?_, by rw [List.length_append, lL]; rfl, fun j c d2 hj hd2 => ?_⟩
      · rw [upd_ne (ne_of_none e nD)]
        exact sb _ _ (sG _ _ e)
      · rw [upd_same, List.map_append]
        rfl
      · by_cases hji : j < i
        · rw [List.getElem?_append_left (by omega)] at hj
          have := sb _ _ (tL j c d2 hj hd2)
          rw [upd_ne (nDt this)]
          exact this
        · have hj2 := lt_of_get hj
          rw [List.length_append, List.length_singleton] at hj2
          obtain rfl : j = i := by omega
          rw [List.getElem?_append_right (by omega), lL, Nat.sub_self] at hj
          cases hj
          rw [hd] at hd2
          cases hd2
          rw [upd_ne (nDt eb)]
          exact eb
    · obtain ⟨L, sG, eG, lL, tL⟩ := h
      rw [List.length_map] at lL
      refine ⟨D, _, rfl, .inl ⟨sqL_new eG, fun t nt => ?_⟩⟩
      have st := same_new (o := .tup (L.map V.ref)) nt
      exact fin _ t ((s1.trans sG).trans st) ⟨L, upd_same, lL, fun i c d h1 h2 => st _ _ (tL i c d h1 h2)⟩
abbrev nOw : List Str := ["book", "deed"]
theorem scOw : FnScope nOw ["book"] (defScope sOwnDesks) := ⟨rfl, rfl, rfl, by decide +kernel, rfl, by decide +kernel, by decide +kernel⟩
theorem ok_owndesks {f CB fM : Addr} {fd fdM : FuncData} (B : BkC K mg CB) (F : Fun K "own_desks" "own_desks" sOwnDesks f fd) (N : Nones mg) (GM_deeds : FnOk P w K mg base CX0 2 fM fdM ["self"] (spBkDeeds K CB)) (bM_deeds : Binds K fdM ["self"] []) (m_deeds : Meth K CB "deeds" fM) : FnOk P w K mg base CX0 3 f fd ["book"] (spOwnD K CB) := by
  refine F.ok scOw (fun vs H Q E h => ?_) (fun cdv A outer s H vs Q E hr h => ?_)
  · obtain ⟨p, a, cs, ds, rfl, _⟩ := h
    rfl
  · obtain ⟨p, a, cs, ds, rfl, hB, hp, hs, fin⟩ := h
    refine ⟨_, pss_one (ps_ret (pe_callTy call_tuple_of (by rfl) N.tuple (by decide +kernel) (pa_cons (pe_lc (own := [("deed", 1)]) (g := gName 1) (tt := tYes) rfl scOw.nd (pi_tup (pe_meth0 (pv 0) B.cl m_deeds GM_deeds (hr.mono (by decide)) bM_deeds .nil pass0)) (blkOk_by (own := [("deed", 1)]) (N := nOw) (sc := defScope sOwnDesks) (by decide +kernel)) (fun _ _ _ _ _ => (pg_name (i := 1) scOw.nd rfl (Or.inl rfl))) (fun _ _ _ _ _ => pts_nil) (fun _ _ _ _ _ => (pe_tup (pa_cons (pv 1) (pa_cons (pv 1) pa_nil))))) pa_nil))), ?_⟩
    obtain ⟨dx, fs, b1, b2, b3, b4, b5⟩ := id hB
    refine ⟨_, rfl, p, dx, fs, rfl, b1, b3, p, a, cs, rfl, hB, fun H1 q ds2 s1 nq eq hp2 hs2 => ?_⟩
    obtain rfl : ds2 = ds := sorted_uniq hs2 hs (hp2.trans hp.symm)
    have d12 : ds2.length ≤ 12 := by rw [hp.length_eq]; exact b5.d12
    refine ⟨q, rfl, ⟨_, sqT_new eq⟩, fun D nD => ?_⟩
    refine lc_it (walk_tup (K := K) (a := q) (xs := ds2.map V.str)) (fun i G => ∃ L : List Addr, Same H1 G ∧ G D = some (.lst (L.map V.ref)) ∧ L.length = i ∧ ∀ (i : Nat) (c : Addr) (d : Str), L[i]? = some c → ds2[i]? = some d → G c = some (.tup [.str d, .str d])) ⟨[], same_new nD, upd_same, rfl, fun i c d h => by simp at h⟩ (fun _ _ _ h => sqT_new (h.choose_spec.1 _ _ eq)) (fun i x G G' hi h y => ?_) (fun G h => ?_)
    · obtain ⟨rfl, hy⟩ := y
      obtain ⟨d, hd, rfl⟩ := get_map hy
      obtain ⟨L, sG, eG, lL, tL⟩ := h
      rw [List.length_map] at hi
      refine ⟨rfl, .str d, rfl, .str d, rfl, smallE (by show 2 ≤ 1000000; decide), fun b nb => ?_⟩
      have sb := same_new (o := .tup [V.str d, V.str d]) nb
      have eb : upd G' b (.tup [V.str d, V.str d]) b = some (.tup [V.str d, V.str d]) := upd_same
      have nDt : ∀ {c : Addr} {xs : List V}, upd G' b (.tup [V.str d, V.str d]) c = some (.tup xs) → c ≠ D := fun e z => by
        rw [z, sb _ _ eG] at e
        cases e
      refine ⟨_, sb _ _ eG, by rw [List.length_map]; exact small (by omega), L ++ [b], fun c o e => ?_, ?_, by rw [List.length_append, lL]; rfl, fun j c d2 hj hd2 => ?_⟩
      · rw [upd_ne (ne_of_none e nD)]
        exact sb _ _ (sG _ _ e)
      · rw [upd_same, List.map_append]
        rfl
      · by_cases hji : j < i
        · rw [List.getElem?_append_left (by omega)] at hj
          have := sb _ _ (tL j c d2 hj hd2)
          rw [upd_ne (nDt this)]
          exact this
        · have hj2 := lt_of_get hj
          rw [List.length_append, List.length_singleton] at hj2
          obtain rfl : j = i := by omega
          rw [List.getElem?_append_right (by omega), lL, Nat.sub_self] at hj
          cases hj
          rw [hd] at hd2
          cases hd2
          rw [upd_ne (nDt eb)]
          exact eb
    · obtain ⟨L, sG, eG, lL, tL⟩ := h
      rw [List.length_map] at lL
      refine ⟨D, _, rfl, .inl ⟨sqL_new eG, fun t nt => ?_⟩⟩
      have st := same_new (o := .tup (L.map V.ref)) nt
      exact fin _ t ((s1.trans sG).trans st) ⟨L, upd_same, lL, fun i c d h1 h2 => st _ _ (tL i c d h1 h2)⟩
end
end Kb
namespace Kb
open PySem PySem.Spec PyProof.Rows L2
/-! ### the law's own: in, part, by, book, row -/
section
variable {P : Program} {w : World} {K : PySem.W.Frag} {mg : Str → Option Value} {base : Heap}
def spLawIn (K : PySem.W.Frag) : Sp := fun vs H Q _ => ∃ (a b : Addr) (us zs : List Str), vs = [.ref a, .ref b] ∧ SqT K H a (us.map V.str) ∧ SqT K H b (zs.map V.str) ∧ us.length ≤ 1000 ∧ Q (.bl (sub us zs)) H
theorem sub_nil {us : List Str} : sub us [] = decide (us = []) := by
  cases us <;> rfl
abbrev nLi : List Str := ["u", "v", "at", "deed"]
theorem scLi : FnScope nLi ["u", "v"] (defScope sLawIn) := ⟨rfl, rfl, rfl, by decide +kernel, rfl, by decide +kernel, by decide +kernel⟩
theorem ok_lawin {f : Addr} {fd : FuncData} (F : Fun K "_law_in" "_law_in" sLawIn f fd) (N : Nones mg) : FnOk P w K mg base CX0 1 f fd ["u", "v"] (spLawIn K) := by
  refine F.ok scLi (fun vs H Q E h => ?_) (fun cdv A outer s H vs Q E hr h => ?_)
  · obtain ⟨a, b, us, zs, rfl, _⟩ := h
    rfl
  · obtain ⟨a, b, us, zs, rfl, hA, hB, hz, q⟩ := h
    refine ⟨_, pss_cons (ps_set (i := 2) scLi.nd rfl (Or.inl rfl) pe_int)
      (pss_cons (ps_for PassesOwn.never rfl (pi_tup (pv 1)) (pg_name (i := 3) scLi.nd rfl (Or.inl rfl))
        (pss_one (ps_if (PW.pt (pw_and (pt_cmpR op_lt (pv 2) (pe_callB call_len_seq (by rfl) N.len PySem.boot_len (pa_cons (pv 0) pa_nil)) (nomark _)) (pw_and1 (pt_cmpR op_eq (pe_ix ix_tup (pv 0) (pv 2) (fun _ _ => rfl)) (pv 3) (nomark _))))) (pss_one (ps_set (i := 2) scLi.nd rfl (Or.inl rfl) (pe_op op_add (pv 2) pe_int))) pss_nil)))
      (pss_one (ps_ret (pe_cmpR op_eq (pv 2) (pe_callB call_len_seq (by rfl) N.len PySem.boot_len (pa_cons (pv 0) pa_nil)) (nomark _))))), ?_⟩
    refine ⟨_, rfl, b, rfl, ⟨_, hB⟩, ?_⟩
    refine for_it (walk_tup (K := K) (a := b) (xs := zs.map V.str)) (fun i σ G => ∃ (n : Nat) (x3 : Option V), σ = [some (.ref a), some (.ref b), some (.int (n : Nat)), x3] ∧ G = H ∧ n ≤ us.length ∧ sub us zs = sub (us.drop n) (zs.drop i)) ⟨0, none, rfl, rfl, Nat.zero_le _, rfl⟩ (fun i σ G _ h => ?_) (fun i y σ G G' hi h yy => ?_) (fun σ G h => ?_)
    · obtain ⟨_, _, _, rfl, _⟩ := h
      exact hB
    · obtain ⟨rfl, hy⟩ := yy
      obtain ⟨z, hz2, rfl⟩ := get_map hy
      obtain ⟨n, x3, rfl, rfl, hn, hs⟩ := h
      refine ⟨_, rfl, _, rfl, a, _, rfl, .inr hA, _, _, rfl, rfl, _, rfl, ite2 (fun c => ?_) (fun c => ?_)⟩
      · have c : n < us.length := by
          have := of_decide_eq_true c
          rw [List.length_map] at this
          omega
        have hg : us[n]? = some (us[n]'c) := List.getElem?_eq_getElem c
        generalize us[n]'c = x at hg
        have hgm : (us.map V.str)[n]? = some (.str x) := by rw [List.getElem?_map, hg]; rfl
        rw [drop_of_get hg, drop_of_get hz2] at hs
        refine ⟨_, rfl, .int (n : Nat), rfl, a, _, _, _, rfl, rfl, hA, atI_nat hgm, _, rfl, rfl, _, rfl, ite2 (fun c2 => ?_) (fun c2 => ?_)⟩
        · have c2 : x = z := by
            have := of_decide_eq_true c2
            injection this
          rw [sub, if_pos c2] at hs
          refine ⟨_, rfl, _, _, rfl, rfl, n + 1, _, rfl, rfl, c, hs⟩
        · have c2 : ¬ x = z := fun e => c2 (decide_eq_true (by rw [e]))
          rw [sub, if_neg c2] at hs
          exact ⟨n, _, rfl, rfl, hn, by rw [drop_of_get hg]; exact hs⟩
      · have c : n = us.length := by
          have := of_decide_eq_false (Bool.eq_false_iff.mpr c)
          rw [List.length_map] at this
          omega
        refine iteF ?_
        refine ⟨n, _, rfl, rfl, hn, ?_⟩
        rw [hs, c, List.drop_length]
        simp [sub]
    · obtain ⟨n, x3, rfl, rfl, hn, hs⟩ := h
      rw [List.length_map, List.drop_length, sub_nil] at hs
      refine ⟨_, rfl, _, rfl, a, _, rfl, .inr hA, rfl, ?_⟩
      have e : decide (V.int (n : Nat) = V.int (((us.map V.str).length : Nat) : Int)) = sub us zs := by
        rw [hs, List.length_map]
        by_cases h : n = us.length
        · rw [decide_eq_true (by rw [h]), decide_eq_true (by rw [h, List.drop_length])]
        · rw [decide_eq_false (fun e => by injection e with e; omega), decide_eq_false (fun e => by
            have := congrArg List.length e
            rw [List.length_drop] at this
            simp at this
            omega)]
      dsimp only
      rw [e]
      exact q
def spLawPart (K : PySem.W.Frag) : Sp := fun vs H Q _ => ∃ (d r : Addr) (k : Str) (ps : List DP) (us : List Str), vs = [.ref d, .str k, .ref r] ∧ Rd H d (.dK (byKV ps)) ∧ SqT K H r (us.map V.str) ∧ us.length ≤ 1000 ∧ bad ps us = none ∧ ∀ H' p, Same H H' → H p = none → H' p = some (.tup ((partL ps k us).map V.str)) → Q (.ref p) H'
abbrev nLp : List Str := ["deal", "desk", "row", "deed"]
theorem scLp : FnScope nLp ["deal", "desk", "row"] (defScope sLawPart) := ⟨rfl, rfl, rfl, by decide +kernel, rfl, by decide +kernel, by decide +kernel⟩
theorem ok_lawpart {f : Addr} {fd : FuncData} (F : Fun K "_law_part" "_law_part" sLawPart f fd) (N : Nones mg) : FnOk P w K mg base CX0 1 f fd ["deal", "desk", "row"] (spLawPart K) := by
  refine F.ok scLp (fun vs H Q E h => ?_) (fun cdv A outer s H vs Q E hr h => ?_)
  · obtain ⟨d, r, k, ps, us, rfl, _⟩ := h
    rfl
  · obtain ⟨d, r, k, ps, us, rfl, hD, hR, hz, hb, q⟩ := h
    refine ⟨_, pss_one (ps_ret (pe_callTy call_tuple_of (by rfl) N.tuple (by decide +kernel) (pa_cons (pe_lc (own := [("deed", 3)]) (g := gName 3) rfl scLp.nd (pi_tup (pv 2)) (blkOk_by (own := [("deed", 3)]) (N := nLp) (sc := defScope sLawPart) (by decide +kernel)) (fun _ _ _ _ _ => (pg_name (i := 3) scLp.nd rfl (Or.inl rfl))) (fun _ _ _ _ _ => pts_one (pt_cmpR op_eq (pe_dget (hu_of hr) (pv 0) (pv 3) (fun _ _ => rfl)) (pv 1) (nomark _))) (fun _ _ _ _ _ => (pv 3))) pa_nil))), ?_⟩
    refine ⟨_, rfl, r, rfl, ⟨_, hR⟩, fun L nL => ?_⟩
    refine lc_it (walk_tup (K := K) (a := r) (xs := us.map V.str)) (fun i G => Same H G ∧ G L = some (.lst ((partL ps k (us.take i)).map V.str))) ⟨same_new nL, upd_same⟩ (fun _ _ _ h => Same.sqT h.1 hR) (fun i x G G' hi h y => ?_) (fun G h => ?_)
    · obtain ⟨rfl, hy⟩ := y
      obtain ⟨x, hx, rfl⟩ := get_map hy
      obtain ⟨sG, eG⟩ := h
      obtain ⟨k2, hk⟩ := bad_none hb (List.mem_of_getElem? hx)
      have hg : DGet G' d (.str x) (some (.str k2)) := .inl ⟨byKV ps, Sum.inr x, Rd.mono hD sG, rfl, by rw [valV_by, hk]; rfl⟩
      refine ⟨rfl, _, rfl, _, rfl, d, .str k2, rfl, hg, _, rfl, rfl, _, rfl, ite2 (fun c => ?_) (fun c => ?_)⟩
      · have c : k2 = k := by
          have := of_decide_eq_true c
          injection this
        refine ⟨_, rfl, _, eG, ?_, fun b o e => ?_, ?_⟩
        · have := partL_len ps k (us.take i)
          rw [List.length_take] at this
          rw [List.length_map]
          exact small (by omega)
        · rw [upd_ne (ne_of_none e nL)]
          exact sG _ _ e
        · rw [upd_same, partL_snoc hx, hk, c, if_pos rfl, List.map_append]
          rfl
      · have c : ¬ k2 = k := fun e => c (decide_eq_true (by rw [e]))
        refine ⟨sG, ?_⟩
        rw [eG, partL_snoc hx, hk, if_neg (fun e => c (Option.some.inj e)), List.append_nil]
    · obtain ⟨sG, eG⟩ := h
      rw [List.length_map, List.take_of_length_le (Nat.le_refl _)] at eG
      refine ⟨L, _, rfl, .inl ⟨sqL_new eG, fun t nt => ?_⟩⟩
      exact q _ t (sG.trans (same_new nt)) (sG.free nt) upd_same
end
end Kb
namespace Kb
open PySem PySem.Spec PyProof.Rows L2
/-! ### the law's own: by, book, row -/
theorem by_eq {ps : List DP} {us zs ds : List Str} (isd : IsDesks ps ds) : (ps.all fun p => sub (partL ps p.2.2 us) (partL ps p.2.2 zs)) = withinB ps us zs ds := by
  unfold withinB
  rw [Bool.eq_iff_iff, List.all_eq_true, List.all_eq_true]
  refine ⟨fun h k hk => ?_, fun h p hp => h _ ((isd_mem isd _).mpr (List.mem_map.mpr ⟨p, hp, rfl⟩))⟩
  obtain ⟨p, hp, rfl⟩ := List.mem_map.mp ((isd_mem isd k).mp hk)
  exact h p hp
theorem bookNm {c : CA} {ds : List Str} (h : c.ss.map (·.2) = ds.map fun d => (⟨0, false, d, 1⟩ : Stp)) : dns [c] = ds ∧ calls c.ss = [] := by
  have h1 : dn c.ss = ds := by
    have : dn c.ss = ((c.ss.map (·.2)).filter fun t => !t.call).map (·.nm) := by
      unfold dn
      rw [List.filter_map, List.map_map]
      rfl
    rw [this, h, List.filter_map, List.map_map]
    have : (ds.filter ((fun t : Stp => !t.call) ∘ fun d => (⟨0, false, d, 1⟩ : Stp))) = ds := List.filter_eq_self.mpr fun a _ => rfl
    rw [this]
    exact List.map_id' _
  refine ⟨by rw [dns_one, h1], ?_⟩
  have : calls c.ss = ((c.ss.map (·.2)).filter fun t => t.call).map (·.nm) := by
    unfold calls
    rw [List.filter_map, List.map_map]
    rfl
  rw [this, h, List.filter_map]
  have : (ds.filter ((fun t : Stp => t.call) ∘ fun d => (⟨0, false, d, 1⟩ : Stp))) = [] := List.filter_eq_nil_iff.mpr fun a _ => by simp
  rw [this]
  rfl
theorem uniq_id : ∀ {l : List Str}, l.Nodup → uniq l = l := by
  intro l
  refine uniq_ind (C := fun l u => l.Nodup → u = l) (fun _ => rfl) (fun l d h nd => ?_) l
  rw [List.nodup_append] at nd
  have e := h nd.1
  unfold addD
  rw [e, if_neg fun z => nd.2.2 d z d List.mem_cons_self rfl]
theorem bookOk {c : CA} {ds : List Str} (hn : isName c.nm = true) (h2 : c.n = 2) (he : c.es = [1]) (h : c.ss.map (·.2) = ds.map fun d => (⟨0, false, d, 1⟩ : Stp)) (nd : ds.Nodup) (hd : ∀ d ∈ ds, isName d = true) (hz : ds.length ≤ 12) : CsOk [c] := by
  obtain ⟨e1, e2⟩ := bookNm h
  have hl : c.ss.length = ds.length := by
    have := congrArg List.length h
    rwa [List.length_map, List.length_map] at this
  refine ⟨by simp, by simp, fun c2 h3 => ?_, by simp, fun c2 h3 x hx => ?_, by simp [nStages, h2], by rw [e1]; omega, by rw [e1]; exact Nat.le_trans (uniq_len _) hz⟩
  · rw [List.mem_singleton.mp h3]
    refine ⟨hn, by omega, by omega, fun e he2 => ?_, by rw [he]; simp, fun p hp => ?_, ?_, by omega, by rw [he]; decide⟩
    · rw [he, List.mem_singleton] at he2
      omega
    · have : p.2 ∈ c.ss.map (·.2) := List.mem_map.mpr ⟨p, hp, rfl⟩
      rw [h] at this
      obtain ⟨d, hd2, e⟩ := List.mem_map.mp this
      rw [← e]
      exact ⟨by show 0 < c.n; omega, by show 1 < c.n; omega, hd d hd2⟩
    · rw [h]
      exact nd_map (fun a b e => by injection e) nd
  · rw [List.mem_singleton.mp h3, e2] at hx
    cases hx
section
variable {P : Program} {w : World} {K : PySem.W.Frag} {mg : Str → Option Value} {base : Heap}
def spLawBy (K : PySem.W.Frag) : Sp := fun vs H Q _ => ∃ (d r t : Addr) (ps : List DP) (us zs : List Str), vs = [.ref d, .ref r, .ref t] ∧ H d = some (.dK (byKV ps)) ∧ DOk ps ∧ SqT K H r (us.map V.str) ∧ us.length ≤ 1000 ∧ bad ps us = none ∧ SqT K H t (zs.map V.str) ∧ zs.length ≤ 1000 ∧ bad ps zs = none ∧ ∀ H', Same H H' → Q (.bl (ps.all fun p => sub (partL ps p.2.2 us) (partL ps p.2.2 zs))) H'
abbrev nLb : List Str := ["deal", "u", "v", "desk"]
theorem scLb : FnScope nLb ["deal", "u", "v"] (defScope sLawBy) := ⟨rfl, rfl, rfl, by decide +kernel, rfl, by decide +kernel, by decide +kernel⟩
theorem ok_lawby {f fI fP : Addr} {fd fdI fdP : FuncData} (F : Fun K "_law_by" "_law_by" sLawBy f fd) (N : Nones mg) (G__law_in : FnOk P w K mg base CX0 1 fI fdI ["u", "v"] (spLawIn K)) (C__law_in : CallC K mg "_law_in" ["u", "v"] fI fdI) (G__law_part : FnOk P w K mg base CX0 1 fP fdP ["deal", "desk", "row"] (spLawPart K)) (C__law_part : CallC K mg "_law_part" ["deal", "desk", "row"] fP fdP) : FnOk P w K mg base CX0 2 f fd ["deal", "u", "v"] (spLawBy K) := by
  refine F.ok scLb (fun vs H Q E h => ?_) (fun cdv A outer s H vs Q E hr h => ?_)
  · obtain ⟨d, r, t, ps, us, zs, rfl, _⟩ := h
    rfl
  · obtain ⟨d, r, t, ps, us, zs, rfl, hD, ok, hR, hz, hb, hT, hz2, hb2, q⟩ := h
    refine ⟨_, pss_one (ps_ret (pe_callB (cr_all rfl) (by rfl) N.all (by decide +kernel) (pa_cons (pe_lock (pe_lc (own := [("desk", 3)]) (g := gName 3) (tt := tYes) rfl scLb.nd (pi_values (pv 0)) (blkOk_by (own := [("desk", 3)]) (N := nLb) (sc := defScope sLawBy) (by decide +kernel)) (fun _ _ _ _ _ => (pg_name (i := 3) scLb.nd rfl (Or.inl rfl))) (fun _ _ _ _ _ => pts_nil) (fun _ _ _ _ _ => (pe_call G__law_in (hr.mono (by decide)) (by rfl) C__law_in.g C__law_in.kp C__law_in.b .nil pass0 (pa_cons (pe_call G__law_part (hr.mono (by decide)) (by rfl) C__law_part.g C__law_part.kp C__law_part.b .nil pass0 (pa_cons (pv 0) (pa_cons (pv 3) (pa_cons (pv 1) pa_nil)))) (pa_cons (pe_call G__law_part (hr.mono (by decide)) (by rfl) C__law_part.g C__law_part.kp C__law_part.b .nil pass0 (pa_cons (pv 0) (pa_cons (pv 3) (pa_cons (pv 2) pa_nil)))) pa_nil)))))) pa_nil))), ?_⟩
    refine ⟨d, _, hD, True.intro, fun od => ?_⟩
    generalize hL : upd H d (.frz od (.dK (byKV ps))) = L
    have fL : L d = some (.frz od (.dK (byKV ps))) := by rw [← hL]; exact upd_same
    have kL : But d H L := by rw [← hL]; exact But.upd
    have keepT : ∀ {b : Addr} {xs : List V}, SqT K H b xs → SqT K L b xs := fun {b xs} h => by
      rcases h with (h | ⟨o, h⟩) | h
      · exact .inl (.inl (kL _ _ (fun e => by rw [e, hD] at h; cases h) h))
      · exact .inl (.inr ⟨o, kL _ _ (fun e => by rw [e, hD] at h; cases h) h⟩)
      · exact .inr h
    have hR' := keepT hR
    have hT' := keepT hT
    have sz := ok.sz
    refine ⟨_, rfl, d, od, _, rfl, fL, fun D nD => ?_⟩
    refine lc_pure (walk_values (d := d) (o := od) (kvs := byKV ps)) ((ps.map fun p => sub (partL ps p.2.2 us) (partL ps p.2.2 zs)).map V.bl) (by rw [List.length_map, List.length_map, byKV_len]) nD (fun G s => s _ _ fL) (fun i x H0 H' hi h0 y => ?_) (fun H' s' e => ?_)
    · obtain ⟨rfl, k, hkv⟩ := y
      obtain ⟨p, hp, e⟩ := get_map hkv
      cases e
      refine ⟨rfl, _, rfl, .str p.2.2, rfl, _, rfl, d, r, p.2.2, ps, us, rfl, .inr ⟨od, h0.1 _ _ fL⟩, Same.sqT h0.1 hR', hz, hb, fun H2 p1 s2 n1 e1 => ?_⟩
      refine ⟨_, rfl, .str p.2.2, rfl, _, rfl, d, t, p.2.2, ps, zs, rfl, .inr ⟨od, s2 _ _ (h0.1 _ _ fL)⟩, Same.sqT s2 (Same.sqT h0.1 hT'), hz2, hb2, fun H3 p2 s3 n2 e2 => ?_⟩
      have l1 := partL_len ps p.2.2 us
      refine ⟨p1, p2, _, _, rfl, sqT_new (s3 _ _ e1), sqT_new e2, by omega, ?_⟩
      refine h0.put nD (s2.trans s3) ?_ (by rw [List.length_map, List.length_map]; omega)
      rw [List.getElem?_map, List.getElem?_map, hp]
      rfl
    · have fH := s' _ _ fL
      refine ⟨fH, D, _, rfl, sqL_new (by rw [upd_ne (fun z => by rw [z, fH] at e; cases e)]; exact e), ?_⟩
      rw [List.all_map]
      refine q _ fun b o eb => ?_
      by_cases hbd : b = d
      · rw [hbd] at eb ⊢
        rw [upd_same]
        exact hD.symm.trans eb
      · rw [upd_ne hbd]
        exact s' _ _ (kL _ _ hbd eb)
def spLawBook (K : PySem.W.Frag) (CB : Addr) : Sp := fun vs H Q _ => ∃ (a : Addr) (nm : Str) (ds : List Str), vs = [.str nm, .ref a] ∧ H a = some (.lst (ds.map V.str)) ∧ isName nm = true ∧ ds.Nodup ∧ (∀ d ∈ ds, isName d = true) ∧ ds.length ≤ 12 ∧ ∀ H' p ca cs, Same H H' → BookAt K CB H' p ca cs → dns cs = ds → Q (.ref p) H'
abbrev nLk : List Str := ["name", "deeds", "deed"]
theorem scLk : FnScope nLk ["name", "deeds"] (defScope sLawBook) := ⟨rfl, rfl, rfl, by decide +kernel, rfl, by decide +kernel, by decide +kernel⟩
theorem ok_lawbook {f CB fI : Addr} {fd fdI : FuncData} (F : Fun K "_law_book" "_law_book" sLawBook f fd) (N : Nones mg) (B : BkC K mg CB) (M_Book : Mk K CB fI) (G_Book : FnOk P w K mg base CX0 8 fI fdI ["self", "courses"] (spBkInit K CB)) (b_Book : Binds K fdI ["self", "courses"] []) : FnOk P w K mg base CX0 10 f fd ["name", "deeds"] (spLawBook K CB) := by
  refine F.ok scLk (fun vs H Q E h => ?_) (fun cdv A outer s H vs Q E hr h => ?_)
  · obtain ⟨a, nm, ds, rfl, _⟩ := h
    rfl
  · obtain ⟨a, nm, ds, rfl, hA, hn, nd, hd, hz, q⟩ := h
    refine ⟨_, pss_one (ps_ret (pe_make M_Book G_Book (hr.mono (by decide)) (by rfl) B.mgC b_Book .nil pass0 (pa_cons (pe_tup (pa_cons (pe_tup (pa_cons (pv 0) (pa_cons pe_int (pa_cons (pe_tup (pa_cons pe_int pa_nil)) (pa_cons (pe_callTy call_tuple_of (by rfl) N.tuple (by decide +kernel) (pa_cons (pe_lc (own := [("deed", 2)]) (g := gName 2) (tt := tYes) rfl scLk.nd (pi_list (pv 1)) (blkOk_by (own := [("deed", 2)]) (N := nLk) (sc := defScope sLawBook) (by decide +kernel)) (fun _ _ _ _ _ => (pg_name (i := 2) scLk.nd rfl (Or.inl rfl))) (fun _ _ _ _ _ => pts_nil) (fun _ _ _ _ _ => (pe_tup (pa_cons pe_int (pa_cons pe_str (pa_cons (pv 2) (pa_cons pe_int pa_nil))))))) pa_nil)) pa_nil))))) pa_nil)) pa_nil))), ?_⟩
    refine ⟨.str nm, rfl, smallE (by show 1 ≤ 1000000; decide), fun e1 ne1 => ?_⟩
    have s1 := same_new (o := .tup [V.int 1]) ne1
    have ee : upd H e1 (.tup [V.int 1]) e1 = some (.tup (natV [1])) := upd_same
    generalize upd H e1 (.tup [V.int 1]) = H1 at s1 ee
    refine ⟨.ref a, rfl, a, rfl, ⟨_, sqL_new (s1 _ _ hA)⟩, fun D nD => ?_⟩
    refine lc_it (walk_list (K := K) (a := a) (xs := ds.map V.str)) (fun i G => ∃ ss : List (Addr × Stp), Same H1 G ∧ G D = some (.lst (ss.map fun p => V.ref p.1)) ∧ ss.map (·.2) = (ds.take i).map (fun d => (⟨0, false, d, 1⟩ : Stp)) ∧ ∀ p ∈ ss, G p.1 = some (.tup (stpV p.2))) ⟨[], same_new nD, upd_same, rfl, fun p hp => nomatch hp⟩ (fun _ _ _ h => sqL_new (h.choose_spec.1 _ _ (s1 _ _ hA))) (fun i x G G' hi h y => ?_) (fun G h => ?_)
    · obtain ⟨rfl, hy⟩ := y
      obtain ⟨d, hd2, rfl⟩ := get_map hy
      obtain ⟨ss, sG, eG, kS, tS⟩ := h
      rw [List.length_map] at hi
      have lenS : ss.length = i := by
        have := congrArg List.length kS
        rw [List.length_map, List.length_map, List.length_take] at this
        omega
      refine ⟨rfl, .str d, rfl, smallE (by show 4 ≤ 1000000; decide), fun b nb => ?_⟩
      have sb := same_new (o := .tup [V.int 0, V.str "do", V.str d, V.int 1]) nb
      have eb : upd G' b (.tup [V.int 0, V.str "do", V.str d, V.int 1]) b = some (.tup (stpV ⟨0, false, d, 1⟩)) := upd_same
      have nDt : ∀ {c : Addr} {xs : List V}, upd G' b (.tup [V.int 0, V.str "do", V.str d, V.int 1]) c = some (.tup xs) → c ≠ D := fun e z => by
        rw [z, sb _ _ eG] at e
        cases e
      refine ⟨_, sb _ _ eG, by rw [List.length_map]; exact small (by omega), ss ++ [(b, ⟨0, false, d, 1⟩)], fun c o e => ?_, ?_, ?_, fun p hp => ?_⟩
      · rw [upd_ne (ne_of_none e nD)]
        exact sb _ _ (sG _ _ e)
      · rw [upd_same, List.map_append]
        rfl
      · rw [List.map_append, kS, take_of_get hd2, List.map_append]
        rfl
      · rcases List.mem_append.mp hp with z | z
        · have := sb _ _ (tS p z)
          rw [upd_ne (nDt this)]
          exact this
        · rw [List.mem_singleton.mp z, upd_ne (nDt eb)]
          exact eb
    · obtain ⟨ss, sG, eG, kS, tS⟩ := h
      rw [List.length_map, List.take_of_length_le (Nat.le_refl _)] at kS
      refine ⟨D, _, rfl, .inl ⟨sqL_new eG, fun sa nsa => ?_⟩⟩
      have s2 := same_new (o := .tup (ss.map fun p => V.ref p.1)) nsa
      have esa : upd G sa (.tup (ss.map fun p => V.ref p.1)) sa = some (.tup (ss.map fun p => V.ref p.1)) := upd_same
      have tS2 : ∀ p ∈ ss, upd G sa (.tup (ss.map fun p => V.ref p.1)) p.1 = some (.tup (stpV p.2)) := fun p hp => s2 _ _ (tS p hp)
      have ee2 := s2 _ _ (sG _ _ ee)
      have s3 := (s1.trans sG).trans s2
      generalize upd G sa (.tup (ss.map fun p => V.ref p.1)) = G1 at esa tS2 ee2 s3
      refine ⟨smallE (by show 4 ≤ 1000000; decide), fun ca nca => ?_⟩
      have s4 := same_new (o := .tup [V.str nm, V.int 2, V.ref e1, V.ref sa]) nca
      have eca : upd G1 ca (.tup [V.str nm, V.int 2, V.ref e1, V.ref sa]) ca = some (.tup [V.str nm, V.int 2, V.ref e1, V.ref sa]) := upd_same
      have esa := s4 _ _ esa
      have ee2 := s4 _ _ ee2
      have tS3 := fun p hp => s4 _ _ (tS2 p hp)
      have s5 := s3.trans s4
      generalize upd G1 ca (.tup [V.str nm, V.int 2, V.ref e1, V.ref sa]) = G2 at eca esa ee2 tS3 s5
      refine ⟨smallE (by show 1 ≤ 1000000; decide), fun cc ncc => ?_⟩
      have s6 := same_new (o := .tup [V.ref ca]) ncc
      have ecc : upd G2 cc (.tup [V.ref ca]) cc = some (.tup [V.ref ca]) := upd_same
      have eca := s6 _ _ eca
      have esa := s6 _ _ esa
      have ee2 := s6 _ _ ee2
      have tS4 := fun p hp => s6 _ _ (tS3 p hp)
      have s7 := s5.trans s6
      generalize upd G2 cc (.tup [V.ref ca]) = G3 at ecc eca esa ee2 tS4 s7
      intro x dx nx ndx nex
      have s8 : Same G3 (upd (upd G3 dx (.own x)) x (.ins CB dx [])) := fun b o e => by
        rw [upd_ne (ne_of_none e nx), upd_ne (ne_of_none e ndx)]
        exact e
      have ex : upd (upd G3 dx (.own x)) x (.ins CB dx []) x = some (.ins CB dx []) := upd_same
      have nxH := s7.free nx
      have ecc := s8 _ _ ecc
      have eca := s8 _ _ eca
      have esa := s8 _ _ esa
      have ee2 := s8 _ _ ee2
      have tS5 := fun p hp => s8 _ _ (tS4 p hp)
      have s9 := s7.trans s8
      generalize upd (upd G3 dx (.own x)) x (.ins CB dx []) = G4 at ex ecc eca esa ee2 tS5 s9
      have ok := bookOk (c := ⟨ca, nm, 2, e1, [1], sa, ss⟩) hn rfl rfl kS nd hd hz
      refine ⟨x, cc, dx, [⟨ca, nm, 2, e1, [1], sa, ss⟩], rfl, ex, ⟨sqT_new ecc, fun c hc => ?_⟩, ok, fun H' k bk => ⟨rfl, ?_⟩⟩
      · rw [List.mem_singleton.mp hc]
        exact ⟨sqT_new eca, sqT_new ee2, sqT_new esa, tS5⟩
      · exact q H' x cc _ (fun b o e => k _ _ (ne_of_none e nxH) (s9 _ _ e)) bk (bookNm (c := ⟨ca, nm, 2, e1, [1], sa, ss⟩) kS).1
def spLawRow : Sp := fun vs H Q _ => ∃ (x a : Addr) (ds : List Str) (m : Nat), vs = [.ref x, .ref a, .int (m : Nat)] ∧ Box H x ∧ a ≠ x ∧ H a = some (.lst (ds.map V.str)) ∧ 0 < ds.length ∧ ds.length ≤ 1000 ∧ m ≤ 1000 ∧ ∀ (H' : Hp) (p : Addr) (us : List Str), But x H H' → Box H' x → p ≠ x → H' p = some (.tup (us.map V.str)) → us.length ≤ m → (∀ z ∈ us, z ∈ ds) → Q (.ref p) H'
abbrev nLr : List Str := ["box", "deeds", "most", "turn"]
theorem scLr : FnScope nLr ["box", "deeds", "most"] (defScope sLawRow) := ⟨rfl, rfl, rfl, by decide +kernel, rfl, by decide +kernel, by decide +kernel⟩
theorem ok_lawrow {f fT fP : Addr} {fd fdT fdP : FuncData} (F : Fun K "_law_row" "_law_row" sLawRow f fd) (N : Nones mg) (G__law_take : FnOk P w K mg base CX0 1 fT fdT ["box", "many"] spTake) (C__law_take : CallC K mg "_law_take" ["box", "many"] fT fdT) (G__law_pick : FnOk P w K mg base CX0 2 fP fdP ["box", "some"] spPick) (C__law_pick : CallC K mg "_law_pick" ["box", "some"] fP fdP) : FnOk P w K mg base CX0 3 f fd ["box", "deeds", "most"] spLawRow := by
  refine F.ok scLr (fun vs H Q E h => ?_) (fun cdv A outer s H vs Q E hr h => ?_)
  · obtain ⟨x, a, ds, m, rfl, _⟩ := h
    rfl
  · obtain ⟨x, a, ds, m, rfl, hx, hax, hA, h0, h1, hm, q⟩ := h
    refine ⟨_, pss_one (ps_ret (pe_callTy call_tuple_of (by rfl) N.tuple (by decide +kernel) (pa_cons (pe_lc (own := [("turn", 3)]) (g := gName 3) (tt := tYes) rfl scLr.nd (pi_range1 (by rfl) N.range (pa_cons (pe_call G__law_take (hr.mono (by decide)) (by rfl) C__law_take.g C__law_take.kp C__law_take.b .nil pass0 (pa_cons (pv 0) (pa_cons (pe_op op_add (pv 2) pe_int) pa_nil))) pa_nil)) (blkOk_by (own := [("turn", 3)]) (N := nLr) (sc := defScope sLawRow) (by decide +kernel)) (fun _ _ _ _ _ => (pg_name (i := 3) scLr.nd rfl (Or.inl rfl))) (fun _ _ _ _ _ => pts_nil) (fun _ _ _ _ _ => (pe_call G__law_pick (hr.mono (by decide)) (by rfl) C__law_pick.g C__law_pick.kp C__law_pick.b .nil pass0 (pa_cons (pv 0) (pa_cons (pv 1) pa_nil))))) pa_nil))), ?_⟩
    refine ⟨_, rfl, _, rfl, _, 1, rfl, rfl, x, m + 1, rfl, hx, by omega, by omega, fun n H1 hn k1 b1 => ?_⟩
    refine ⟨(n : Nat), rfl, by omega, by omega, fun D nD => ?_⟩
    rw [show ((n : Nat) : Int).toNat = n from rfl]
    have hDx := Box.ne b1 nD
    have hA1 := k1 _ _ hax hA
    refine lc_it (walk_r0 (n := n)) (fun i G => ∃ us : List Str, But x H1 G ∧ Box G x ∧ G D = some (.lst (us.map V.str)) ∧ us.length = i ∧ ∀ z ∈ us, z ∈ ds) ⟨[], But.of (same_new nD), Box.upd b1 hDx, upd_same, rfl, fun z hz => nomatch hz⟩ (fun _ _ _ _ => True.intro) (fun i y G G' hi h yy => ?_) (fun G h => ?_)
    · obtain ⟨rfl, rfl⟩ := yy
      obtain ⟨us, kG, bG, eG, lG, mG⟩ := h
      refine ⟨rfl, _, rfl, _, rfl, x, a, _, rfl, bG, hax, .inl (kG _ _ hax hA1), by rw [List.length_map]; exact h0, by rw [List.length_map]; omega, fun j v G2 hj k2 b2 => ?_⟩
      obtain ⟨z, hz, rfl⟩ := get_map hj
      refine ⟨_, k2 _ _ hDx eG, by rw [List.length_map]; exact small (by omega), us ++ [z], fun c o hc e => ?_, Box.upd b2 hDx, ?_, by rw [List.length_append, lG]; rfl, fun y hy => ?_⟩
      · by_cases hcD : c = D
        · rw [hcD, nD] at e
          cases e
        · rw [upd_ne hcD]
          exact k2 _ _ hc (kG _ _ hc e)
      · rw [upd_same, List.map_append]
        rfl
      · rcases List.mem_append.mp hy with z1 | z1
        · exact mG y z1
        · rw [List.mem_singleton.mp z1]
          exact List.mem_of_getElem? hz
    · obtain ⟨us, kG, bG, eG, lG, mG⟩ := h
      refine ⟨D, _, rfl, .inl ⟨sqL_new eG, fun t nt => ?_⟩⟩
      have ht := Box.ne bG nt
      exact q _ t us ((k1.trans kG).trans (But.of (same_new nt))) (Box.upd bG ht) ht upd_same (by omega) mG
end
end Kb
/-! A call of a def by keywords alone. -/
namespace Ka
open PySem PySem.Spec PyProof.Rows L2
section
variable {X : Cx} {CX : CXT} {k : Nat} {f : Addr} {fd : FuncData} {ps ks : List Str} {sp : Sp} {E : XK} {x : Str} {p pos : Pos} {kws : List Keyword} {tk : TA} {g : List Value → List Value → List Value} {gV : List V → List V → List V}
def tCallK0 (sp : Sp) (gV : List V → List V → List V) (E : XK) (tk : TA) : TE := fun σ H Q => tk σ H fun zs H2 => sp (gV [] zs) H2 Q E
theorem pe_callK0 (F : FnOk X.prog X.w X.K X.mg X.base CX k f fd ps sp) (hr : Room k X.A) (hg : Gl X x) (hm : X.mg x = some (.ref f)) (hk : PySem.W.keepIn X.K (.ref f) = true) (hb : KBinds X.K fd ps ks g gV) (hx : Passes CX X E) (hkw : PK X kws tk)
    (hall : (backToKw pos (keywordEach kws X.env)).all (·.1.isSome) = true := by rfl) (hks : (backToKw pos (keywordEach kws X.env)).filterMap (·.1) = ks := by rfl) (hdb : (x == ("__debug__" : Str)) = false := by decide)
    (hpl : ((backTo pos (starEach [] X.env)).any (·.1) || (backToKw pos (keywordEach kws X.env)).any (·.1.isNone)) = false := by rfl) : PE X (.Call (.Name x p) [] kws pos) (tCallK0 sp gV E tk) := by
  constructor
  intro pins s σ H Q I h
  apply wpAny_Call_Name_kw
  apply ld_glob I hg hm ?_ hdb
  apply PySem.W.callWith_KW0 (h₀ := X.base) I.ok.mod.kin hk hall ?_ hpl
  apply thn (hkw.run pos pins s σ H _ I h)
  rintro ws s2 ⟨zs, H2, I2, rz, q2⟩
  rw [hks]
  exact ⟨I2.kIn, run_fnk F hr hb hx I2 .nil rz q2⟩
end
/-- two parameters, given by name in the other order -/
def swG {α : Type} (us ws : List α) : List α := match us, ws with
  | [], [a, b] => [b, a]
  | _, _ => []
theorem kb_swap {K : PySem.W.Frag} {fd : FuncData} {a b : Str} (h : ∀ x y : Value, bindArgs fd ⟨[], [(b, x), (a, y)]⟩ = pure [(a, y), (b, x)]) : KBinds K fd [a, b] [b, a] swG swG := by
  constructor
  · intro s us ws _ hl
    match us, ws, hl with
    | [], [x, y], _ => exact BindsTo.of_eq (h x y)
    | [], [], hl => exact absurd hl (by simp [swG])
    | [], [_], hl => exact absurd hl (by simp [swG])
    | [], _ :: _ :: _ :: _, hl => exact absurd hl (by simp [swG])
    | _ :: _, _, hl => exact absurd hl (by simp [swG])
  · intro vs us zs ws r rz
    cases r with
    | nil =>
      cases rz with
      | nil => exact .nil
      | cons a r =>
        cases r with
        | nil => exact .nil
        | cons b r =>
          cases r with
          | nil => exact .cons b (.cons a .nil)
          | cons _ _ => exact .nil
    | cons _ _ => exact .nil
/-- one parameter, given by name -/
def snG {α : Type} (us ws : List α) : List α := match us, ws with
  | [], [a] => [a]
  | _, _ => []
theorem kb_one {K : PySem.W.Frag} {fd : FuncData} {a : Str} (h : ∀ x : Value, bindArgs fd ⟨[], [(a, x)]⟩ = pure [(a, x)]) : KBinds K fd [a] [a] snG snG := by
  constructor
  · intro s us ws _ hl
    match us, ws, hl with
    | [], [x], _ => exact BindsTo.of_eq (h x)
    | [], [], hl => exact absurd hl (by simp [snG])
    | [], _ :: _ :: _, hl => exact absurd hl (by simp [snG])
    | _ :: _, _, hl => exact absurd hl (by simp [snG])
  · intro vs us zs ws r rz
    cases r with
    | nil =>
      cases rz with
      | nil => exact .nil
      | cons a r =>
        cases r with
        | nil => exact .cons a .nil
        | cons _ _ => exact .nil
    | cons _ _ => exact .nil
/-- three parameters, given by name from the last to the first -/
def rvG {α : Type} (us ws : List α) : List α := match us, ws with
  | [], [a, b, c] => [c, b, a]
  | _, _ => []
theorem kb_rev3 {K : PySem.W.Frag} {fd : FuncData} {a b c : Str} (h : ∀ x y z : Value, bindArgs fd ⟨[], [(c, x), (b, y), (a, z)]⟩ = pure [(a, z), (b, y), (c, x)]) : KBinds K fd [a, b, c] [c, b, a] rvG rvG := by
  constructor
  · intro s us ws _ hl
    match us, ws, hl with
    | [], [x, y, z], _ => exact BindsTo.of_eq (h x y z)
    | [], [], hl => exact absurd hl (by simp [rvG])
    | [], [_], hl => exact absurd hl (by simp [rvG])
    | [], [_, _], hl => exact absurd hl (by simp [rvG])
    | [], _ :: _ :: _ :: _ :: _, hl => exact absurd hl (by simp [rvG])
    | _ :: _, _, hl => exact absurd hl (by simp [rvG])
  · intro vs us zs ws r rz
    cases r with
    | cons _ _ => exact .nil
    | nil =>
      cases rz with
      | nil => exact .nil
      | cons a r =>
        cases r with
        | nil => exact .nil
        | cons b r =>
          cases r with
          | nil => exact .nil
          | cons c r =>
            cases r with
            | nil => exact .cons c (.cons b (.cons a .nil))
            | cons _ _ => exact .nil
end Ka
namespace Ka
open PySem PySem.Spec PyProof.Rows L2
/-! a call by keywords alone, within a try -/
section
variable {X : Cx} {CX : CXT} {k : Nat} {f : Addr} {fd : FuncData} {ps ks : List Str} {sp : Sp} {E : L2.St → XK} {x : Str} {p pos : Pos} {kws : List Keyword} {tk : TA} {g : List Value → List Value → List Value} {gV : List V → List V → List V}
theorem run_fnkS {pins : List (Addr × Obj)} {σ : L2.St} {H : Hp} {s : Shared} {Q : VK} {us ws : List Value} {vs zs : List V} (F : FnOk X.prog X.w X.K X.mg X.base CX k f fd ps sp) (hr : Room k X.A) (hb : KBinds X.K fd ps ks g gV) (hx : PassesAt CX X σ (E σ))
    (I : Inv X pins σ H s) (r : Vals vs us) (rz : Vals zs ws) (h : sp (gV vs zs) H Q (E σ)) : wpAny (model X.prog X.w) X.A (call (.ref f) us (ks.zip ws)) (EP X pins σ Q) X.xe s := by
  have r2 := hb.rel r rz
  have hl : (g us ws).length = ps.length := by rw [← r2.length]; exact F.len _ _ _ _ h
  refine wpAny_call (codeAny_mono (F.run X.A X.stack s H ⟨us, ks.zip ws⟩ (g us ws) (gV vs zs) Q (E σ) hr I.env0 (hb.to s us ws I.kIn hl) r2 h) fun r s' hq => ?_)
  cases r with
  | error e => exact hx pins H s e s' I hq
  | ok fl =>
    cases fl with
    | ret u => exact I.after hq
    | next => exact False.elim hq
    | brk => exact False.elim hq
    | cont => exact False.elim hq
def tCallKS0 (sp : Sp) (gV : List V → List V → List V) (E : L2.St → XK) (tk : TA) : TE := fun σ H Q => tk σ H fun zs H2 => sp (gV [] zs) H2 Q (E σ)
theorem pe_callKS0 (F : FnOk X.prog X.w X.K X.mg X.base CX k f fd ps sp) (hr : Room k X.A) (hg : Gl X x) (hm : X.mg x = some (.ref f)) (hk : PySem.W.keepIn X.K (.ref f) = true) (hb : KBinds X.K fd ps ks g gV) (hx : ∀ σ, PassesAt CX X σ (E σ)) (hkw : PK X kws tk)
    (hall : (backToKw pos (keywordEach kws X.env)).all (·.1.isSome) = true := by rfl) (hks : (backToKw pos (keywordEach kws X.env)).filterMap (·.1) = ks := by rfl) (hdb : (x == ("__debug__" : Str)) = false := by decide)
    (hpl : ((backTo pos (starEach [] X.env)).any (·.1) || (backToKw pos (keywordEach kws X.env)).any (·.1.isNone)) = false := by rfl) : PE X (.Call (.Name x p) [] kws pos) (tCallKS0 sp gV E tk) := by
  constructor
  intro pins s σ H Q I h
  apply wpAny_Call_Name_kw
  apply ld_glob I hg hm ?_ hdb
  apply PySem.W.callWith_KW0 (h₀ := X.base) I.ok.mod.kin hk hall ?_ hpl
  apply thn (hkw.run pos pins s σ H _ I h)
  rintro ws s2 ⟨zs, H2, I2, rz, q2⟩
  rw [hks]
  exact ⟨I2.kIn, run_fnkS F hr hb (hx σ) I2 .nil rz q2⟩
end
/-- three parameters, the first given last -/
def roG {α : Type} (us ws : List α) : List α := match us, ws with
  | [], [a, b, c] => [c, a, b]
  | _, _ => []
/-- three parameters in their order -/
def inG {α : Type} (us ws : List α) : List α := match us, ws with
  | [], [a, b, c] => [a, b, c]
  | _, _ => []
theorem kb_rot3 {K : PySem.W.Frag} {fd : FuncData} {a b c : Str} (h : ∀ x y z : Value, bindArgs fd ⟨[], [(b, x), (c, y), (a, z)]⟩ = pure [(a, z), (b, x), (c, y)]) : KBinds K fd [a, b, c] [b, c, a] roG roG := by
  constructor
  · intro s us ws _ hl
    match us, ws, hl with
    | [], [x, y, z], _ => exact BindsTo.of_eq (h x y z)
    | [], [], hl => exact absurd hl (by simp [roG])
    | [], [_], hl => exact absurd hl (by simp [roG])
    | [], [_, _], hl => exact absurd hl (by simp [roG])
    | [], _ :: _ :: _ :: _ :: _, hl => exact absurd hl (by simp [roG])
    | _ :: _, _, hl => exact absurd hl (by simp [roG])
  · intro vs us zs ws r rz
    cases r with
    | cons _ _ => exact .nil
    | nil =>
      cases rz with
      | nil => exact .nil
      | cons a r =>
        cases r with
        | nil => exact .nil
        | cons b r =>
          cases r with
          | nil => exact .nil
          | cons c r =>
            cases r with
            | nil => exact .cons c (.cons a (.cons b .nil))
            | cons _ _ => exact .nil
theorem kb_in3 {K : PySem.W.Frag} {fd : FuncData} {a b c : Str} (h : ∀ x y z : Value, bindArgs fd ⟨[], [(a, x), (b, y), (c, z)]⟩ = pure [(a, x), (b, y), (c, z)]) : KBinds K fd [a, b, c] [a, b, c] inG inG := by
  constructor
  · intro s us ws _ hl
    match us, ws, hl with
    | [], [x, y, z], _ => exact BindsTo.of_eq (h x y z)
    | [], [], hl => exact absurd hl (by simp [inG])
    | [], [_], hl => exact absurd hl (by simp [inG])
    | [], [_, _], hl => exact absurd hl (by simp [inG])
    | [], _ :: _ :: _ :: _ :: _, hl => exact absurd hl (by simp [inG])
    | _ :: _, _, hl => exact absurd hl (by simp [inG])
  · intro vs us zs ws r rz
    cases r with
    | cons _ _ => exact .nil
    | nil =>
      cases rz with
      | nil => exact .nil
      | cons a r =>
        cases r with
        | nil => exact .nil
        | cons b r =>
          cases r with
          | nil => exact .nil
          | cons c r =>
            cases r with
            | nil => exact .cons a (.cons b (.cons c .nil))
            | cons _ _ => exact .nil
end Ka
namespace Kb
open PySem PySem.Spec PyProof.Rows L2
/-! ### the law's own: told, alone, refused -/
section
variable {P : Program} {w : World} {K : PySem.W.Frag} {mg : Str → Option Value} {base : Heap}
/-- what more the written part says of an error's class -/
structure CatchC (K : PySem.W.Frag) (C : Addr) : Prop where
  te : PySem.W.exmOne K (.ref C) (.ref C) = some true
  xf : XfC K C
theorem at_field (z : Int) : List.lookup ("at" : Str) [(("at" : Str), V.int z)] = some (V.int z) := by
  rw [List.lookup_cons]
  have : ((("at" : Str)) == ("at" : Str)) = true := by decide +kernel
  rw [this]
/-- the answer at the place z -/
def AtQ (H : Hp) (Q : VK) (z : Int) : Prop := ∀ (H' : Hp) (p : Addr), Same H H' → H' p = some (.tup [.str (Str.ofString "at"), .int z]) → Q (.ref p) H'
theorem AtQ.mono {H H1 : Hp} {Q : VK} {z : Int} (s : Same H H1) (h : AtQ H Q z) : AtQ H1 Q z := fun H' p s2 e => h H' p (s.trans s2) e
def spTold (K : PySem.W.Frag) (CB : Addr) : Sp := fun vs H Q E => ∃ (p a : Addr) (cs : List CA) (ds : List Str) (v : V), vs = [.ref p, v] ∧ BookAt K CB H p a cs ∧ ds.Perm (uniq (dns cs)) ∧ sortedS ds = true ∧
  ((∃ t : String, TyX K H v (.type t) ∧ kitB t "tuple" = some false ∧ AtQ H Q (-1)) ∨
   (∃ (x : Addr) (xs : List V) (bs : Nat → Bool), v = .ref x ∧ SqT K H x xs ∧ xs.length ≤ 100 ∧ (∀ (i : Nat) (y : V) (d : Str), xs[i]? = some y → ds[i]? = some d → (∀ j : Nat, j < i → j < ds.length ∧ bs j = true) → PairV K H d y (bs i)) ∧
     (∀ i : Nat, i < xs.length → (∀ j : Nat, j < i → j < ds.length ∧ bs j = true) → (ds.length ≤ i ∨ bs i = false) → AtQ H Q (i : Int)) ∧
     ((∀ j : Nat, j < xs.length → j < ds.length ∧ bs j = true) → (xs.length < ds.length → AtQ H Q (xs.length : Int)) ∧ (ds.length ≤ xs.length → ∀ (H' : Hp) (p : Addr), Same H H' → H' p = some (.tup [.str (Str.ofString "let")]) → Q (.ref p) H'))))
abbrev nLt2 : List Str := ["book", "value", "e"]
theorem scLt2 : FnScope nLt2 ["book", "value"] (defScope sTold) := ⟨rfl, rfl, rfl, by decide +kernel, rfl, by decide +kernel, by decide +kernel⟩
theorem ok_told {f C CB fE fD : Addr} {fd fdE fdD : FuncData} (R : DelC K mg C fE fdE) (Z : CatchC K C) (F : Fun K "_law_told" "_law_told" sTold f fd) (G_check_dealing : FnOk P w K mg base (L2.CX P w) 4 fD fdD ["book", "dealing"] (spChDeal K C CB)) (C_check_dealing : CallC K mg "check_dealing" ["book", "dealing"] fD fdD) (kb : KBinds K fdD ["book", "dealing"] ["dealing", "book"] Ka.swG Ka.swG) : FnOk P w K mg base CX0 5 f fd ["book", "value"] (spTold K CB) := by
  refine F.ok scLt2 (fun vs H Q E h => ?_) (fun cdv A outer s H vs Q E hr h => ?_)
  · obtain ⟨p, a, cs, ds, v, rfl, _⟩ := h
    rfl
  · obtain ⟨p, a, cs, ds, v, rfl, hB, hp, hs, hv⟩ := h
    refine ⟨_, pss_cons (ps_try_as (i := 2) (tb := fun W => tDrop (Ka.tCallKS0 (spChDeal K C CB) Ka.swG (WE W) (tCons (tVar 1) (tCons (tVar 0) tNil))))
        (ts := fun a cls d => tRet (tTup (tCons (tC (.str (Str.ofString "at"))) (tCons (tXf a cls d C "at" (tVar 2)) tNil)))) (Wout := fun _ _ _ _ => False) rfl rfl scLt2.nd rfl rfl ⟨rfl, by decide, .inl R.gC⟩ takes0
        (fun W pn xe tk _ => pss_one (ps_expr (by exact (Ka.pe_callKS0 G_check_dealing (hr.mono (by decide)) rfl C_check_dealing.g C_check_dealing.kp kb (fun σ => passAt tk σ) (by exact (pk_cons (pv 1) (pk_cons (pv 0) pk_nil)))))))
        (fun a oe cls d pn hz hf => pss_one (ps_ret (pe_tup (pa_cons pe_str (pa_cons (pe_xf Z.xf R.no hz hf (pv 2)) pa_nil))))))
      (pss_one (ps_ret (pe_tup (pa_cons pe_str pa_nil)))), ?_⟩
    refine ⟨v, rfl, .ref p, rfl, ?_⟩
    dsimp only [tNil]
    refine ⟨p, a, cs, ds, v, rfl, hB, hp, hs, ?_⟩
    rcases hv with ⟨t, h1, h2, h3⟩ | ⟨x, xs, bs, rfl, hX, hlx, hPV, qi, qn⟩
    · refine .inl ⟨t, h1, h2, ?_⟩
      · intro H' d s' nd ed
        refine ⟨true, Z.te, fun _ a na => ?_, fun w => Bool.noConfusion w⟩
        refine ⟨.ref a, rfl, rfl, rfl, d, _, .int _, rfl, ed, at_field _, smallE (by show 2 ≤ 1000000; decide), fun p np => ?_⟩
        exact (h3) _ p (s'.trans (same_new np)) upd_same
    · refine .inr ⟨x, xs, bs, rfl, hX, hlx, hPV, fun i hi hall hbad => ?_, fun hall => ⟨fun hlt => ?_, fun hge H' s' => ?_⟩⟩
      · intro H' d s' nd ed
        refine ⟨true, Z.te, fun _ a na => ?_, fun w => Bool.noConfusion w⟩
        refine ⟨.ref a, rfl, rfl, rfl, d, _, .int _, rfl, ed, at_field _, smallE (by show 2 ≤ 1000000; decide), fun p np => ?_⟩
        exact (qi i hi hall hbad) _ p (s'.trans (same_new np)) upd_same
      · intro H' d s' nd ed
        refine ⟨true, Z.te, fun _ a na => ?_, fun w => Bool.noConfusion w⟩
        refine ⟨.ref a, rfl, rfl, rfl, d, _, .int _, rfl, ed, at_field _, smallE (by show 2 ≤ 1000000; decide), fun p np => ?_⟩
        exact ((qn hall).1 hlt) _ p (s'.trans (same_new np)) upd_same
      · refine ⟨smallE (by show 1 ≤ 1000000; decide), fun p np => ?_⟩
        exact (qn hall).2 hge _ p (s'.trans (same_new np)) upd_same
/-- one of part and parts, told by a turn -/
def spAlone (K : PySem.W.Frag) : Sp := fun vs H Q _ => ∃ (a r : Addr) (k : Str) (t : Nat) (ps : List DP) (us ds : List Str), vs = [.ref a, .str k, .ref r, .int (t : Nat)] ∧ DealAt K H a ps ∧ DOk ps ∧ IsDesks ps ds ∧ SqT K H r (us.map V.str) ∧ us.length ≤ 1000 ∧ (bad ps us = none → ∀ H', Same H H' → Q .non H') ∧ (∀ i : Nat, bad ps us = some i → ∀ H', Same H H' → Q (.int (i : Int)) H')
abbrev nLa : List Str := ["pairs", "desk", "row", "turn", "e"]
theorem scLa : FnScope nLa ["pairs", "desk", "row", "turn"] (defScope sAlone) := ⟨rfl, rfl, rfl, by decide +kernel, rfl, by decide +kernel, by decide +kernel⟩
theorem ok_alone {f C fE fP fQ : Addr} {fd fdE fdP fdQ : FuncData} (R : RowC K mg C fE fdE) (Z : CatchC K C) (F : Fun K "_law_alone" "_law_alone" sAlone f fd) (G_part : FnOk P w K mg base (L2.CX P w) 4 fP fdP ["dealing", "desk", "row"] (spPart K C)) (C_part : CallC K mg "part" ["dealing", "desk", "row"] fP fdP) (kb1 : KBinds K fdP ["dealing", "desk", "row"] ["desk", "row", "dealing"] Ka.roG Ka.roG)
    (G_parts : FnOk P w K mg base (L2.CX P w) 4 fQ fdQ ["dealing", "row"] (spParts K C)) (C_parts : CallC K mg "parts" ["dealing", "row"] fQ fdQ) (kb2 : KBinds K fdQ ["dealing", "row"] ["row", "dealing"] Ka.swG Ka.swG) : FnOk P w K mg base CX0 5 f fd ["pairs", "desk", "row", "turn"] (spAlone K) := by
  refine F.ok scLa (fun vs H Q E h => ?_) (fun cdv A outer s H vs Q E hr h => ?_)
  · obtain ⟨a, r, k, t, ps, us, ds, rfl, _⟩ := h
    rfl
  · obtain ⟨a, r, k, t, ps, us, ds, rfl, hD, ok, isd, hR, hz, q, qi⟩ := h
    refine ⟨_, pss_cons (ps_try_as (i := 4) (tb := fun W => tIfS (tB (tOp rEq (tVar 3) (tC (.int 0)))) (tDrop (Ka.tCallKS0 (spPart K C) Ka.roG (WE W) (tCons (tVar 1) (tCons (tVar 2) (tCons (tVar 0) tNil))))) (tDrop (Ka.tCallKS0 (spParts K C) Ka.swG (WE W) (tCons (tVar 2) (tCons (tVar 0) tNil)))))
        (ts := fun a cls d => tRet (tXf a cls d C "at" (tVar 4))) (Wout := fun _ _ _ _ => False) rfl rfl scLa.nd rfl rfl ⟨rfl, by decide, .inl R.gC⟩ takes0
        (fun W pn xe tk _ => pss_one (ps_if (pt_cmpR op_eq (pv 3) pe_int (nomark _)) (pss_one (ps_expr (by exact (Ka.pe_callKS0 G_part (hr.mono (by decide)) rfl C_part.g C_part.kp kb1 (fun σ => passAt tk σ) (by exact (pk_cons (pv 1) (pk_cons (pv 2) (pk_cons (pv 0) pk_nil))))))))
          (pss_one (ps_expr (by exact (Ka.pe_callKS0 G_parts (hr.mono (by decide)) rfl C_parts.g C_parts.kp kb2 (fun σ => passAt tk σ) (by exact (pk_cons (pv 2) (pk_cons (pv 0) pk_nil)))))))))
        (fun a oe cls d pn hz hf => pss_one (ps_ret (pe_xf Z.xf R.no hz hf (pv 4)))))
      (pss_one (ps_ret pe_non)), ?_⟩
    refine ⟨_, rfl, rfl, _, rfl, ite2 (fun c => ?_) (fun c => ?_)⟩
    · refine ⟨.str k, rfl, .ref r, rfl, .ref a, rfl, ?_⟩
      dsimp only [tNil]
      refine ⟨a, r, k, ps, us, rfl, hD, ok, hR, hz, fun hb H' p s' np hp => ?_, fun i hi => ?_⟩
      · exact q hb H' s'
      · intro H' d s' nd ed
        refine ⟨true, Z.te, fun _ a na => ?_, fun w => Bool.noConfusion w⟩
        refine ⟨.ref a, rfl, rfl, rfl, d, _, .int _, rfl, ed, at_field _, ?_⟩
        exact qi i hi _ s'
    · refine ⟨.ref r, rfl, .ref a, rfl, ?_⟩
      dsimp only [tNil]
      refine ⟨a, r, ps, us, ds, rfl, hD, ok, isd, hR, hz, fun hb H' p s' np hp => ?_, fun i hi => ?_⟩
      · exact q hb H' s'
      · intro H' d s' nd ed
        refine ⟨true, Z.te, fun _ a na => ?_, fun w => Bool.noConfusion w⟩
        refine ⟨.ref a, rfl, rfl, rfl, d, _, .int _, rfl, ed, at_field _, ?_⟩
        exact qi i hi _ s'
end
end Kb
namespace Kb
open PySem PySem.Spec PyProof.Rows L2
/-! ### the law's own: refused, due -/
/-- the strangers' places of a row -/
def sg (ps : List DP) (us : List Str) : List Nat := (List.range us.length).filter fun i => (deskOf ps (us.getD i "")).isNone
theorem getD_of {us : List Str} {i : Nat} {x : Str} (h : us[i]? = some x) : us.getD i "" = x := by
  rw [List.getD_eq_getElem?_getD, h]
  rfl
theorem sg_none {ps : List DP} {us : List Str} (h : sg ps us = []) : bad ps us = none := bad_no fun j y hj => by
  have h1 := List.filter_eq_nil_iff.mp h j (List.mem_range.mpr (lt_of_get hj))
  rw [getD_of hj] at h1
  cases e : deskOf ps y with
  | none =>
    rw [e] at h1
    exact absurd rfl h1
  | some k => rfl
theorem sg_some {ps : List DP} {us : List Str} {i : Nat} {l : List Nat} (h : sg ps us = i :: l) : bad ps us = some i := by
  have hm : i ∈ sg ps us := by rw [h]; exact List.mem_cons_self
  have hm := List.mem_filter.mp hm
  have hi := List.mem_range.mp hm.1
  have hg : us[i]? = some (us[i]'hi) := List.getElem?_eq_getElem hi
  have hn : deskOf ps (us[i]'hi) = none := by
    have := hm.2
    rw [getD_of hg] at this
    exact Option.isNone_iff_eq_none.mp this
  refine bad_some hg hn fun j y hj hy => ?_
  cases e : deskOf ps y with
  | some k => rfl
  | none =>
    have hjm : j ∈ sg ps us := List.mem_filter.mpr ⟨List.mem_range.mpr (lt_of_get hy), by rw [getD_of hy, e]; rfl⟩
    have pw : (sg ps us).Pairwise (· < ·) := List.Pairwise.filter _ (List.pairwise_lt_range)
    rw [h] at pw hjm
    rcases List.mem_cons.mp hjm with z | z
    · omega
    · have := (List.pairwise_cons.mp pw).1 j z
      omega
theorem sg_step {ps : List DP} {us : List Str} {i : Nat} {x : Str} (hg : us[i]? = some x) : ((List.range (i + 1)).filter fun i => (deskOf ps (us.getD i "")).isNone) = ((List.range i).filter fun i => (deskOf ps (us.getD i "")).isNone) ++ (if (deskOf ps x).isNone = true then [i] else []) := by
  rw [List.range_succ, List.filter_append]
  congr 1
  rw [List.filter_cons, getD_of hg]
  split <;> rfl
theorem eqD_at {X : Cx} {K : PySem.W.Frag} (h : X.K = K) (hu : X.A.units + 64 < cLine) : OpR X (compareOp .Eq) (rEqD K) := by
  subst h
  exact op_eqD hu
section
variable {P : Program} {w : World} {K : PySem.W.Frag} {mg : Str → Option Value} {base : Heap}
/-- the two answers -/
def TwoQ (H : Hp) (Q : VK) (a b : Bool) : Prop := ∀ (H' : Hp) (p : Addr), Same H H' → H' p = some (.tup [.bl a, .bl b]) → Q (.ref p) H'
def Ans (H : Hp) (Q : VK) (ps : List DP) (us zs ds : List Str) : Prop := (∀ i : Nat, bad ps us = some i → AtQ H Q (i : Int)) ∧ (∀ i : Nat, bad ps us = none → bad ps zs = some i → AtQ H Q (i : Int)) ∧ (bad ps us = none → bad ps zs = none → TwoQ H Q (withinB ps us zs ds) (sameB ps us zs ds))
def spRefused (K : PySem.W.Frag) : Sp := fun vs H Q _ => ∃ (d : V) (a r t : Addr) (ps : List DP) (us zs ds : List Str), vs = [d, .ref a, .ref r, .ref t] ∧ DealAt K H a ps ∧ DOk ps ∧ IsDesks ps ds ∧ (∀ z ∈ ds, isName z = true) ∧ SqT K H r (us.map V.str) ∧ us.length ≤ 1000 ∧ (∀ z ∈ us, isName z = true) ∧ SqT K H t (zs.map V.str) ∧ zs.length ≤ 1000 ∧ (∀ z ∈ zs, isName z = true) ∧ Ans H Q ps us zs ds
abbrev nLf : List Str := ["deal", "pairs", "u", "v", "found", "e"]
theorem scLf : FnScope nLf ["deal", "pairs", "u", "v"] (defScope sRefused) := ⟨rfl, rfl, rfl, by decide +kernel, rfl, by decide +kernel, by decide +kernel⟩
theorem ok_refused {f C fE fP fQ : Addr} {fd fdE fdP fdQ : FuncData} (R : RowC K mg C fE fdE) (Z : CatchC K C) (F : Fun K "_law_refused" "_law_refused" sRefused f fd) (G_within_by : FnOk P w K mg base (L2.CX P w) 5 fP fdP ["dealing", "u", "v"] (spBy K C withinB)) (C_within_by : CallC K mg "within_by" ["dealing", "u", "v"] fP fdP) (kb1 : KBinds K fdP ["dealing", "u", "v"] ["v", "u", "dealing"] Ka.rvG Ka.rvG)
    (G_same_by : FnOk P w K mg base (L2.CX P w) 5 fQ fdQ ["dealing", "u", "v"] (spBy K C sameB)) (C_same_by : CallC K mg "same_by" ["dealing", "u", "v"] fQ fdQ) (kb2 : KBinds K fdQ ["dealing", "u", "v"] ["dealing", "u", "v"] Ka.inG Ka.inG) : FnOk P w K mg base CX0 6 f fd ["deal", "pairs", "u", "v"] (spRefused K) := by
  refine F.ok scLf (fun vs H Q E h => ?_) (fun cdv A outer s H vs Q E hr h => ?_)
  · obtain ⟨d, a, r, t, ps, us, zs, ds, rfl, _⟩ := h
    rfl
  · obtain ⟨d, a, r, t, ps, us, zs, ds, rfl, hD, ok, isd, nds, hR, hz, nus, hT, hz2, nzs, q1, q2, q⟩ := h
    refine ⟨_, pss_cons (ps_try_as (i := 5) (tb := fun W => tAsg (tTup (tCons (Ka.tCallKS0 (spBy K C withinB) Ka.rvG (WE W) (tCons (tVar 3) (tCons (tVar 2) (tCons (tVar 1) tNil)))) (tCons (Ka.tCallKS0 (spBy K C sameB) Ka.inG (WE W) (tCons (tVar 1) (tCons (tVar 2) (tCons (tVar 3) tNil)))) tNil))) (gName 4))
        (ts := fun a cls d => tRet (tTup (tCons (tC (.str (Str.ofString "at"))) (tCons (tXf a cls d C "at" (tVar 5)) tNil)))) (Wout := fun _ _ _ _ => False) rfl rfl scLf.nd rfl rfl ⟨rfl, by decide, .inl R.gC⟩ takes0
        (fun W pn xe tk _ => pss_one (ps_set (i := 4) scLf.nd rfl (.inl rfl) (pe_tup (pa_cons (by exact (Ka.pe_callKS0 G_within_by (hr.mono (by decide)) rfl C_within_by.g C_within_by.kp kb1 (fun σ => passAt tk σ) (by exact (pk_cons (pv 3) (pk_cons (pv 2) (pk_cons (pv 1) pk_nil))))))
          (pa_cons (by exact (Ka.pe_callKS0 G_same_by (hr.mono (by decide)) rfl C_same_by.g C_same_by.kp kb2 (fun σ => passAt tk σ) (by exact (pk_cons (pv 1) (pk_cons (pv 2) (pk_cons (pv 3) pk_nil)))))) pa_nil)))))
        (fun a oe cls d pn hz hf => pss_one (ps_ret (pe_tup (pa_cons pe_str (pa_cons (pe_xf Z.xf R.no hz hf (pv 5)) pa_nil))))))
      (pss_one (ps_ret (pv 4))), ?_⟩
    refine ⟨.ref t, rfl, .ref r, rfl, .ref a, rfl, ?_⟩
    dsimp only [tNil]
    refine ⟨a, r, t, ps, us, zs, ds, rfl, hD, ok, isd, nds, hR, hz, nus, hT, hz2, nzs, fun hb hb2 H1 s1 => ?_, fun i hi => ?_, fun i hb hi => ?_⟩
    · refine ⟨.ref a, rfl, .ref r, rfl, .ref t, rfl, ?_⟩
      dsimp only [tNil]
      refine ⟨a, r, t, ps, us, zs, ds, rfl, hD.mono s1, ok, isd, nds, Same.sqT s1 hR, hz, nus, Same.sqT s1 hT, hz2, nzs, fun _ _ H2 s2 => ?_, fun i hi => ?_, fun i _ hi => ?_⟩
      · refine ⟨smallE (by show 2 ≤ 1000000; decide), fun p np => ?_⟩
        refine ⟨_, rfl, q hb hb2 _ p ((s1.trans s2).trans (same_new np)) upd_same⟩
      · rw [hb] at hi
        cases hi
      · rw [hb2] at hi
        cases hi
    · intro H' d s' nd ed
      refine ⟨true, Z.te, fun _ a na => ?_, fun w => Bool.noConfusion w⟩
      refine ⟨.ref a, rfl, rfl, rfl, d, _, .int _, rfl, ed, at_field _, smallE (by show 2 ≤ 1000000; decide), fun p np => ?_⟩
      exact (q1 i hi) _ p (s'.trans (same_new np)) upd_same
    · intro H' d s' nd ed
      refine ⟨true, Z.te, fun _ a na => ?_, fun w => Bool.noConfusion w⟩
      refine ⟨.ref a, rfl, rfl, rfl, d, _, .int _, rfl, ed, at_field _, smallE (by show 2 ≤ 1000000; decide), fun p np => ?_⟩
      exact (q2 i hb hi) _ p (s'.trans (same_new np)) upd_same
def spDue (K : PySem.W.Frag) : Sp := fun vs H Q _ => ∃ (d k r t : Addr) (ps : List DP) (us zs ds : List Str), vs = [.ref d, .ref k, .ref r, .ref t] ∧ H d = some (.dK (byKV ps)) ∧ DOk ps ∧ IsDesks ps ds ∧ H k = some (.lst (ds.map V.str)) ∧ SqT K H r (us.map V.str) ∧ us.length ≤ 1000 ∧ (∀ z ∈ us, isName z = true) ∧ SqT K H t (zs.map V.str) ∧ zs.length ≤ 1000 ∧ (∀ z ∈ zs, isName z = true) ∧ Ans H Q ps us zs ds
abbrev nLd : List Str := ["deal", "desks", "u", "v", "strangers", "same", "at", "desk"]
theorem scLd : FnScope nLd ["deal", "desks", "u", "v"] (defScope sDue) := ⟨rfl, rfl, rfl, by decide +kernel, rfl, by decide +kernel, by decide +kernel⟩
theorem ok_due {f fB fP : Addr} {fd fdB fdP : FuncData} (F : Fun K "_law_due" "_law_due" sDue f fd) (N : Nones mg) (G__law_by : FnOk P w K mg base CX0 2 fB fdB ["deal", "u", "v"] (spLawBy K)) (C__law_by : CallC K mg "_law_by" ["deal", "u", "v"] fB fdB) (G__law_part : FnOk P w K mg base CX0 1 fP fdP ["deal", "desk", "row"] (spLawPart K)) (C__law_part : CallC K mg "_law_part" ["deal", "desk", "row"] fP fdP) : FnOk P w K mg base CX0 3 f fd ["deal", "desks", "u", "v"] (spDue K) := by
  refine F.ok scLd (fun vs H Q E h => ?_) (fun cdv A outer s H vs Q E hr h => ?_)
  · obtain ⟨d, k, r, t, ps, us, zs, ds, rfl, _⟩ := h
    rfl
  · obtain ⟨d, k, r, t, ps, us, zs, ds, rfl, hD, ok, isd, hK, hR, hz, nus, hT, hz2, nzs, q1, q2, q⟩ := h
    refine ⟨_, pss_cons (ps_set (i := 4) scLd.nd rfl (Or.inl rfl) (pe_op op_cat (pe_lc (own := [("at", 6)]) (g := gName 6) rfl scLd.nd (pi_range1 (by rfl) N.range (pa_cons (pe_callB call_len_seq (by rfl) N.len PySem.boot_len (pa_cons (pv 2) pa_nil)) pa_nil)) (blkOk_by (own := [("at", 6)]) (N := nLd) (sc := defScope sDue) (by decide +kernel)) (fun _ _ _ _ _ => (pg_name (i := 6) scLd.nd rfl (Or.inl rfl))) (fun _ _ _ _ _ => pts_one (pt_cmp (pc_dnotin (hu_of hr) (pe_ix (ixT_at (K := K) rfl) (pv 2) (pv 6) (fun _ _ => rfl)) (pv 0)))) (fun _ _ _ _ _ => (pv 6))) (pe_lc (own := [("at", 6)]) (g := gName 6) rfl scLd.nd (pi_range1 (by rfl) N.range (pa_cons (pe_callB call_len_seq (by rfl) N.len PySem.boot_len (pa_cons (pv 3) pa_nil)) pa_nil)) (blkOk_by (own := [("at", 6)]) (N := nLd) (sc := defScope sDue) (by decide +kernel)) (fun _ _ _ _ _ => (pg_name (i := 6) scLd.nd rfl (Or.inl rfl))) (fun _ _ _ _ _ => pts_one (pt_cmp (pc_dnotin (hu_of hr) (pe_ix (ixT_at (K := K) rfl) (pv 3) (pv 6) (fun _ _ => rfl)) (pv 0)))) (fun _ _ _ _ _ => (pv 6)))))
      (pss_cons (ps_if (pt_cmpR (op_neD hr.units) (pv 4) (pe_lst pa_nil) (nomark _)) (pss_one (ps_ret (pe_tup (pa_cons pe_str (pa_cons (pe_ix ix_list (pv 4) pe_int (fun _ _ => rfl)) pa_nil))))) pss_nil)
      (pss_cons (ps_set (i := 5) scLd.nd rfl (Or.inl rfl) (pe_callB (cr_all rfl) (by rfl) N.all (by decide +kernel) (pa_cons (pe_lc (own := [("desk", 7)]) (g := gName 7) (tt := tYes) rfl scLd.nd (pi_list (pv 1)) (blkOk_by (own := [("desk", 7)]) (N := nLd) (sc := defScope sDue) (by decide +kernel)) (fun _ _ _ _ _ => (pg_name (i := 7) scLd.nd rfl (Or.inl rfl))) (fun _ _ _ _ _ => pts_nil) (fun _ _ _ _ _ => (pe_cmpR (eqD_at (K := K) rfl hr.units) (pe_call G__law_part (hr.mono (by decide)) (by rfl) C__law_part.g C__law_part.kp C__law_part.b .nil pass0 (pa_cons (pv 0) (pa_cons (pv 7) (pa_cons (pv 2) pa_nil)))) (pe_call G__law_part (hr.mono (by decide)) (by rfl) C__law_part.g C__law_part.kp C__law_part.b .nil pass0 (pa_cons (pv 0) (pa_cons (pv 7) (pa_cons (pv 3) pa_nil)))) (nomark _)))) pa_nil)))
      (pss_one (ps_ret (pe_tup (pa_cons (pe_call G__law_by (hr.mono (by decide)) (by rfl) C__law_by.g C__law_by.kp C__law_by.b .nil pass0 (pa_cons (pv 0) (pa_cons (pv 2) (pa_cons (pv 3) pa_nil)))) (pa_cons (pv 5) pa_nil))))))), ?_⟩
    have strange : ∀ (G : Hp) (b : Addr) (xs : List Str) (j : Nat) (L : Addr) (c : Addr), True := fun _ _ _ _ _ _ => trivial
    refine ⟨.ref r, rfl, r, _, rfl, .inr hR, (us.length : Nat), by rw [List.length_map], by omega, by omega, fun L nL => ?_⟩
    rw [show ((us.length : Nat) : Int).toNat = us.length from rfl]
    refine lc_it (walk_r0 (n := us.length)) (fun i G => Same H G ∧ G L = some (.lst (natV ((List.range i).filter fun i => (deskOf ps (us.getD i "")).isNone)))) ⟨same_new nL, upd_same⟩ (fun _ _ _ _ => True.intro) (fun i x G G' hi h y => ?_) (fun G h => ?_)
    · obtain ⟨rfl, rfl⟩ := y
      obtain ⟨sG, eG⟩ := h
      have hg : us[i]? = some (us[i]'hi) := List.getElem?_eq_getElem hi
      generalize us[i]'hi = x at hg
      have hgm : (us.map V.str)[i]? = some (.str x) := by rw [List.getElem?_map, hg]; rfl
      refine ⟨rfl, _, rfl, .int (i : Nat), rfl, r, _, _, _, rfl, rfl, Same.sqT sG hR, atI_nat hgm, _, rfl, d, _, rfl, DGet.k (k := Sum.inr x) (sG _ _ hD), _, rfl, ?_⟩
      rw [valV_by]
      cases e : deskOf ps x with
      | some k2 =>
        refine iteNo rfl ?_
        refine ⟨sG, ?_⟩
        rw [eG, sg_step hg, e]
        simp
      | none =>
        refine iteYes rfl ?_
        refine ⟨_, rfl, _, eG, ?_, fun b o eb => ?_, ?_⟩
        · have := List.length_filter_le (fun i => (deskOf ps (us.getD i "")).isNone) (List.range i)
          rw [List.length_range] at this
          rw [natV_len]
          exact small (by omega)
        · rw [upd_ne (ne_of_none eb nL)]
          exact sG _ _ eb
        · rw [upd_same, sg_step hg, e]
          simp [natV]
    · obtain ⟨s1, e1⟩ := h
      have e1 : G L = some (.lst (natV (sg ps us))) := e1
      refine ⟨.ref t, rfl, t, _, rfl, .inr (Same.sqT s1 hT), (zs.length : Nat), by rw [List.length_map], by omega, by omega, fun M nM => ?_⟩
      rw [show ((zs.length : Nat) : Int).toNat = zs.length from rfl]
      refine lc_it (walk_r0 (n := zs.length)) (fun i Z => Same G Z ∧ Z M = some (.lst (natV ((List.range i).filter fun i => (deskOf ps (zs.getD i "")).isNone)))) ⟨same_new nM, upd_same⟩ (fun _ _ _ _ => True.intro) (fun i x Z Z' hi h y => ?_) (fun Z h => ?_)
      · obtain ⟨rfl, rfl⟩ := y
        obtain ⟨sG, eG⟩ := h
        have hg : zs[i]? = some (zs[i]'hi) := List.getElem?_eq_getElem hi
        generalize zs[i]'hi = x at hg
        have hgm : (zs.map V.str)[i]? = some (.str x) := by rw [List.getElem?_map, hg]; rfl
        refine ⟨rfl, _, rfl, .int (i : Nat), rfl, t, _, _, _, rfl, rfl, Same.sqT (s1.trans sG) hT, atI_nat hgm, _, rfl, d, _, rfl, DGet.k (k := Sum.inr x) (sG _ _ (s1 _ _ hD)), _, rfl, ?_⟩
        rw [valV_by]
        cases e : deskOf ps x with
        | some k2 =>
          refine iteNo rfl ?_
          refine ⟨sG, ?_⟩
          rw [eG, sg_step hg, e]
          simp
        | none =>
          refine iteYes rfl ?_
          refine ⟨_, rfl, _, eG, ?_, fun b o eb => ?_, ?_⟩
          · have := List.length_filter_le (fun i => (deskOf ps (zs.getD i "")).isNone) (List.range i)
            rw [List.length_range] at this
            rw [natV_len]
            exact small (by omega)
          · rw [upd_ne (ne_of_none eb nM)]
            exact sG _ _ eb
          · rw [upd_same, sg_step hg, e]
            simp [natV]
      · obtain ⟨s2, e2⟩ := h
        have e2 : Z M = some (.lst (natV (sg ps zs))) := e2
        have l1 : (sg ps us).length ≤ us.length := by
          have := List.length_filter_le (fun i => (deskOf ps (us.getD i "")).isNone) (List.range us.length)
          rwa [List.length_range] at this
        have l2 : (sg ps zs).length ≤ zs.length := by
          have := List.length_filter_le (fun i => (deskOf ps (zs.getD i "")).isNone) (List.range zs.length)
          rwa [List.length_range] at this
        have s12 := s1.trans s2
        refine ⟨L, M, _, _, rfl, rfl, s2 _ _ e1, e2, smallE (by rw [natV_len, natV_len]; omega), fun p np => ?_⟩
        have s3 := same_new (o := .lst (natV (sg ps us) ++ natV (sg ps zs))) np
        have ep : upd Z p (.lst (natV (sg ps us) ++ natV (sg ps zs))) p = some (.lst (natV (sg ps us ++ sg ps zs))) := by
          rw [upd_same]
          unfold natV
          rw [List.map_append]
        have s13 := s12.trans s3
        generalize upd Z p (.lst (natV (sg ps us) ++ natV (sg ps zs))) = Y at ep s13
        refine ⟨.ref p, rfl, Nat.zero_le _, fun o no => ?_⟩
        have s4 := same_new (o := .lst []) no
        have s14 := s13.trans s4
        have ep := s4 _ _ ep
        have eo : upd Y o (.lst []) o = some (.lst []) := upd_same
        generalize upd Y o (.lst []) = X at ep s14 eo
        have shL : SeqAt.shaped (.list ((sg ps us ++ sg ps zs).map fun (i : Nat) => PyData.int (i : Int))) = true := by
          refine shaped_of ?_ ?_
          · rw [PyData.canLay0]
            exact lay_all _ fun a _ => by rw [PyData.canLay0]
          · have := dep_le (f := fun (i : Nat) => PyData.int (i : Int)) (n := 1) (fun a => by simp [PyData.depth]) (sg ps us ++ sg ps zs)
            simp only [PyData.depth]
            omega
        refine ⟨_, .list [], .lst (sqL_new ep) (dpNs _), .lst (sqL_new eo) .nil, shL, by decide +kernel, _, rfl, ite2 (fun c => ?_) (fun c => ?_)⟩
        · -- a stranger
          cases e : sg ps us with
          | cons i l =>
            refine ⟨_, rfl, p, _, _, .int (i : Nat), rfl, rfl, sqL_new ep, ?_, smallE (by show 2 ≤ 1000000; decide), fun u nu => ?_⟩
            · rw [e]
              exact atI_nat (natV_get (l := i :: l ++ sg ps zs) (i := 0) (x := i) rfl)
            · exact q1 i (sg_some e) _ u (s14.trans (same_new nu)) upd_same
          | nil =>
            cases e2 : sg ps zs with
            | cons i l =>
              refine ⟨_, rfl, p, _, _, .int (i : Nat), rfl, rfl, sqL_new ep, ?_, smallE (by show 2 ≤ 1000000; decide), fun u nu => ?_⟩
              · rw [e, e2]
                exact atI_nat (natV_get (l := [] ++ i :: l) (i := 0) (x := i) rfl)
              · exact q2 i (sg_none e) (sg_some e2) _ u (s14.trans (same_new nu)) upd_same
            | nil =>
              exfalso
              rw [e, e2] at c
              revert c
              simp [PyData.eqv, PyData.eqvAll]
        · have eb : sg ps us = [] ∧ sg ps zs = [] := by
            cases e : sg ps us with
            | cons i l =>
              exfalso
              apply c
              rw [e]
              simp [PyData.eqv, PyData.eqvAll]
            | nil =>
              cases e2 : sg ps zs with
              | cons i l =>
                exfalso
                apply c
                rw [e, e2]
                simp [PyData.eqv, PyData.eqvAll]
              | nil => exact ⟨rfl, rfl⟩
          have b1 := sg_none eb.1
          have b2 := sg_none eb.2
          have hDX := s14 _ _ hD
          refine ⟨_, rfl, k, rfl, ⟨_, sqL_new (s14 _ _ hK)⟩, fun W nW => ?_⟩
          refine lc_pure (walk_list (K := K) (a := k) (xs := ds.map V.str)) ((ds.map fun k => decide (partL ps k us = partL ps k zs)).map V.bl) (by rw [List.length_map, List.length_map, List.length_map]) nW (fun _ s => sqL_new (s _ _ (s14 _ _ hK))) (fun i x H0 H' hi h0 y => ?_) (fun H' s' ew => ?_)
          · obtain ⟨rfl, hy⟩ := y
            obtain ⟨kk, hk, rfl⟩ := get_map hy
            have dl := isd_len isd
            have sz := ok.sz
            have hi2 := lt_of_get hk
            refine ⟨rfl, _, rfl, _, rfl, _, rfl, d, r, kk, ps, us, rfl, .inl (h0.1 _ _ hDX), Same.sqT (s14.trans h0.1) hR, hz, b1, fun H2 p1 t2 n1 g1 => ?_⟩
            refine ⟨_, rfl, _, rfl, _, rfl, d, t, kk, ps, zs, rfl, .inl (t2 _ _ (h0.1 _ _ hDX)), Same.sqT t2 (Same.sqT (s14.trans h0.1) hT), hz2, b2, fun H3 p2 t3 n2 g2 => ?_⟩
            refine ⟨_, _, dpR (t3 _ _ g1), dpR g2, shR fun z hz => nus z (List.mem_filter.mp hz).1, shR fun z hz => nzs z (List.mem_filter.mp hz).1, ?_⟩
            rw [eqR]
            refine h0.put nW (t2.trans t3) ?_ (by rw [List.length_map, List.length_map]; omega)
            rw [List.getElem?_map, List.getElem?_map, hk]
            rfl
          · refine ⟨W, _, rfl, sqL_new ew, ?_⟩
            rw [List.all_map]
            have s15 := s14.trans s'
            refine ⟨_, rfl, _, rfl, _, rfl, d, r, t, ps, us, zs, rfl, s' _ _ hDX, ok, Same.sqT s15 hR, hz, b1, Same.sqT s15 hT, hz2, b2, fun H4 s4 => ?_⟩
            refine ⟨_, rfl, smallE (by show 2 ≤ 1000000; decide), fun u nu => ?_⟩
            have := q b1 b2 _ u ((s15.trans s4).trans (same_new nu)) upd_same
            rw [← by_eq isd] at this
            exact this
end
end Kb
namespace Kb
open PySem PySem.Spec PyProof.Rows L2
/-! ### the law's own: plain -/
def dlD (ds : List Str) (g : Str → Str) : PyData := .tuple (ds.map fun d => .tuple [.str d, .str (g d)])
theorem dl_all {K : PySem.W.Frag} {H : Hp} {g : Str → Str} : ∀ {L : List Addr} {ds : List Str}, L.length = ds.length → (∀ (i : Nat) (c : Addr) (d : Str), L[i]? = some c → ds[i]? = some d → H c = some (.tup [.str d, .str (g d)])) → DpAll K H (L.map V.ref) (ds.map fun d => .tuple [.str d, .str (g d)])
  | [], [], _, _ => .nil
  | [], _ :: _, h, _ => by cases h
  | _ :: _, [], h, _ => by cases h
  | c :: L, d :: ds, h, t => .cons (.tup (sqT_new (t 0 c d rfl rfl)) (.cons (.str _) (.cons (.str _) .nil))) (dl_all (by simpa using h) fun i c2 d2 h1 h2 => t (i + 1) c2 d2 (by simpa using h1) (by simpa using h2))
theorem DlAt.dp {K : PySem.W.Frag} {H : Hp} {q : Addr} {ds : List Str} {g : Str → Str} (h : DlAt H q ds g) : Dp K H (.ref q) (dlD ds g) := by
  obtain ⟨L, h1, h2, h3⟩ := h
  exact .tup (sqT_new h1) (dl_all h2 h3)
theorem DlAt.mono {H H' : Hp} {q : Addr} {ds : List Str} {g : Str → Str} (s : Same H H') (h : DlAt H q ds g) : DlAt H' q ds g := by
  obtain ⟨L, h1, h2, h3⟩ := h
  exact ⟨L, s _ _ h1, h2, fun i c d a b => s _ _ (h3 i c d a b)⟩
theorem eqv_dl (g : Str → Str) : ∀ ds : List Str, PyData.eqv (dlD ds g) (dlD ds g) = true := by
  intro ds
  unfold dlD
  rw [PyData.eqv]
  induction ds with
  | nil => simp [PyData.eqvAll]
  | cons d ds ih =>
    rw [List.map_cons, PyData.eqvAll, ih, Bool.and_true, PyData.eqv, PyData.eqvAll, PyData.eqvAll, PyData.eqvAll, eq_str, eq_str]
    simp
theorem sh_dl {g : Str → Str} {ds : List Str} (h : ∀ d ∈ ds, isName d = true) (h2 : ∀ d ∈ ds, isName (g d) = true) : SeqAt.shaped (dlD ds g) = true := by
  unfold dlD
  refine shaped_of ?_ ?_
  · rw [PyData.canLay0]
    refine lay_all ds fun d hd => ?_
    rw [PyData.canLay0, PyData.canLayAll0, PyData.canLayAll0, PyData.canLayAll0, PyData.canLay0, PyData.canLay0, name_ok (h d hd), name_ok (h2 d hd)]
    rfl
  · have := dep_le (f := fun d => PyData.tuple [.str d, .str (g d)]) (n := 2) (fun d => by simp [PyData.depth, PyData.depthAll]) ds
    simp only [PyData.depth]
    omega
def apG {α : Type} (us ws : List α) : List α := match us, ws with
  | [a], [b] => [a, b]
  | _, _ => []
theorem kb_ap {K : PySem.W.Frag} {fd : FuncData} {a b : Str} (h : ∀ x y : Value, bindArgs fd ⟨[x], [(b, y)]⟩ = pure [(a, x), (b, y)]) : KBinds K fd [a, b] [b] apG apG := by
  constructor
  · intro s us ws _ hl
    match us, ws, hl with
    | [x], [y], _ => exact BindsTo.of_eq (h x y)
    | [], _, hl => exact absurd hl (by simp [apG])
    | [_], [], hl => exact absurd hl (by simp [apG])
    | [_], _ :: _ :: _, hl => exact absurd hl (by simp [apG])
    | _ :: _ :: _, _, hl => exact absurd hl (by simp [apG])
  · intro vs us zs ws r rz
    cases r with
    | nil => exact .nil
    | cons a r =>
      cases r with
      | nil =>
        cases rz with
        | nil => exact .nil
        | cons b rz =>
          cases rz with
          | nil => exact .cons a (.cons b .nil)
          | cons _ _ => exact .nil
      | cons _ _ => exact .nil
section
variable {P : Program} {w : World} {K : PySem.W.Frag} {mg : Str → Option Value} {base : Heap}
def spPlain (K : PySem.W.Frag) (CB : Addr) : Sp := fun vs H Q _ => ∃ (p a : Addr) (ca : Addr) (cs : List CA) (ds : List Str) (k : Str), vs = [.ref p, .ref a, .str k] ∧ BookAt K CB H p ca cs ∧ ds.Perm (uniq (dns cs)) ∧ sortedS ds = true ∧ H a = some (.lst (ds.map V.str)) ∧ (∀ d ∈ ds, isName d = true) ∧ isName k = true ∧ ∀ H', Same H H' → Q (.bl true) H'
abbrev nLpl : List Str := ["book", "deeds", "word", "deed"]
theorem scLpl : FnScope nLpl ["book", "deeds", "word"] (defScope sPlain) := ⟨rfl, rfl, rfl, by decide +kernel, rfl, by decide +kernel, by decide +kernel⟩
theorem ok_plain {f f1 f2 CB : Addr} {fd fd1 fd2 : FuncData} {dflt : Value} (F : Fun K "_law_plain" "_law_plain" sPlain f fd) (N : Nones mg) (G_one_desk : FnOk P w K mg base CX0 3 f1 fd1 ["book", "desk"] (spDesk1 K CB)) (g1 : mg "one_desk" = some (.ref f1)) (k1 : PySem.W.keepIn K (.ref f1) = true) (b1 : Binds K fd1 ["book", "desk"] [dflt]) (v1 : Vals [V.str "one"] [dflt]) (kb1 : KBinds K fd1 ["book", "desk"] ["desk"] apG apG)
    (G_own_desks : FnOk P w K mg base CX0 3 f2 fd2 ["book"] (spOwnD K CB)) (C_own_desks : CallC K mg "own_desks" ["book"] f2 fd2) : FnOk P w K mg base CX0 4 f fd ["book", "deeds", "word"] (spPlain K CB) := by
  refine F.ok scLpl (fun vs H Q E h => ?_) (fun cdv A outer s H vs Q E hr h => ?_)
  · obtain ⟨p, a, ca, cs, ds, k, rfl, _⟩ := h
    rfl
  · obtain ⟨p, a, ca, cs, ds, k, rfl, hB, hp, hs, hA, hn, hk, fin⟩ := h
    have dl : ds.length ≤ 12 := by
      obtain ⟨_, _, _, _, _, _, b5⟩ := id hB
      rw [hp.length_eq]
      exact b5.d12
    have n1 : isName (Str.ofString "one") = true := by decide +kernel
    refine ⟨_, pss_cons (ps_if (PW.pt (pw_or (pt_cmpR (op_neD hr.units) (pe_call G_one_desk (hr.mono (by decide)) (by rfl) g1 k1 b1 v1 pass0 (pa_cons (pv 0) pa_nil)) (pe_callTy call_tuple_of (by rfl) N.tuple (by decide +kernel) (pa_cons (pe_lc (own := [("deed", 3)]) (g := gName 3) (tt := tYes) rfl scLpl.nd (pi_list (pv 1)) (blkOk_by (own := [("deed", 3)]) (N := nLpl) (sc := defScope sPlain) (by decide +kernel)) (fun _ _ _ _ _ => (pg_name (i := 3) scLpl.nd rfl (Or.inl rfl))) (fun _ _ _ _ _ => pts_nil) (fun _ _ _ _ _ => (pe_tup (pa_cons (pv 3) (pa_cons pe_str pa_nil))))) pa_nil)) (nomark _)) (pw_or1 (pt_cmpR (op_neD hr.units) (pe_call G_own_desks (hr.mono (by decide)) (by rfl) C_own_desks.g C_own_desks.kp C_own_desks.b .nil pass0 (pa_cons (pv 0) pa_nil)) (pe_callTy call_tuple_of (by rfl) N.tuple (by decide +kernel) (pa_cons (pe_lc (own := [("deed", 3)]) (g := gName 3) (tt := tYes) rfl scLpl.nd (pi_list (pv 1)) (blkOk_by (own := [("deed", 3)]) (N := nLpl) (sc := defScope sPlain) (by decide +kernel)) (fun _ _ _ _ _ => (pg_name (i := 3) scLpl.nd rfl (Or.inl rfl))) (fun _ _ _ _ _ => pts_nil) (fun _ _ _ _ _ => (pe_tup (pa_cons (pv 3) (pa_cons (pv 3) pa_nil))))) pa_nil)) (nomark _))))) (pss_one (ps_ret pe_bl)) pss_nil)
      (pss_one (ps_ret (pe_cmpR (op_eqD hr.units) (pe_callK G_one_desk (hr.mono (by decide)) (by rfl) g1 k1 kb1 pass0 (pa_cons (pv 0) pa_nil) (pk_cons (pv 2) pk_nil)) (pe_callTy call_tuple_of (by rfl) N.tuple (by decide +kernel) (pa_cons (pe_lc (own := [("deed", 3)]) (g := gName 3) (tt := tYes) rfl scLpl.nd (pi_list (pv 1)) (blkOk_by (own := [("deed", 3)]) (N := nLpl) (sc := defScope sPlain) (by decide +kernel)) (fun _ _ _ _ _ => (pg_name (i := 3) scLpl.nd rfl (Or.inl rfl))) (fun _ _ _ _ _ => pts_nil) (fun _ _ _ _ _ => (pe_tup (pa_cons (pv 3) (pa_cons (pv 2) pa_nil))))) pa_nil)) (nomark _)))), ?_⟩
    refine ⟨_, rfl, p, ca, cs, ds, "one", rfl, hB, hp, hs, fun H1 q1 s1 d1 => ?_⟩
    have hA1 := s1 _ _ hA
    refine ⟨_, rfl, a, rfl, ⟨_, sqL_new hA1⟩, fun D nD => ?_⟩
    refine lc_it (walk_list (K := K) (a := a) (xs := ds.map V.str)) (fun i G => ∃ L : List Addr, Same H1 G ∧ G D = some (.lst (L.map V.ref)) ∧ L.length = i ∧ ∀ (i : Nat) (c : Addr) (d : Str), L[i]? = some c → ds[i]? = some d → G c = some (.tup [V.str d, V.str ("one")])) ⟨[], same_new nD, upd_same, rfl, fun i c d h => by simp at h⟩ (fun _ _ _ h => sqL_new (h.choose_spec.1 _ _ hA1)) (fun i x G G' hi h y => ?_) (fun G h => ?_)
    · obtain ⟨rfl, hy⟩ := y
      obtain ⟨d, hd, rfl⟩ := get_map hy
      obtain ⟨L, sG, eG, lL, tL⟩ := h
      rw [List.length_map] at hi
      refine ⟨rfl, .str d, rfl, smallE (by show 2 ≤ 1000000; decide), fun b nb => ?_⟩
      have sb := same_new (o := .tup [V.str d, V.str ("one")]) nb
      have eb : upd G' b (.tup [V.str d, V.str ("one")]) b = some (.tup [V.str d, V.str ("one")]) := upd_same
      have nDt : ∀ {c : Addr} {xs : List V}, upd G' b (.tup [V.str d, V.str ("one")]) c = some (.tup xs) → c ≠ D := fun e z => by
        rw [z, sb _ _ eG] at e
        cases e
      refine ⟨_, sb _ _ eG, by rw [List.length_map]; exact small (by omega), L ++ [b], fun c o e => ?_, ?_, by rw [List.length_append, lL]; rfl, fun j c d2 hj hd2 => ?_⟩
      · rw [upd_ne (ne_of_none e nD)]
        exact sb _ _ (sG _ _ e)
      · rw [upd_same, List.map_append]
        rfl
      · by_cases hji : j < i
        · rw [List.getElem?_append_left (by omega)] at hj
          have := sb _ _ (tL j c d2 hj hd2)
          rw [upd_ne (nDt this)]
          exact this
        · have hj2 := lt_of_get hj
          rw [List.length_append, List.length_singleton] at hj2
          obtain rfl : j = i := by omega
          rw [List.getElem?_append_right (by omega), lL, Nat.sub_self] at hj
          cases hj
          rw [hd] at hd2
          cases hd2
          rw [upd_ne (nDt eb)]
          exact eb
    obtain ⟨L, sG, eG, lL, tL⟩ := h
    rw [List.length_map] at lL
    refine ⟨D, _, rfl, .inl ⟨sqL_new eG, fun t nt => ?_⟩⟩
    have st := same_new (o := .tup (L.map V.ref)) nt
    have dT : DlAt (upd G t (.tup (L.map V.ref))) t ds (fun _ => "one") := ⟨L, upd_same, lL, fun i c d h1 h2 => st _ _ (tL i c d h1 h2)⟩
    have sX := (s1.trans sG).trans st
    have d1 := d1.mono (sG.trans st)
    generalize upd G t (.tup (L.map V.ref)) = H2 at sX d1 dT
    refine ⟨_, _, d1.dp, dT.dp, sh_dl hn (fun _ _ => n1), sh_dl hn (fun _ _ => n1), ?_⟩
    rw [eqv_dl]
    refine ⟨_, rfl, iteF ?_⟩
    clear eG tL sG st nt nD hA1 s1 d1 dT
    refine ⟨_, rfl, p, ca, cs, ds, rfl, hB.mono sX, hp, hs, fun H3 q2 s3 d2 => ?_⟩
    have s03 := sX.trans s3
    have hA3 := s03 _ _ hA
    refine ⟨_, rfl, a, rfl, ⟨_, sqL_new hA3⟩, fun D nD => ?_⟩
    refine lc_it (walk_list (K := K) (a := a) (xs := ds.map V.str)) (fun i G => ∃ L : List Addr, Same H3 G ∧ G D = some (.lst (L.map V.ref)) ∧ L.length = i ∧ ∀ (i : Nat) (c : Addr) (d : Str), L[i]? = some c → ds[i]? = some d → G c = some (.tup [V.str d, V.str (d)])) ⟨[], same_new nD, upd_same, rfl, fun i c d h => by simp at h⟩ (fun _ _ _ h => sqL_new (h.choose_spec.1 _ _ hA3)) (fun i x G G' hi h y => ?_) (fun G h => ?_)
    · obtain ⟨rfl, hy⟩ := y
      obtain ⟨d, hd, rfl⟩ := get_map hy
      obtain ⟨L, sG, eG, lL, tL⟩ := h
      rw [List.length_map] at hi
      refine ⟨rfl, .str d, rfl, .str d, rfl, smallE (by show 2 ≤ 1000000; decide), fun b nb => ?_⟩
      have sb := same_new (o := .tup [V.str d, V.str (d)]) nb
      have eb : upd G' b (.tup [V.str d, V.str (d)]) b = some (.tup [V.str d, V.str (d)]) := upd_same
      have nDt : ∀ {c : Addr} {xs : List V}, upd G' b (.tup [V.str d, V.str (d)]) c = some (.tup xs) → c ≠ D := fun e z => by
        rw [z, sb _ _ eG] at e
        cases e
      refine ⟨_, sb _ _ eG, by rw [List.length_map]; exact small (by omega), L ++ [b], fun c o e => ?_, ?_, by rw [List.length_append, lL]; rfl, fun j c d2 hj hd2 => ?_⟩
      · rw [upd_ne (ne_of_none e nD)]
        exact sb _ _ (sG _ _ e)
      · rw [upd_same, List.map_append]
        rfl
      · by_cases hji : j < i
        · rw [List.getElem?_append_left (by omega)] at hj
          have := sb _ _ (tL j c d2 hj hd2)
          rw [upd_ne (nDt this)]
          exact this
        · have hj2 := lt_of_get hj
          rw [List.length_append, List.length_singleton] at hj2
          obtain rfl : j = i := by omega
          rw [List.getElem?_append_right (by omega), lL, Nat.sub_self] at hj
          cases hj
          rw [hd] at hd2
          cases hd2
          rw [upd_ne (nDt eb)]
          exact eb
    obtain ⟨L, sG, eG, lL, tL⟩ := h
    rw [List.length_map] at lL
    refine ⟨D, _, rfl, .inl ⟨sqL_new eG, fun t nt => ?_⟩⟩
    have st := same_new (o := .tup (L.map V.ref)) nt
    have dT : DlAt (upd G t (.tup (L.map V.ref))) t ds (fun d => d) := ⟨L, upd_same, lL, fun i c d h1 h2 => st _ _ (tL i c d h1 h2)⟩
    have sY := (s03.trans sG).trans st
    have d2 := d2.mono (sG.trans st)
    generalize upd G t (.tup (L.map V.ref)) = H4 at sY d2 dT
    refine ⟨_, _, d2.dp, dT.dp, sh_dl hn hn, sh_dl hn hn, ?_⟩
    rw [eqv_dl]
    refine ⟨_, rfl, iteF ?_⟩
    clear eG tL sG st nt nD hA3 d2 dT
    refine ⟨_, rfl, _, rfl, p, ca, cs, ds, k, rfl, hB.mono sY, hp, hs, fun H5 q3 s5 d3 => ?_⟩
    have s05 := sY.trans s5
    have hA5 := s05 _ _ hA
    refine ⟨_, rfl, a, rfl, ⟨_, sqL_new hA5⟩, fun D nD => ?_⟩
    refine lc_it (walk_list (K := K) (a := a) (xs := ds.map V.str)) (fun i G => ∃ L : List Addr, Same H5 G ∧ G D = some (.lst (L.map V.ref)) ∧ L.length = i ∧ ∀ (i : Nat) (c : Addr) (d : Str), L[i]? = some c → ds[i]? = some d → G c = some (.tup [V.str d, V.str (k)])) ⟨[], same_new nD, upd_same, rfl, fun i c d h => by simp at h⟩ (fun _ _ _ h => sqL_new (h.choose_spec.1 _ _ hA5)) (fun i x G G' hi h y => ?_) (fun G h => ?_)
    · obtain ⟨rfl, hy⟩ := y
      obtain ⟨d, hd, rfl⟩ := get_map hy
      obtain ⟨L, sG, eG, lL, tL⟩ := h
      rw [List.length_map] at hi
      refine ⟨rfl, .str d, rfl, .str k, rfl, smallE (by show 2 ≤ 1000000; decide), fun b nb => ?_⟩
      have sb := same_new (o := .tup [V.str d, V.str (k)]) nb
      have eb : upd G' b (.tup [V.str d, V.str (k)]) b = some (.tup [V.str d, V.str (k)]) := upd_same
      have nDt : ∀ {c : Addr} {xs : List V}, upd G' b (.tup [V.str d, V.str (k)]) c = some (.tup xs) → c ≠ D := fun e z => by
        rw [z, sb _ _ eG] at e
        cases e
      refine ⟨_, sb _ _ eG, by rw [List.length_map]; exact small (by omega), L ++ [b], fun c o e => ?_, ?_, by rw [List.length_append, lL]; rfl, fun j c d2 hj hd2 => ?_⟩
      · rw [upd_ne (ne_of_none e nD)]
        exact sb _ _ (sG _ _ e)
      · rw [upd_same, List.map_append]
        rfl
      · by_cases hji : j < i
        · rw [List.getElem?_append_left (by omega)] at hj
          have := sb _ _ (tL j c d2 hj hd2)
          rw [upd_ne (nDt this)]
          exact this
        · have hj2 := lt_of_get hj
          rw [List.length_append, List.length_singleton] at hj2
          obtain rfl : j = i := by omega
          rw [List.getElem?_append_right (by omega), lL, Nat.sub_self] at hj
          cases hj
          rw [hd] at hd2
          cases hd2
          rw [upd_ne (nDt eb)]
          exact eb
    obtain ⟨L, sG, eG, lL, tL⟩ := h
    rw [List.length_map] at lL
    refine ⟨D, _, rfl, .inl ⟨sqL_new eG, fun t nt => ?_⟩⟩
    have st := same_new (o := .tup (L.map V.ref)) nt
    have dT : DlAt (upd G t (.tup (L.map V.ref))) t ds (fun _ => k) := ⟨L, upd_same, lL, fun i c d h1 h2 => st _ _ (tL i c d h1 h2)⟩
    have sZ := (s05.trans sG).trans st
    have d3 := d3.mono (sG.trans st)
    refine ⟨_, _, d3.dp, dT.dp, sh_dl hn (fun _ _ => hk), sh_dl hn (fun _ _ => hk), ?_⟩
    rw [eqv_dl]
    exact fin _ sZ
end
end Kb
namespace Kb
open PySem PySem.Spec PyProof.Rows L2
/-! ### a dealing spoilt at one place: what _law_spoilt promises, and that _law_told tells the place -/
/-- v is no dealing of ds, and z is where -/
def SpOk (K : PySem.W.Frag) (H : Hp) (ds : List Str) (v : V) (z : Int) : Prop :=
  (∃ t : String, TyX K H v (.type t) ∧ kitB t "tuple" = some false ∧ z = -1) ∨
  ∃ (x : Addr) (xs : List V) (n : Nat), v = .ref x ∧ SqT K H x xs ∧ xs.length ≤ 100 ∧ z = (n : Int) ∧ n ≤ xs.length ∧ n ≤ ds.length ∧ (∀ (i : Nat) (y : V) (d : Str), i < n → xs[i]? = some y → ds[i]? = some d → PairV K H d y true) ∧
    ((n < xs.length ∧ (ds.length ≤ n ∨ ∀ (y : V) (d : Str), xs[n]? = some y → ds[n]? = some d → PairV K H d y false)) ∨ (n = xs.length ∧ xs.length < ds.length))
theorem SpOk.mono {K : PySem.W.Frag} {H H' : Hp} {ds : List Str} {v : V} {z : Int} (s : Same H H') (h : SpOk K H ds v z) : SpOk K H' ds v z := by
  rcases h with ⟨t, h1, h2, h3⟩ | ⟨x, xs, n, h1, h2, h3, h4, h5, h6, h7, h8⟩
  · exact .inl ⟨t, TyX.mono s h1, h2, h3⟩
  · refine .inr ⟨x, xs, n, h1, Same.sqT s h2, h3, h4, h5, h6, fun i y d hi hy hd => (h7 i y d hi hy hd).mono s, ?_⟩
    rcases h8 with ⟨a, b⟩ | h
    · exact .inl ⟨a, b.imp id fun b y d hy hd => (b y d hy hd).mono s⟩
    · exact .inr h
/-- what _law_told is asked of such a value -/
theorem told_of {K : PySem.W.Frag} {H : Hp} {Q : VK} {ds : List Str} {v : V} {z : Int} (h : SpOk K H ds v z) (q : AtQ H Q z) :
    (∃ t : String, TyX K H v (.type t) ∧ kitB t "tuple" = some false ∧ AtQ H Q (-1)) ∨
   (∃ (x : Addr) (xs : List V) (bs : Nat → Bool), v = .ref x ∧ SqT K H x xs ∧ xs.length ≤ 100 ∧ (∀ (i : Nat) (y : V) (d : Str), xs[i]? = some y → ds[i]? = some d → (∀ j : Nat, j < i → j < ds.length ∧ bs j = true) → PairV K H d y (bs i)) ∧
     (∀ i : Nat, i < xs.length → (∀ j : Nat, j < i → j < ds.length ∧ bs j = true) → (ds.length ≤ i ∨ bs i = false) → AtQ H Q (i : Int)) ∧
     ((∀ j : Nat, j < xs.length → j < ds.length ∧ bs j = true) → (xs.length < ds.length → AtQ H Q (xs.length : Int)) ∧ (ds.length ≤ xs.length → ∀ (H' : Hp) (p : Addr), Same H H' → H' p = some (.tup [.str (Str.ofString "let")]) → Q (.ref p) H'))) := by
  rcases h with ⟨t, h1, h2, rfl⟩ | ⟨x, xs, n, h1, h2, h3, rfl, h5, h6, h7, h8⟩
  · exact .inl ⟨t, h1, h2, q⟩
  · refine .inr ⟨x, xs, fun j => decide (j < n), h1, h2, h3, fun i y d hy hd hall => ?_, fun i hi hall hbad => ?_, fun hall => ⟨fun hlt => ?_, fun hge => ?_⟩⟩
    · have hin : i ≤ n := by
        rcases Nat.lt_or_ge n i with w | w
        · have := (hall n w).2
          simp at this
        · exact w
      by_cases hlt : i < n
      · show PairV K H d y (decide (i < n))
        rw [decide_eq_true hlt]
        exact h7 i y d hlt hy hd
      · obtain rfl : i = n := by omega
        show PairV K H d y (decide (i < i))
        rw [decide_eq_false hlt]
        have hl1 := lt_of_get hy
        have hl2 := lt_of_get hd
        rcases h8 with ⟨_, b⟩ | ⟨e, _⟩
        · rcases b with b | b
          · omega
          · exact b y d hy hd
        · omega
    · have hin : i ≤ n := by
        rcases Nat.lt_or_ge n i with w | w
        · have := (hall n w).2
          simp at this
        · exact w
      have : i = n := by
        rcases hbad with hb | hb
        · omega
        · have := of_decide_eq_false hb
          omega
      rw [this]
      exact q
    · rcases h8 with ⟨a, _⟩ | ⟨e, _⟩
      · have := (hall n a).2
        simp at this
      · rw [← e]
        exact q
    · rcases h8 with ⟨a, _⟩ | ⟨e, hl⟩
      · have := (hall n a).2
        simp at this
      · omega
/-- a good pair -/
theorem pair_true {K : PySem.W.Frag} {H : Hp} {p : Addr} {d k : Str} (h : H p = some (.tup [.str d, .str k])) (hd : isName d = true) (hk : isName k = true) : PairV K H d (.ref p) true := by
  have e : (isN (some d) && (decide (some d = some d) && isN (some k))) = true := by
    rw [show isN (some d) = true from hd, show isN (some k) = true from hk, decide_eq_true rfl]
    rfl
  rw [← e]
  exact .pair (sqT_new h) (.inr ⟨_, rfl, rfl, name_len hd⟩) (.inr ⟨_, rfl, rfl, name_len hk⟩)
/-- a pair of another deed -/
theorem pair_other {K : PySem.W.Frag} {H : Hp} {p : Addr} {d e k : Str} (h : H p = some (.tup [.str e, .str k])) (ne : e ≠ d) (he : isName e = true) (hk : isName k = true) : PairV K H d (.ref p) false := by
  have e2 : (isN (some e) && (decide (some e = some d) && isN (some k))) = false := by
    rw [decide_eq_false (fun z => ne (Option.some.inj z)), Bool.false_and, Bool.and_false]
  rw [← e2]
  exact .pair (sqT_new h) (.inr ⟨_, rfl, rfl, name_len he⟩) (.inr ⟨_, rfl, rfl, name_len hk⟩)
end Kb
/-! sorted(t), t a tuple of texts. -/
namespace Ka
open PySem PySem.Spec PyProof.Rows L2
section
variable {prog : Program} {w : World} {A : Around} {E : Value → Shared → Prop} {s : Shared}
theorem sorted_tupS {a : Addr} {vs : List Value} {ss : List Str} {Q : Value → Shared → Prop} {o : Obj} {n : Nat} (ho : s.heap.get? a = some o) (hc : o.cls = .type "tuple") (hd : o.data = .seq vs.toArray n) (hS : StrsAre vs ss) (h64 : vs.length < 64)
    (h : ∀ (h1 h2 : Heap) (out : Array Value) (ss' : List Str) (e : Nat), (∀ b o, s.heap.get? b = some o → h1.get? b = some o) → (∀ b o, h1.get? b = some o → h2.get? b = some o) → h2.get? h1.objs.size = some (seqObj "list" out e) → StrsAre out.toList ss' → ss'.Perm ss → sortedS ss' = true →
      Q (.ref h1.objs.size) { s with heap := h2 }) : wpAny (model prog w) A (call (.builtin "sorted") [.ref a]) Q E s := by
  have hsz : vs.toArray.size ≤ sizeLine := by
    rw [List.size_toArray]
    exact small64 h64
  refine Calls.call_function_entry kind_sorted plain_sorted entry_sorted (args_sorted1 _) ?_
  unfold Builtin.«sorted»
  refine wpAny_bind (m := checkCount "sorted" 1 1 _) (wpAny_pure ?_)
  refine wpAny_bind (wpAny_collect_seq a (.inr rfl) ho hc hd (fun h1 k1 => ?_) hsz)
  refine wpAny_bind (wpAny_newList ?_ (by simpa using hsz))
  have hoL : (h1.push (seqObj "list" vs.toArray 0)).get? h1.objs.size = some (seqObj "list" vs.toArray 0) := Heap.get?_push_size _ rfl
  show wpAny _ _ _ _ _ { s with heap := h1.push (seqObj "list" vs.toArray 0) }
  refine wpAny_bind (wpAny_holding (wpAny_call_entry slot_list_sort ⟨_, hoL, rfl⟩ entry_list_sort (list_sort_treeK strKind_oneLt hoL hS.keysOf (fun v₁ v₂ rest e => keyKind_strs (by rw [← e]; exact hS)) h64 fun st' hp hs => ⟨_, rfl, ?_⟩) (args_list_sort _)))
  obtain ⟨ss', e1, e2, e3⟩ := sorted_out_str hS hp hs
  obtain ⟨e, he⟩ := sortedHeap_at (out := (arrOf st').map (·.2)) hoL
  refine wpAny_pure ⟨_, rfl, h h1 _ _ ss' e k1 (fun b o hb => ?_) he e1 e2 e3⟩
  have hlt := Heap.lt_size hb
  rw [sortedHeap_old (Nat.ne_of_lt hlt) (by rw [size_push']; exact Nat.lt_succ_of_lt hlt)]
  exact Heap.get?_push_of_some _ hb
end
def rSortedT (K : PySem.W.Frag) : List V → Hp → VK → Prop := fun vs H Q => ∃ (a : Addr) (xs : List Str), vs = [V.ref a] ∧ SqT K H a (xs.map V.str) ∧ xs.length < 64 ∧
  ∀ (ys : List Str) (p : Addr), ys.Perm xs → sortedS ys = true → H p = none → Q (.ref p) (upd H p (.lst (ys.map V.str)))
theorem cr_sortedT {X : Cx} : CallR X (.builtin "sorted") (rSortedT X.K) := by
  intro pins s σ H vs us Q I r h
  obtain ⟨a, xs, rfl, hs, h64, q⟩ := h
  obtain ⟨its, rv, ht, _⟩ := I.tuple hs
  rw [Vals.ref1 r]
  have hlen0 := rv.length
  rw [List.length_map] at hlen0
  obtain ⟨o, ho, hc, n, hd⟩ := ht
  refine sorted_tupS ho hc hd rv.strs (by rw [← hlen0]; exact h64) fun h1 h2 out ys e k1 k2 he e1 e2 e3 => ?_
  have hlen : (ys.map V.str).length ≤ sizeLine := by rw [List.length_map, e2.length_eq]; exact small64 h64
  have I1 : Inv X pins σ H { s with heap := h1, toks := s.toks } := I.kept k1
  exact ⟨.ref h1.objs.size, upd H h1.objs.size (.lst (ys.map V.str)), I1.laid (t' := s.toks) k2 (Nat.le_refl _) ⟨hlen, out.toList, e, vals_of_strs e1, he⟩, rfl, q ys _ e2 e3 (I1.hok.fresh (Nat.le_refl _))⟩
end Ka
/-! sorted(set(t)), t a tuple of texts. -/
namespace Ka
open PySem PySem.Spec PyProof.Rows L2
/-- just the texts of L, each once -/
def Of (es : List (Int × Value)) (L : List Str) : Prop := (∀ x : Str, x ∈ L ↔ ∃ e ∈ es, ∃ t, e.2 = .str x t) ∧ es.Pairwise (fun e f => ∀ x t u, e.2 = .str x t → f.2 = .str x u → False) ∧ es.length ≤ L.length
theorem Of.perm {es fs : List (Int × Value)} {L : List Str} (h : Of es L) (p : fs.Perm es) : Of fs L := by
  refine ⟨fun x => (h.1 x).trans ⟨fun ⟨e, he, t⟩ => ⟨e, p.mem_iff.mpr he, t⟩, fun ⟨e, he, t⟩ => ⟨e, p.mem_iff.mp he, t⟩⟩, ?_, by rw [p.length_eq]; exact h.2.2⟩
  exact (p.pairwise_iff fun {a b} hab x t u e1 e2 => hab x u t e2 e1).mpr h.2.1
theorem Of.there {es : List (Int × Value)} {L : List Str} (h : Of es L) {x : Str} {e : Int × Value} {t : Tok} (he : e ∈ es) (ee : e.2 = .str x t) : Of es (L ++ [x]) := by
  refine ⟨fun y => ?_, h.2.1, by rw [List.length_append]; exact Nat.le_trans h.2.2 (Nat.le_add_right _ _)⟩
  rw [List.mem_append, List.mem_singleton]
  refine ⟨fun z => z.elim (fun z => (h.1 y).mp z) fun z => ⟨e, he, t, by rw [z]; exact ee⟩, fun z => .inl ((h.1 y).mpr z)⟩
theorem Of.add {es : List (Int × Value)} {L : List Str} (h : Of es L) {x : Str} {k : Int} {t : Tok} (no : ∀ e ∈ es, ∀ u, e.2 ≠ .str x u) : Of (es ++ [(k, .str x t)]) (L ++ [x]) := by
  refine ⟨fun y => ?_, ?_, by rw [List.length_append, List.length_append]; exact Nat.add_le_add_right h.2.2 _⟩
  · rw [List.mem_append, List.mem_singleton]
    constructor
    · rintro (z | rfl)
      · obtain ⟨e, he, u, hu⟩ := (h.1 y).mp z
        exact ⟨e, List.mem_append_left _ he, u, hu⟩
      · exact ⟨_, List.mem_append_right _ List.mem_cons_self, t, rfl⟩
    · rintro ⟨e, he, u, hu⟩
      rcases List.mem_append.mp he with z | z
      · exact .inl ((h.1 y).mpr ⟨e, z, u, hu⟩)
      · rw [List.mem_singleton.mp z] at hu
        cases hu
        exact .inr rfl
  · rw [List.pairwise_append]
    refine ⟨h.2.1, List.pairwise_singleton _ _, fun e he f hf y t' u e1 e2 => ?_⟩
    rw [List.mem_singleton.mp hf] at e2
    cases e2
    exact no e he _ e1
/-- a set of just the texts of L at a; its table rises -/
def SetM (P : Program) (w : World) (h : Heap) (a : Addr) (L : List Str) : Prop :=
  ∃ ob es ep tb, h.get? a = some ob ∧ ob.ExactSet ∧ ob.data = .set es ep tb ∧ ElemsOf (strKind P w) es.toList ∧ Of es.toList L ∧ es.size < scanBound ∧ tb.fits es.size = true ∧ Ris tb.place.toList ∧ (w.params.followText "set-order" = true ∨ tb.led = true)
theorem SetM.up {P : Program} {w : World} {h h' : Heap} {a : Addr} {m : List Str} (S : SetM P w h a m) (k : ∀ o, h.get? a = some o → h'.get? a = some o) : SetM P w h' a m := by
  obtain ⟨ob, es, ep, tb, z, rest⟩ := S
  exact ⟨ob, es, ep, tb, k _ z, rest⟩
section
variable {P : Program} {w : World} {A : Around} {E : Value → Shared → Prop} {s : Shared} {a : Addr} {m : List Str}
theorem setM_tail {gv : Bool → Sem Unit} (hgv : ∀ (b : Bool) (s1 : Shared) (Z : Unit → Shared → Prop), Z () s1 → wpAny (model P w) A (gv b) Z E s1) {ob : Obj} {es : Array (Int × Value)} {ep : Nat} {tb : SetTable} (z0 : s.heap.get? a = some ob) (zx : ob.ExactSet) (zd : ob.data = .set es ep tb)
    {es1 : Array (Int × Value)} {tb2 : SetTable} (el1 : ElemsOf (strKind P w) es1.toList) (m1 : Of es1.toList m) (b1 : es1.size < scanBound) (f2 : tb2.fits es1.size = true) (r2 : Ris tb2.place.toList) (l2 : w.params.followText "set-order" = true ∨ tb2.led = true) {was : Bool} {R : Option Bool → Shared → Prop}
    (fin : ∀ h2, Heap.SameBut a s.heap h2 → SetM P w h2 a m → R (some true) { s with heap := h2 }) :
    wpAny (model P w) A (do
        storeSet a es1 tb2
        if (!was && tb2.tooFull) = true then do
            gv (relayAll tb2 es1 (SetTable.grown es1.size)).2.2
            storeSet a (relayAll tb2 es1 (SetTable.grown es1.size)).1 (relayAll tb2 es1 (SetTable.grown es1.size)).2.1
            pure (some true)
          else pure (some true)) R E s := by
  refine wpAny_bind (wpAny_storeSet_of z0 zd ?_ (fits_of_scanBound b1))
  have z1 := store_at (es' := es1) (t' := tb2) z0 zd
  have same1 := Heap.SameBut.update s.heap a (Obj.putSet es1 tb2)
  split
  · have q1 := relayAll_perm tb2 es1 (SetTable.grown es1.size)
    have q2 := relayAll_fits tb2 es1 (SetTable.grown es1.size)
    have q3 := relayAll_ris tb2 es1 (SetTable.grown es1.size)
    have q4 := relayAll_led tb2 es1 (SetTable.grown es1.size)
    generalize relayAll tb2 es1 (SetTable.grown es1.size) = Y at q1 q2 q3 q4 ⊢
    obtain ⟨es2, tb3, gave⟩ := Y
    dsimp only at q1 q2 q3 q4 ⊢
    have size2 : es2.size = es1.size := by rw [← Array.length_toList, q1.length_eq, Array.length_toList]
    refine wpAny_bind (hgv _ _ _ ?_)
    refine wpAny_bind (wpAny_storeSet_of z1 rfl ?_ (fits_of_scanBound (by rw [size2]; exact b1)))
    have z2 := store_at (es' := es2) (t' := tb3) z1 rfl
    refine wpAny_pure (fin _ (same1.trans (Heap.SameBut.update _ a _)) ⟨_, es2, _, tb3, z2, zx, rfl, el1.perm q1, m1.perm q1, by rw [size2]; exact b1, q2, q3, l2.imp id fun y => by rw [q4]; exact y⟩)
  · exact wpAny_pure (fin _ same1 ⟨_, es1, _, tb2, z1, zx, rfl, el1, m1, b1, f2, r2, l2⟩)
theorem setM_add {x : Str} {tk : Tok} {Q : Bool → Shared → Prop} (S : SetM P w s.heap a m) (room : m.length + 1 < scanBound) (fin : ∀ (b : Bool) (h2 : Heap), Heap.SameBut a s.heap h2 → SetM P w h2 a (m ++ [x]) → Q b { s with heap := h2 }) :
    wpAny (model P w) A (setAddHashed a (.str x tk) ((strKind P w).hash x)) Q E s := by
  obtain ⟨ob, es, ep, tb, z0, zx, zd, el, me, bo, fi, ri, le⟩ := S
  have ky : (strKind P w).is x (.str x tk) = true := strKind_is P w x tk
  have scn : (Value.str x tk).scannable = true := rfl
  unfold setAddHashed setAddHashedIn
  refine wpAny_holding (wpAny_bind (wpAny_setState_of z0 zd fi ?_))
  dsimp only
  rw [byScan_of scn bo el]
  simp only [↓reduceIte]
  unfold setAddByScan
  refine wpAny_bind (wpAny_bind (wpAny_rule (wpAny_bind (wpAny_setScan_of ky z0 zd fi el ?_))))
  cases found : List.findIdx? (fun e => (strKind P w).is x e.2) es.toList with
  | some j =>
    dsimp only
    obtain ⟨hj, hx, _⟩ := List.findIdx?_eq_some_iff_getElem.mp found
    obtain ⟨t, ht⟩ := Value.isStrOf_shape hx
    exact wpAny_pure (wpAny_pure (fin _ s.heap (Heap.SameBut.refl a s.heap) ⟨ob, es, ep, tb, z0, zx, zd, el, me.there (List.getElem_mem hj) ht, bo, fi, ri, le⟩))
  | none =>
    dsimp only
    have told : ∀ (b : Bool) {s1 : Shared} {Z : Unit → Shared → Prop}, Z () s1 → wpAny (model P w) A (match b with | true => rule "set.scan.the-table-gave-way" | false => pure ()) Z E s1 := fun b s1 Z y => by
      cases b
      · exact wpAny_pure y
      · exact wpAny_rule y
    have q1 := layNew_perm tb es ((strKind P w).hash x) (.str x tk)
    have q2 := layNew_fits tb es ((strKind P w).hash x) (.str x tk)
    have q3 := layNew_ris tb es ((strKind P w).hash x) (.str x tk) ri
    have q4 := layNew_led tb es ((strKind P w).hash x) (.str x tk)
    generalize layNew tb es ((strKind P w).hash x) (.str x tk) = Y at q1 q2 q3 q4 ⊢
    obtain ⟨es1, tb1, was, gave⟩ := Y
    dsimp only at q1 q2 q3 q4 ⊢
    rw [Array.toList_push] at q1
    have el1 : ElemsOf (strKind P w) es1.toList := (el.push ky scn).perm q1
    have size1 : es1.size = es.size + 1 := by rw [← Array.length_toList, q1.length_eq, List.length_append, Array.length_toList]; rfl
    have no : ∀ e ∈ es.toList, ∀ u, e.2 ≠ .str x u := fun e he u ee => by
      have := List.findIdx?_eq_none_iff.mp found e he
      rw [ee, strKind_is] at this
      cases this
    have m1 : Of es1.toList (m ++ [x]) := (me.add no).perm q1
    have few := me.2.2
    rw [Array.length_toList] at few
    have b1 : es1.size < scanBound := by omega
    have le1 : w.params.followText "set-order" = true ∨ tb1.led = true := le.imp id fun y => by rw [q4]; exact y
    refine wpAny_bind (told _ ?_)
    split
    · refine wpAny_bind ?_
      rw [hashByValue_scannable 8 scn]
      refine wpAny_pure ?_
      refine setM_tail (m := m ++ [x]) ?_ z0 zx zd el1 m1 b1 ?_ ?_ ?_ ?_
      · intro b s1 Z y
        cases b
        · exact wpAny_pure y
        · exact wpAny_rule y
      · split
        · exact q2
        · exact SetTable.fits_plain_off q2
      · split <;> exact q3
      · split <;> exact le1
      · intro h2 sb S2
        dsimp only
        exact wpAny_pure (fin _ h2 sb S2)
    · refine wpAny_bind (wpAny_pure ?_)
      simp only [↓reduceIte]
      refine setM_tail (m := m ++ [x]) ?_ z0 zx zd el1 m1 b1 q2 q3 le1 ?_
      · intro b s1 Z y
        cases b
        · exact wpAny_pure y
        · exact wpAny_rule y
      · intro h2 sb S2
        dsimp only
        exact wpAny_pure (fin _ h2 sb S2)
theorem setM_new {h : Heap} (z : h.get? a = some { cls := .type "set", dict := none, data := .set #[] 0 (.fresh 0 0 (!w.params.followText "set-order")) }) : SetM P w h a [] := by
  refine ⟨_, #[], 0, _, z, ⟨rfl, rfl, rfl⟩, rfl, (fun e he => by simp at he), ⟨fun x => ⟨(fun q => nomatch q), (fun ⟨e, he, _⟩ => by simp at he)⟩, List.Pairwise.nil, Nat.le_refl _⟩, (by decide), (by rfl), List.Pairwise.nil, ?_⟩
  show _ ∨ (!w.params.followText "set-order") = true
  cases w.params.followText "set-order"
  · exact .inr rfl
  · exact .inl rfl
theorem setM_loop {I : Addr} {fp wr : List Addr} {G : Array GenState → Array GenState → Prop} {n : Nat} {Pv : Nat → Value → Prop} {St : Nat → Shared → Prop} {R : Result → Shared → Prop} (W : WalksS P w A.in1 I fp wr G n Pv St) (D : Addr) (hD : D ∉ fp) (hb : n + 1 < scanBound) (xs : List Str) (hn : xs.length = n) (txt : ∀ i v, Pv i v → ∃ x tk, v = .str x tk ∧ xs[i]? = some x)
    (out : ∀ s2, Moved (D :: wr) G s s2 → SetM P w s2.heap D xs → R (.ok (.ret .none)) s2) (st0 : St 0 s) (S0 : SetM P w s.heap D []) : codeAny (model P w) A (.builtin "set.update.loop" ⟨[.ref D, .ref I], []⟩) R s := by
  have hDw : D ∉ wr := fun z => hD (W.sub _ z)
  have more : ∀ b ∈ wr, b ∈ D :: wr := fun b z => List.mem_cons_of_mem _ z
  suffices H : ∀ (k i : Nat) (s1 : Shared), n - i = k → i ≤ n → Moved (D :: wr) G s s1 → St i s1 → SetM P w s1.heap D (xs.take i) → codeAny (model P w) A (.builtin "set.update.loop" ⟨[.ref D, .ref I], []⟩) R s1 from H (n - 0) 0 s rfl (Nat.zero_le _) (Moved.refl W.grefl) st0 S0
  intro k
  induction k with
  | zero =>
    intro i s1 hk hi mv st S1
    obtain rfl : i = n := by omega
    rw [← hn, List.take_length] at S1
    refine codeAny_builtin F.entry_set_update_loop ?_
    rw [Around.under_plainId F.plain_set_update_loop _]
    show wpAny _ A.in1 (pyNext (.ref I) >>= _) _ _ s1
    refine wpAny_bind (W.done s1 _ _ st fun s2 m2 => ?_)
    show wpAny _ A.in1 (ret Value.none) _ _ s2
    exact wpAny_pure (out s2 (Moved.trans W.gtrans mv (m2.mono more)) (S1.up fun o e => m2.heap D o hDw e))
  | succ k ih =>
    intro i s1 hk hi mv st S1
    have lt : i < n := by omega
    refine codeAny_builtin F.entry_set_update_loop ?_
    rw [Around.under_plainId F.plain_set_update_loop _]
    show wpAny _ A.in1 (pyNext (.ref I) >>= _) _ _ s1
    refine wpAny_bind (W.item i s1 _ _ lt st fun v s2 pv st2 m2 => ?_)
    obtain ⟨x, tk, rfl, hx⟩ := txt i v pv
    have S2 : SetM P w s2.heap D (xs.take i) := S1.up fun o e => m2.heap D o hDw e
    show wpAny _ A.in1 (holding [Value.str x tk] (setAdd D (.str x tk)) >>= _) _ _ s2
    refine wpAny_bind (wpAny_holding ?_)
    unfold setAdd
    refine wpAny_holding (wpAny_bind ((strKind P w).pyHash (k := x) (strKind_is _ _ _ _) ?_))
    refine setM_add (s := { s2 with toks := s2.toks + 1 }) S2 (by rw [List.length_take]; omega) fun b h2 sb S3 => ?_
    have S3 : SetM P w h2 D (xs.take (i + 1)) := by
      rw [List.take_add_one, hx]
      exact S3
    refine wpAny_pure ⟨plainId_quiet F.plain_set_update_loop _, ih (i + 1) _ (by omega) lt ?_ (W.frame _ s2 _ _ st2 (Nat.le_succ _) fun c hc o e => ?_) S3⟩
    · refine Moved.trans W.gtrans mv ((m2.mono more).then_heap (Nat.le_succ _) fun c o hc e => ?_)
      rw [sb.2 c (fun z => hc (by rw [z]; exact List.mem_cons_self))]
      exact e
    · rw [sb.2 c (fun z => hD (by rw [← z]; exact hc))]
      exact e
/-- what set() makes first -/
def bareM (w : World) : Obj := { cls := .type "set", dict := none, data := .set #[] 0 (.fresh 0 0 (!w.params.followText "set-order")) }
theorem strsAtM {vs : List Value} {xs : List Str} (h : StrsAre vs xs) : ∀ (i : Nat) (v : Value), vs[i]? = some v → ∃ x tk, v = .str x tk ∧ xs[i]? = some x := fun i v e => by
  obtain ⟨tk, z⟩ := SS.strs_at h i v e
  have hl := PyProof.Rows.StrsAre.length h
  obtain ⟨hi, _⟩ := List.getElem?_eq_some_iff.mp e
  refine ⟨_, tk, z, ?_⟩
  first
    | (rw [List.getD_eq_getElem?_getD, List.getElem?_eq_getElem (by omega)]; rfl)
    | (rw [List.getElem?_eq_getElem (by omega)]; simp)
set_option maxHeartbeats 6400000 in
theorem set_tupM {l : Addr} {its : Array Value} {xs : List Str} {Q : Value → Shared → Prop} (cold : A.handled = none) (tl : s.heap.IsTuple l its) (txt : StrsAre its.toList xs) (few : its.size + 1 < scanBound)
    (fin : ∀ (h2 : Heap) (tk : Nat), SetM P w h2 s.heap.objs.size xs → (∀ b o, s.heap.get? b = some o → h2.get? b = some o) → Q (.ref s.heap.objs.size) { s with heap := h2, toks := tk }) :
    wpAny (model P w) A (call (.type "set") [.ref l]) Q E s := by
  obtain ⟨c, rest, hmro⟩ := F.called_set.mro
  have hmade := F.called_set.made
  have hsub := F.called_set.sub
  refine wpAny_call (codeAny_of_tree ?_)
  show wpAny _ _ (callAny (.type "set") _) _ _ _
  refine wpAny_pure ⟨Code.quiet_builtin _ (by decide +kernel), codeAny_builtin F.entry_type_call ?_⟩
  rw [Around.under_plain (weight_type_call_type "set" [.ref l] []) rfl]
  have h1 := F.called_set.notType
  have h2 := F.called_set.canCreate
  have hct := F.typeCall_set_1 (.ref l)
  repeat (any_goals (first | assumption | wp_step))
  refine codeAny_mono (code_set_led1 (.ref l) (E := E) (Q₁ := fun ob s1 => ob = .ref s.heap.objs.size ∧ s1 = { s with heap := s.heap.push (bareM w) }) ⟨rfl, rfl⟩) fun r s1 hr => ?_
  cases r with
  | error e => exact hr
  | ok fl =>
    cases fl with
    | ret ob =>
      obtain ⟨rfl, rfl⟩ := hr
      have z0 : (s.heap.push (bareM w)).get? s.heap.objs.size = some (bareM w) := Heap.get?_push_size _ rfl
      have hT : Shared.TypeIs { s with heap := s.heap.push (bareM w) } (.ref s.heap.objs.size) "set" := ⟨_, z0, rfl⟩
      have hli := F.called_set.init.lookup
      have hbi := F.called_set.init.bind (.ref s.heap.objs.size)
      repeat (any_goals (first | assumption | wp_step))
      refine codeAny_mono (codeAny_call_builtin (R := wants (fun r s2 => r = .none ∧ ∃ h2 tk, s2 = { s with heap := h2, toks := tk } ∧ SetM P w h2 s.heap.objs.size xs ∧ ∀ b o, s.heap.get? b = some o → h2.get? b = some o) E) F.called_set.init.plain F.entry_set_init (check_set_init_1 hT ?_)) fun r2 s2 hr2 => ?_
      · obtain ⟨⟨cls, dict, data, slots⟩, gl, cl, nl, dl⟩ := tl
        simp only at cl dl
        subst cl dl
        have gl1 : (s.heap.push (bareM w)).get? l = some { cls := .type "tuple", dict := dict, data := .seq its nl, slots := slots } := Heap.get?_push_of_some _ gl
        have hsls := F.sub_tuple_set
        have hslf := F.sub_tuple_frozenset
        have hne : (Value.type "tuple" == Value.type "dict") = false := by decide
        have tl1 : (s.heap.push (bareM w)).IsTuple l its := ⟨_, gl1, rfl, nl, rfl⟩
        unfold Builtin.«set.__init__» noKeywords Builtin.Frozenset.updateFrom
        generalize walkP : pyIter = Pit
        wp_walk
        subst walkP
        refine wpAny_pyIter_tuple tl1 ?_
        refine wpAny_bind (wpAny_runValue ?_)
        have lt0 : l < s.heap.objs.size := Heap.lt_size gl
        have cold3 : A.in1.in1.in1.handled = none := by simp [cold]
        have lt1 : l ≠ (s.heap.push (bareM w)).objs.size := by
          rw [Heap.size_push]
          exact Nat.ne_of_lt (Nat.lt_succ_of_lt lt0)
        have hD : s.heap.objs.size ∉ [(s.heap.push (bareM w)).objs.size, l] := by
          rw [Heap.size_push]
          simp only [List.mem_cons, List.mem_singleton, List.not_mem_nil, or_false, not_or]
          exact ⟨Nat.ne_of_lt (Nat.lt_succ_self _), Nat.ne_of_gt lt0⟩
        refine setM_loop ((Walks.tuple cold3 _ l lt1 its).toS) s.heap.objs.size hD few xs (by have := PyProof.Rows.StrsAre.length txt; rw [Array.length_toList] at this; omega) (fun i v e => strsAtM txt i v (by rw [Array.getElem?_toList]; exact e)) ?_ ⟨⟨_, Heap.get?_push_size _ rfl, rfl, rfl⟩, tl1.push _⟩ (setM_new (Heap.get?_push_of_some _ z0))
        intro s2 mv S2
        obtain ⟨h2, g2, d2, tk2, o2⟩ := s2
        obtain rfl : g2 = s.gens := mv.gens
        obtain rfl : d2 = s.drawn := mv.drawn
        obtain rfl : o2 = s.os := mv.os
        show wpAny _ _ _ _ _ _
        refine wpAny_pure ?_
        show wpAny _ _ (ret Value.none) _ _ _
        refine wpAny_pure ⟨rfl, h2, tk2, rfl, S2, fun b o e => ?_⟩
        have lb : b < s.heap.objs.size := Heap.lt_size e
        have nb : b ≠ (s.heap.push (bareM w)).objs.size := by
          rw [Heap.size_push]
          exact Nat.ne_of_lt (Nat.lt_succ_of_lt lb)
        exact mv.heap b o (by simp only [List.mem_cons, List.mem_singleton, List.not_mem_nil, or_false, not_or]; exact ⟨Nat.ne_of_lt lb, nb⟩) (Heap.get?_push_of_some _ (Heap.get?_push_of_some _ e))
      · cases r2 with
        | error e => exact hr2
        | ok fl2 =>
          cases fl2 with
          | ret r =>
            obtain ⟨rfl, h2, tk, rfl, S2, k2⟩ := hr2
            repeat (any_goals (first | assumption | wp_step))
            exact fin _ _ S2 k2
          | _ => exact hr2.elim
    | _ => exact hr.elim
theorem strsOfM : ∀ vs : List Value, (∀ v ∈ vs, ∃ x tk, v = .str x tk) → ∃ xs : List Str, StrsAre vs xs
  | [], _ => ⟨[], .nil⟩
  | v :: vs, h => by
    obtain ⟨x, tk, rfl⟩ := h v List.mem_cons_self
    obtain ⟨xs, hx⟩ := strsOfM vs fun u hu => h u (List.mem_cons_of_mem _ hu)
    exact ⟨x :: xs, .cons x tk hx⟩
theorem strs_mem {x : Str} : ∀ {vs : List Value} {xs : List Str}, StrsAre vs xs → (x ∈ xs ↔ ∃ t, Value.str x t ∈ vs) := by
  intro vs xs h
  induction h with
  | nil => simp
  | cons y tk h ih =>
    rw [List.mem_cons, ih]
    constructor
    · rintro (rfl | ⟨t, ht⟩)
      · exact ⟨tk, List.mem_cons_self⟩
      · exact ⟨t, List.mem_cons_of_mem _ ht⟩
    · rintro ⟨t, ht⟩
      rcases List.mem_cons.mp ht with z | z
      · cases z
        exact .inl rfl
      · exact .inr ⟨t, z⟩
theorem strs_nodup : ∀ {vs : List Value} {xs : List Str}, StrsAre vs xs → vs.Pairwise (fun e f => ∀ x t u, e = Value.str x t → f = .str x u → False) → xs.Nodup := by
  intro vs xs h
  induction h with
  | nil => exact fun _ => List.nodup_nil
  | cons y tk h ih =>
    intro p
    obtain ⟨p1, p2⟩ := List.pairwise_cons.mp p
    refine List.nodup_cons.mpr ⟨fun z => ?_, ih p2⟩
    obtain ⟨t, ht⟩ := (strs_mem h).mp z
    exact p1 _ ht y tk t rfl rfl
theorem sorted_setM {Q : Value → Shared → Prop} (S : SetM P w s.heap a m) (cold : A.handled = none) (few : m.length < 64)
    (fin : ∀ (s2 : Shared) (p : Addr) (out : Array Value) (c : Nat) (ys : List Str), (∀ b o, s.heap.get? b = some o → s2.heap.get? b = some o) → s2.gens = s.gens → s2.os = s.os → s.heap.objs.size ≤ p → s2.heap.get? p = some (seqObj "list" out c) → StrsAre out.toList ys → sortedS ys = true → ys.Nodup → (∀ x, x ∈ ys ↔ x ∈ m) → Q (.ref p) s2) :
    wpAny (model P w) A (call (.builtin "sorted") [.ref a]) Q E s := by
  obtain ⟨ob, es, ep, tb, z0, zx, zd, el, me, bo, fi, ri, le⟩ := S
  refine Calls.call_function_entry kind_sorted plain_sorted entry_sorted (args_sorted1 _) ?_
  unfold Builtin.«sorted»
  refine wpAny_bind (m := checkCount "sorted" 1 1 _) (wpAny_pure ?_)
  refine wpAny_bind (collect_set (A := A.in1) cold ⟨ob, z0, zx.1, zd⟩ fi bo ri le fun s1 vs k1 hz g1 o1 pm => ?_)
  have vl : vs.length ≤ m.length := by rw [pm.length_eq, List.length_map]; exact me.2.2
  obtain ⟨xs, hS⟩ := strsOfM vs fun v hv => by
    obtain ⟨e, he, rfl⟩ := List.mem_map.mp (pm.mem_iff.mp hv)
    obtain ⟨⟨k, hk, _⟩, _⟩ := el e he
    obtain ⟨tk, z⟩ := Value.isStrOf_shape hk
    exact ⟨k, tk, z⟩
  have memX : ∀ x, x ∈ xs ↔ x ∈ m := fun x => by
    rw [me.1 x, strs_mem hS]
    constructor
    · rintro ⟨t, ht⟩
      obtain ⟨e, he, ee⟩ := List.mem_map.mp (pm.mem_iff.mp ht)
      exact ⟨e, he, t, ee⟩
    · rintro ⟨e, he, t, ee⟩
      exact ⟨t, pm.mem_iff.mpr (List.mem_map.mpr ⟨e, he, ee⟩)⟩
  have ndX : xs.Nodup := strs_nodup hS ((pm.pairwise_iff fun {a b} hab x t u e1 e2 => hab x u t e2 e1).mpr (List.pairwise_map.mpr me.2.1))
  refine wpAny_bind (wpAny_newList ?_ (by rw [sizeLine_eq]; omega))
  have hoL : (s1.heap.push (seqObj "list" vs.toArray 0)).get? s1.heap.objs.size = some (seqObj "list" vs.toArray 0) := Heap.get?_push_size _ rfl
  refine wpAny_bind (wpAny_holding (wpAny_call_entry slot_list_sort ⟨_, hoL, rfl⟩ entry_list_sort (list_sort_treeK strKind_oneLt hoL hS.keysOf (fun v₁ v₂ rest e => keyKind_strs (by rw [← e]; exact hS)) (by omega) fun st' hp hs => ⟨_, rfl, ?_⟩) (args_list_sort _)))
  obtain ⟨ys, e1, e2, e3⟩ := sorted_out_str hS hp hs
  obtain ⟨c, hc⟩ := sortedHeap_at (out := (arrOf st').map (·.2)) hoL
  have hxl := PyProof.Rows.StrsAre.length hS
  refine wpAny_pure ⟨_, rfl, fin _ s1.heap.objs.size _ c ys (fun b o hb => ?_) g1 o1 hz hc e1 e3 (e2.nodup_iff.mpr ndX) (fun x => e2.mem_iff.trans (memX x))⟩
  have y := k1 b o hb
  have hlt := Heap.lt_size y
  show (sortedHeap (s1.heap.push (seqObj "list" vs.toArray 0)) s1.heap.objs.size vs _).get? b = some o
  rw [sortedHeap_old (Nat.ne_of_lt hlt) (by rw [size_push']; exact Nat.lt_succ_of_lt hlt)]
  exact Heap.get?_push_of_some _ y
end
theorem sub_len {α : Type} [DecidableEq α] : ∀ {ys zs : List α}, ys.Nodup → (∀ x ∈ ys, x ∈ zs) → ys.length ≤ zs.length
  | [], _, _, _ => Nat.zero_le _
  | y :: ys, zs, nd, h => by
    have nd := List.nodup_cons.mp nd
    have hy := h y List.mem_cons_self
    have := sub_len (zs := zs.erase y) nd.2 fun x hx => (List.mem_erase_of_ne fun (e : x = y) => nd.1 (by rw [← e]; exact hx)).mpr (h x (List.mem_cons_of_mem _ hx))
    rw [List.length_erase_of_mem hy] at this
    have hp : 0 < zs.length := List.length_pos_of_mem hy
    rw [List.length_cons]
    omega
/-- the set's place in H -/
def SetMO (P : Program) (w : World) (a : Addr) (m : List Str) : HO := .ext fun h => SetM P w h a m
theorem setMO_ok {P : Program} {w : World} {H : Hp} {h : Heap} {a : Addr} {m : List Str} (S : SetM P w h a m) : ObjOk P w H h a (SetMO P w a m) := by
  have ⟨ob, _, _, _, z, _⟩ := S
  exact ⟨S, ⟨ob, z⟩, fun h1 h2 p k => SetM.up p k⟩
def rSetM (K : PySem.W.Frag) (P : Program) (w : World) : List V → Hp → VK → Prop := fun vs H Q => ∃ (l : Addr) (xs : List Str), vs = [.ref l] ∧ SqT K H l (xs.map V.str) ∧ xs.length < 64 ∧ ∀ a, H a = none → Q (.ref a) (upd H a (SetMO P w a xs))
theorem cr_setM {X : Cx} (hc : X.calm = true) : CallR X (.type "set") (rSetM X.K X.prog X.w) := by
  intro pins s σ H vs us Q I r h
  obtain ⟨l, xs, rfl, ht, few, q⟩ := h
  rw [Vals.ref1 r]
  obtain ⟨its, rv, tl, hz⟩ := I.tuple ht
  have ln := rv.length
  rw [List.length_map] at ln
  have hn : H s.heap.objs.size = none := I.hok.fresh (Nat.le_refl _)
  refine set_tupM (P := X.prog) (w := X.w) (I.ok.hd hc) tl rv.strs (by rw [List.size_toArray, ← ln]; show _ < 4096; omega) fun h2 tk S k => ?_
  exact ⟨.ref s.heap.objs.size, _, I.laid (t' := tk) k (Nat.le_refl _) (setMO_ok S), rfl, q _ hn⟩
def rSortM (P : Program) (w : World) : List V → Hp → VK → Prop := fun vs H Q => ∃ (a : Addr) (m : List Str), vs = [.ref a] ∧ H a = some (SetMO P w a m) ∧ m.length < 64 ∧ ∀ (ys : List Str) (p : Addr), sortedS ys = true → ys.Nodup → (∀ x, x ∈ ys ↔ x ∈ m) → H p = none → Q (.ref p) (upd H p (.lst (ys.map V.str)))
theorem cr_sortM {X : Cx} (hc : X.calm = true) : CallR X (.builtin "sorted") (rSortM X.prog X.w) := by
  intro pins s σ H vs us Q I r h
  obtain ⟨a, m, rfl, ha, few, q⟩ := h
  have S : SetM X.prog X.w s.heap a m := (I.hok a _ ha).1
  rw [Vals.ref1 r]
  refine sorted_setM S (I.ok.hd hc) few fun s2 p out c ys k g o hp hg e1 e2 e3 e4 => ?_
  have hn : H p = none := I.hok.fresh hp
  have len : (ys.map V.str).length ≤ sizeLine := by
    rw [List.length_map, sizeLine_eq]
    have := sub_len (zs := m) e3 fun x hx => (e4 x).mp hx
    omega
  have J : Inv X pins σ (upd H p (.lst (ys.map V.str))) { s with heap := s2.heap, gens := s2.gens, drawn := s2.drawn, toks := s2.toks } :=
    I.call (ch := []) (Un.laid k hp hn) (I.hok.laid k hp ⟨len, out.toList, c, vals_of_strs e1, hg⟩) (by rw [g]; exact I.bare) (fun _ z => nomatch z)
  have e : s2 = { s with heap := s2.heap, gens := s2.gens, drawn := s2.drawn, toks := s2.toks } := by
    cases s2
    cases s
    cases o
    rfl
  rw [e]
  exact ⟨.ref p, _, J, rfl, q ys p e2 e3 e4 hn⟩
end Ka
/-! sorted(d.items()) of a dict with texts as keys and rows of texts as values. -/
namespace Ka
open PySem PySem.Spec PyProof.Rows L2 PySem.W PySem.SeqAt
abbrev IE := Str × Addr
def itKV (es : List IE) : List (L2.Key × V) := es.map fun e => (Sum.inr e.1, V.ref e.2)
section
variable {X : Cx}
def rItemsK : V → List V → Hp → VK → Prop := fun x xs H Q => ∃ (a : Addr) (kvs : List (L2.Key × V)), x = .ref a ∧ xs = [] ∧ H a = some (.dK kvs) ∧ ∀ p, H p = none → Q (.ref p) (upd H p (L2.DX.itemsO p a))
theorem mt_itemsK : MtR X "dict.items" rItemsK := by
  intro pins s σ H x xs v us Q I rx rxs h
  obtain ⟨a, kvs, rfl, rfl, ha, q⟩ := h
  cases rx
  cases rxs
  obtain ⟨z, hs0, vs, kv, hdo⟩ := I.hok a _ ha
  refine call_meetsIn PySem.F.slot_dict_items hdo.typeIs PySem.F.entry_dict_items (PySem.F.args_dict_items_1 _) (meets_dict_items (mixKind X.prog X.w) a hs0) ⟨⟨vs, hdo⟩, ?_⟩
  have hf : H s.heap.objs.size = none := I.hok.fresh (Nat.le_refl _)
  exact ⟨.ref s.heap.objs.size, upd H s.heap.objs.size (L2.DX.itemsO s.heap.objs.size a), I.laid (t' := s.toks) (fun b u e => Heap.get?_push_of_some _ e) (Nat.le_refl _) (L2.DX.itemsO_ok (Heap.get?_push_size _ rfl)), rfl, q _ hf⟩
end
theorem alike_strsI : ∀ xs ys : List Str, alikeAll (xs.map PyData.str) (ys.map PyData.str) = true
  | [], _ => by simp [alikeAll]
  | _ :: _, [] => by simp [alikeAll]
  | x :: xs, y :: ys => by
    show alikeAll (.str x :: xs.map .str) (.str y :: ys.map .str) = true
    rw [alikeAll, alike_strsI xs ys]
    simp [alike]
theorem depth_strsI : ∀ xs : List Str, PyData.depthAll (xs.map PyData.str) = 0
  | [] => by simp [PyData.depthAll]
  | x :: xs => by
    show PyData.depthAll (.str x :: xs.map .str) = 0
    rw [PyData.depthAll, depth_strsI xs]
    simp [PyData.depth]
theorem reads_strsI {h : Heap} : ∀ {k : List Str} {us : List Value}, Vals (k.map V.str) us → ReadsAll h us (k.map PyData.str) []
  | [], _, r => by
    cases r
    exact .nil
  | x :: k, _, r => by
    rw [List.map_cons] at r
    cases r with
    | cons a b =>
      obtain ⟨t, rfl⟩ := a
      exact .cons (as := []) (bs := []) (.str x t) (reads_strsI b)
/-- a pair at its place -/
abbrev IP := Addr × IE
def itD (M : IE → List Str) (z : IP) : PyData := .tuple [.str z.2.1, .tuple ((M z.2).map PyData.str)]
def leKI (a b : Str) : Bool := !ltCps b.cps.toList a.cps.toList
theorem leKI_iff {a b : Str} : leKI a b = true ↔ a.cps.toList ≤ b.cps.toList := by
  unfold leKI
  rw [ltCps_eq, Bool.not_eq_true', decide_eq_false_iff_not]
  exact Iff.rfl
theorem leKI_sorted (l : List Str) : sortedS (l.mergeSort leKI) = true := by
  refine sortedS_of_pairwise _ ((List.pairwise_mergeSort (fun a b c h1 h2 => ?_) (fun a b => ?_) l).imp fun {a b} h => ?_)
  · rw [leKI_iff] at h1 h2 ⊢
    exact List.le_trans h1 h2
  · rw [Bool.or_eq_true, leKI_iff, leKI_iff]
    exact List.le_total _ _
  · have h : (!ltCps b.cps.toList a.cps.toList) = true := h
    simpa using h
theorem itD_le {M : IE → List Str} {zs : List IP} (nd : (zs.map (·.2.1)).Nodup) : ∀ a ∈ zs, ∀ b ∈ zs, dataLe false (itD M) a b = leKI a.2.1 b.2.1 := by
  intro a ha b hb
  show (!dataLt (itD M b) (itD M a)) = _
  by_cases e : a = b
  · subst e
    have e1 : dataLt (itD M a) (itD M a) = false := lex_irrefl _
    rw [e1]
    symm
    exact leKI_iff.mpr (List.le_refl _)
  · have ne : ¬ b.2.1 = a.2.1 := fun z => e (by
      obtain ⟨i, hi⟩ := List.getElem?_of_mem ha
      obtain ⟨j, hj⟩ := List.getElem?_of_mem hb
      have e1 : (zs.map (·.2.1))[i]? = some a.2.1 := by rw [List.getElem?_map, hi]; rfl
      have e2 : (zs.map (·.2.1))[j]? = some a.2.1 := by rw [List.getElem?_map, hj, ← z]; rfl
      have := (List.getElem?_inj (List.getElem?_eq_some_iff.mp e1).1 nd).mp (e1.trans e2.symm)
      subst this
      exact Option.some.inj (hi.symm.trans hj))
    have e1 : dataLt (itD M b) (itD M a) = ltCps b.2.1.cps.toList a.2.1.cps.toList := by
      unfold itD
      rw [dataLt_pair (by simp [alike]) (by simp [alike, alike_strsI]), dataLt_str, ltCps_eq]
      have : ¬ PyData.eqv (.str b.2.1) (.str a.2.1) = true := by
        simp only [PyData.eqv, beq_iff_eq]
        exact ne
      rw [if_neg this]
    rw [e1]
    rfl
theorem ip_each : ∀ {zs : List IP}, EachIs (fun v (b : IP) => v = Value.ref b.1) (zs.map fun z => Value.ref z.1) zs
  | [] => .nil
  | z :: zs => .cons rfl ip_each
theorem ip_vals {zs : List IP} {us : List Value} (e : EachIs (fun v (b : IP) => v = Value.ref b.1) us zs) : Vals (zs.map fun r => V.ref r.1) us := by
  induction e with
  | nil => exact .nil
  | cons h t ih =>
    subst h
    exact .cons rfl ih
def rSortItK : List V → Hp → VK → Prop := fun vs H Q => ∃ (p a : Addr) (es : List IE) (M : IE → List Str), vs = [.ref p] ∧ H p = some (L2.DX.itemsO p a) ∧ H a = some (.dK (itKV es)) ∧ (es.map (·.1)).Nodup ∧ (∀ e ∈ es, H e.2 = some (.tup ((M e).map V.str))) ∧
  ∀ (H' : Hp) (l : Addr) (ps : List IP), (∀ b o, H b = some o → H' b = some o) → H l = none → (ps.map (·.2)).Perm es → sortedS (ps.map (·.2.1)) = true → H' l = some (.lst (ps.map fun z => V.ref z.1)) → (∀ z ∈ ps, H' z.1 = some (.tup [.str z.2.1, .ref z.2.2])) → Q (.ref l) H'
theorem cr_sortItK {X : Cx} (hc : X.calm = true) (hu : X.A.units + 64 < cLine) : CallR X (.builtin "sorted") rSortItK := by
  intro pins s σ H vs us Q I r h
  obtain ⟨p, a, es, M, rfl, hp, ha, nd, hM, q⟩ := h
  obtain rfl := Vals.ref1 r
  have view : s.heap.IsItemsView p a := (show ObjOk X.prog X.w H s.heap p (L2.DX.itemsO p a) from I.hok p _ hp).1
  obtain ⟨hz, hs0, kvs, kv, hdo⟩ := I.hok a _ ha
  obtain ⟨ep, hat⟩ := hdo.dictAt
  have lk : (itKV es).length = kvs.length := Paired.length kv
  have le : (itKV es).length = es.length := List.length_map _
  refine Calls.call_function_entry PyProof.Rows.kind_sorted PyProof.Rows.plain_sorted PyProof.Rows.entry_sorted (PyProof.Rows.args_sorted1 _) ?_
  unfold Builtin.«sorted»
  refine wpAny_bind (m := checkCount "sorted" 1 1 _) (wpAny_pure ?_)
  refine wpAny_bind (kdx_collect (A := X.A.in1) (I.ok.hd hc) view hat (by omega) fun h' tk as hk hl hG => ?_)
  have las : as.length = es.length := by omega
  have nda : as.Nodup := List.Pairwise.imp (fun {a b} (h : a < b) => Nat.ne_of_lt h) hG.rise
  have I1 : Inv X pins σ H { s with heap := h', toks := tk } := I.kept (t' := tk) hk
  obtain ⟨H2, I2, g, qt⟩ := L2.DX.takeT (P := fun b vs => ∀ e, (b, e) ∈ as.zip es → vs = [.str e.1, .ref e.2]) I as _ I1 nda fun b hb => by
    obtain ⟨j, hj⟩ := List.mem_iff_getElem?.mp hb
    obtain ⟨key, k, x, f1, f2, f3⟩ := hG.pairs j b hj
    have hjl := (List.getElem?_eq_some_iff.mp hj).1
    have hes : es[j]? = some (es[j]'(by omega)) := List.getElem?_eq_getElem (by omega)
    generalize es[j]'(by omega) = e at hes
    have hit : (itKV es)[j]? = some (Sum.inr e.1, V.ref e.2) := by
      unfold itKV
      rw [List.getElem?_map, hes]
      rfl
    obtain ⟨qv, g1, g2, g3⟩ := LiI.paired_get kv hit
    rw [f1] at g1
    cases g1
    refine ⟨Nat.le_of_lt (hG.above b hb), I.hok.fresh (Nat.le_of_lt (hG.above b hb)), [.str e.1, .ref e.2], fun e2 h2 => ?_, fun H3 => ⟨(by show 2 ≤ sizeLine; decide), [key, x], .cons ?_ (.cons g3 .nil), ⟨_, f3, rfl, _, rfl⟩⟩⟩
    · obtain ⟨i, hi⟩ := List.getElem?_of_mem h2
      rw [List.getElem?_zip_eq_some] at hi
      have := (List.getElem?_inj hjl nda).mp (hj.trans hi.1.symm)
      subst this
      have := Option.some.inj (hes.symm.trans hi.2)
      rw [this]
    · have g2 : (Sum.inr e.1 : L2.Key) = k := g2
      have rk : RelV (kV (Sum.inr e.1 : L2.Key)) key := by
        rw [g2]
        exact relV_key (show keyIs k key = true from f2)
      exact rk
  have tups : ∀ z ∈ as.zip es, H2 z.1 = some (.tup [.str z.2.1, .ref z.2.2]) := fun z hz => by
    obtain ⟨vs, h1, h2⟩ := qt z.1 (List.of_mem_zip hz).1
    rw [h2, h1 z.2 hz]
  have zas : (as.zip es).map (fun z => Value.ref z.1) = as.map Value.ref := by
    have : (as.zip es).map (·.1) = as := List.map_fst_zip (by omega)
    conv => rhs; rw [← this]
    rw [List.map_map]
    rfl
  have zes : (as.zip es).map (·.2) = es := List.map_snd_zip (by omega)
  have znd : ((as.zip es).map (·.2.1)).Nodup := by
    have : (as.zip es).map (·.2.1) = es.map (·.1) := by
      conv => rhs; rw [← zes]
      rw [List.map_map]
      rfl
    rw [this]
    exact nd
  have hMz : ∀ z ∈ as.zip es, H2 z.2.2 = some (.tup ((M z.2).map V.str)) := fun z hz => g _ _ (hM z.2 (List.of_mem_zip hz).2)
  have zlen : (as.zip es).length ≤ sizeLine := by
    rw [List.length_zip]
    omega
  generalize as.zip es = zs at tups zas zes znd hMz zlen
  rw [← zas]
  refine wpAny_bind (wpAny_newList ?_ (by rw [List.length_map]; exact zlen))
  have hoL : (h'.push (seqObj "list" (zs.map fun z => Value.ref z.1).toArray 0)).get? h'.objs.size = some (seqObj "list" (zs.map fun z => Value.ref z.1).toArray 0) := Heap.get?_push_size _ rfl
  refine wpAny_bind (wpAny_holding ?_)
  show wpAny (model X.prog X.w) X.A.in1 (call (.builtin "list.sort") [.ref h'.objs.size]) _ _ { s with heap := h'.push (seqObj "list" (zs.map fun z => Value.ref z.1).toArray 0), toks := tk }
  have er : EachIs (fun v (b : IP) => ∃ as, Reads (h'.push (seqObj "list" (zs.map fun z => Value.ref z.1).toArray 0)) v (itD M b) as ∧ h'.objs.size ∉ as) (zs.map fun z => Value.ref z.1) zs := (each_mem ip_each).mono fun v b ⟨ev, hm⟩ => by
    subst ev
    obtain ⟨its, rv, ht, _⟩ := I2.tuple (.inl (.inl (tups b hm)))
    obtain ⟨o2, ho2, hc2, n2, hd2⟩ := ht
    obtain ⟨its3, rv3, ht3, _⟩ := I2.tuple (.inl (.inl (hMz b hm)))
    obtain ⟨o3, ho3, hc3, n3, hd3⟩ := ht3
    cases rv with
    | cons r1 r2 =>
      cases r2 with
      | cons r3 r4 =>
        cases r4
        obtain ⟨t, rfl⟩ := r1
        cases r3
        refine ⟨[], Reads.tuple (Heap.get?_push_of_some _ ho2) hc2 hd2 (.cons (as := []) (bs := []) (.str _ t) (.cons (as := []) (bs := []) (Reads.tuple (Heap.get?_push_of_some _ ho3) hc3 hd3 (reads_strsI rv3)) .nil)), fun hmm => by cases hmm⟩
  refine list_sort_data (s := { s with heap := h'.push (seqObj "list" (zs.map fun z => Value.ref z.1).toArray 0), toks := tk }) (enc := itD M) hoL ip_each er (AllAlike.of fun b b' => ?_) (Sortable.tuples fun b => ⟨_, _, rfl⟩) zlen (fun r _ => ?_) fun out ho2 eo => ?_
  · unfold itD
    simp [alike, alikeAll, alike_strsI]
  · have hdep : (itD M r).depth ≤ 3 := by
      unfold itD
      simp [PyData.depth, PyData.depthAll, depth_strsI]
    show X.A.units + 1 + 1 + (itD M r).depth < cLine
    omega
  · obtain ⟨e', he'⟩ := PyProof.Rows.sortedHeap_at (vs := zs.map fun z => Value.ref z.1) (out := out.toArray) hoL
    have hle2 : ((zs.mergeSort (dataLe false (itD M))).map fun r => V.ref r.1).length ≤ sizeLine := by
      rw [List.length_map, List.length_mergeSort]
      exact zlen
    have up : ∀ b o, h'.get? b = some o → (sortedHeap (h'.push (seqObj "list" (zs.map fun z => Value.ref z.1).toArray 0)) h'.objs.size (zs.map fun z => Value.ref z.1) out.toArray).get? b = some o := fun b u e => by
      have hb : b < h'.objs.size := Heap.lt_size e
      rw [PyProof.Rows.sortedHeap_old (Nat.ne_of_lt hb) (by rw [size_push']; exact Nat.lt_succ_of_lt hb)]
      exact Heap.get?_push_of_some _ e
    have lf : H2 h'.objs.size = none := I2.hok.fresh (Nat.le_refl _)
    have lf0 : H h'.objs.size = none := I1.hok.fresh (Nat.le_refl _)
    have kS : (zs.mergeSort (dataLe false (itD M))).map (fun z : IP => z.2.1) = (zs.map fun z : IP => z.2.1).mergeSort leKI := sort_maps (fun z : IP => z.2.1) (itD_le znd)
    have pm := List.mergeSort_perm zs (dataLe false (itD M))
    refine wpAny_pure ⟨_, rfl, .ref h'.objs.size, _, I2.laid (t' := tk) (o := .lst ((zs.mergeSort (dataLe false (itD M))).map fun r => V.ref r.1)) up (Nat.le_refl _) ⟨hle2, out, e', ip_vals eo, he'⟩, rfl, q _ _ (zs.mergeSort (dataLe false (itD M))) (fun b o e => ?_) lf0 ?_ ?_ upd_same (fun z hz => ?_)⟩
    · have e := g _ _ e
      rw [upd_ne (ne_of_none e lf)]
      exact e
    · have := pm.map (fun z : IP => z.2)
      rw [zes] at this
      exact this
    · rw [kS]
      exact leKI_sorted _
    · have e := tups z (pm.mem_iff.mp hz)
      rw [upd_ne (ne_of_none e lf)]
      exact e
end Ka
/-! set(l) of a list of texts; list(d.values()). -/
namespace Ka
open PySem PySem.Spec PyProof.Rows L2
section
variable {P : Program} {w : World} {A : Around} {E : Value → Shared → Prop} {s : Shared} {a : Addr} {m : List Str}
set_option maxHeartbeats 6400000 in
theorem set_lisM {l : Addr} {its : Array Value} {xs : List Str} {Q : Value → Shared → Prop} (cold : A.handled = none) (tl : s.heap.IsList l its) (txt : StrsAre its.toList xs) (few : its.size + 1 < scanBound)
    (fin : ∀ (h2 : Heap) (tk : Nat), SetM P w h2 s.heap.objs.size xs → (∀ b o, s.heap.get? b = some o → h2.get? b = some o) → Q (.ref s.heap.objs.size) { s with heap := h2, toks := tk }) :
    wpAny (model P w) A (call (.type "set") [.ref l]) Q E s := by
  obtain ⟨c, rest, hmro⟩ := F.called_set.mro
  have hmade := F.called_set.made
  have hsub := F.called_set.sub
  refine wpAny_call (codeAny_of_tree ?_)
  show wpAny _ _ (callAny (.type "set") _) _ _ _
  refine wpAny_pure ⟨Code.quiet_builtin _ (by decide +kernel), codeAny_builtin F.entry_type_call ?_⟩
  rw [Around.under_plain (weight_type_call_type "set" [.ref l] []) rfl]
  have h1 := F.called_set.notType
  have h2 := F.called_set.canCreate
  have hct := F.typeCall_set_1 (.ref l)
  repeat (any_goals (first | assumption | wp_step))
  refine codeAny_mono (code_set_led1 (.ref l) (E := E) (Q₁ := fun ob s1 => ob = .ref s.heap.objs.size ∧ s1 = { s with heap := s.heap.push (bareM w) }) ⟨rfl, rfl⟩) fun r s1 hr => ?_
  cases r with
  | error e => exact hr
  | ok fl =>
    cases fl with
    | ret ob =>
      obtain ⟨rfl, rfl⟩ := hr
      have z0 : (s.heap.push (bareM w)).get? s.heap.objs.size = some (bareM w) := Heap.get?_push_size _ rfl
      have hT : Shared.TypeIs { s with heap := s.heap.push (bareM w) } (.ref s.heap.objs.size) "set" := ⟨_, z0, rfl⟩
      have hli := F.called_set.init.lookup
      have hbi := F.called_set.init.bind (.ref s.heap.objs.size)
      repeat (any_goals (first | assumption | wp_step))
      refine codeAny_mono (codeAny_call_builtin (R := wants (fun r s2 => r = .none ∧ ∃ h2 tk, s2 = { s with heap := h2, toks := tk } ∧ SetM P w h2 s.heap.objs.size xs ∧ ∀ b o, s.heap.get? b = some o → h2.get? b = some o) E) F.called_set.init.plain F.entry_set_init (check_set_init_1 hT ?_)) fun r2 s2 hr2 => ?_
      · obtain ⟨⟨cls, dict, data, slots⟩, gl, cl, nl, dl⟩ := tl
        simp only at cl dl
        subst cl dl
        have gl1 : (s.heap.push (bareM w)).get? l = some { cls := .type "list", dict := dict, data := .seq its nl, slots := slots } := Heap.get?_push_of_some _ gl
        have hsls := F.sub_list_set
        have hslf := F.sub_list_frozenset
        have hne : (Value.type "list" == Value.type "dict") = false := by decide
        have tl1 : (s.heap.push (bareM w)).IsList l its := ⟨_, gl1, rfl, nl, rfl⟩
        unfold Builtin.«set.__init__» noKeywords Builtin.Frozenset.updateFrom
        generalize walkP : pyIter = Pit
        wp_walk
        subst walkP
        refine wpAny_pyIter_list tl1 ?_
        refine wpAny_bind (wpAny_runValue ?_)
        have lt0 : l < s.heap.objs.size := Heap.lt_size gl
        have cold3 : A.in1.in1.in1.handled = none := by simp [cold]
        have lt1 : l ≠ (s.heap.push (bareM w)).objs.size := by
          rw [Heap.size_push]
          exact Nat.ne_of_lt (Nat.lt_succ_of_lt lt0)
        have hD : s.heap.objs.size ∉ [(s.heap.push (bareM w)).objs.size, l] := by
          rw [Heap.size_push]
          simp only [List.mem_cons, List.mem_singleton, List.not_mem_nil, or_false, not_or]
          exact ⟨Nat.ne_of_lt (Nat.lt_succ_self _), Nat.ne_of_gt lt0⟩
        refine setM_loop ((Walks.list cold3 _ l lt1 its).toS) s.heap.objs.size hD few xs (by have := PyProof.Rows.StrsAre.length txt; rw [Array.length_toList] at this; omega) (fun i v e => strsAtM txt i v (by rw [Array.getElem?_toList]; exact e)) ?_ ⟨⟨_, Heap.get?_push_size _ rfl, rfl, rfl⟩, tl1.push _⟩ (setM_new (Heap.get?_push_of_some _ z0))
        intro s2 mv S2
        obtain ⟨h2, g2, d2, tk2, o2⟩ := s2
        obtain rfl : g2 = s.gens := mv.gens
        obtain rfl : d2 = s.drawn := mv.drawn
        obtain rfl : o2 = s.os := mv.os
        show wpAny _ _ _ _ _ _
        refine wpAny_pure ?_
        show wpAny _ _ (ret Value.none) _ _ _
        refine wpAny_pure ⟨rfl, h2, tk2, rfl, S2, fun b o e => ?_⟩
        have lb : b < s.heap.objs.size := Heap.lt_size e
        have nb : b ≠ (s.heap.push (bareM w)).objs.size := by
          rw [Heap.size_push]
          exact Nat.ne_of_lt (Nat.lt_succ_of_lt lb)
        exact mv.heap b o (by simp only [List.mem_cons, List.mem_singleton, List.not_mem_nil, or_false, not_or]; exact ⟨Nat.ne_of_lt lb, nb⟩) (Heap.get?_push_of_some _ (Heap.get?_push_of_some _ e))
      · cases r2 with
        | error e => exact hr2
        | ok fl2 =>
          cases fl2 with
          | ret r =>
            obtain ⟨rfl, h2, tk, rfl, S2, k2⟩ := hr2
            repeat (any_goals (first | assumption | wp_step))
            exact fin _ _ S2 k2
          | _ => exact hr2.elim
    | _ => exact hr.elim
end
def rSetL (K : PySem.W.Frag) (P : Program) (w : World) : List V → Hp → VK → Prop := fun vs H Q => ∃ (l : Addr) (xs : List Str), vs = [.ref l] ∧ SqL K H l (xs.map V.str) ∧ xs.length < 64 ∧ ∀ a, H a = none → Q (.ref a) (upd H a (SetMO P w a xs))
theorem cr_setL {X : Cx} (hc : X.calm = true) : CallR X (.type "set") (rSetL X.K X.prog X.w) := by
  intro pins s σ H vs us Q I r h
  obtain ⟨l, xs, rfl, ht, few, q⟩ := h
  rw [Vals.ref1 r]
  obtain ⟨its, rv, tl, hz⟩ := I.list ht
  have ln := rv.length
  rw [List.length_map] at ln
  have hn : H s.heap.objs.size = none := I.hok.fresh (Nat.le_refl _)
  refine set_lisM (P := X.prog) (w := X.w) (its := its.toArray) (I.ok.hd hc) tl.isList (by simpa using rv.strs) (by rw [List.size_toArray, ← ln]; show _ < 4096; omega) fun h2 tk S k => ?_
  exact ⟨.ref s.heap.objs.size, _, I.laid (t' := tk) k (Nat.le_refl _) (setMO_ok S), rfl, q _ hn⟩
/-! ### list(d.values()) -/
def valsO (p d : Addr) : HO := .ext fun h => h.IsValuesView p d
theorem valsO_ok {P : Program} {w : World} {H : Hp} {h : Heap} {p d : Addr} (e : h.get? p = some { cls := .type "dict_values", data := .fields #[.ref d] }) : ObjOk P w H h p (valsO p d) :=
  ⟨⟨_, e, rfl, rfl⟩, ⟨_, e⟩, fun h1 h2 x k => let ⟨o, ho, r⟩ := x; ⟨o, k o ho, r⟩⟩
section
variable {X : Cx}
def rValsK : V → List V → Hp → VK → Prop := fun x xs H Q => ∃ (a : Addr) (kvs : List (L2.Key × V)), x = .ref a ∧ xs = [] ∧ H a = some (.dK kvs) ∧ ∀ p, H p = none → Q (.ref p) (upd H p (valsO p a))
theorem mt_valuesK : MtR X "dict.values" rValsK := by
  intro pins s σ H x xs v us Q I rx rxs h
  obtain ⟨a, kvs, rfl, rfl, ha, q⟩ := h
  cases rx
  cases rxs
  obtain ⟨z, hs0, vs, kv, hdo⟩ := I.hok a _ ha
  refine call_meetsIn PySem.F.slot_dict_values hdo.typeIs PySem.F.entry_dict_values (PySem.F.args_dict_values_1 _) (meets_dict_values (mixKind X.prog X.w) a hs0) ⟨⟨vs, hdo⟩, ?_⟩
  have hf : H s.heap.objs.size = none := I.hok.fresh (Nat.le_refl _)
  exact ⟨.ref s.heap.objs.size, upd H s.heap.objs.size (valsO s.heap.objs.size a), I.laid (t' := s.toks) (fun b u e => Heap.get?_push_of_some _ e) (Nat.le_refl _) (valsO_ok (Heap.get?_push_size _ rfl)), rfl, q _ hf⟩
def rListV : List V → Hp → VK → Prop := fun xs H Q => ∃ (p a : Addr) (kvs : List (L2.Key × V)), xs = [.ref p] ∧ H p = some (valsO p a) ∧ H a = some (.dK kvs) ∧ ∀ q, H q = none → Q (.ref q) (upd H q (.lst (kvs.map (·.2))))
theorem call_list_vals (hc : X.calm = true) : CallR X (.type "list") rListV := by
  intro pins s σ H xs us Q I r h
  obtain ⟨p, a, kvs, rfl, hp, hk, q⟩ := h
  rw [Vals.ref1 r]
  have view : s.heap.IsValuesView p a := (show ObjOk X.prog X.w H s.heap p (valsO p a) from I.hok p _ hp).1
  obtain ⟨z, lo, vs, rk, hd⟩ := (show ObjOk X.prog X.w H s.heap a (.dK kvs) from I.hok a _ hk)
  obtain ⟨ep, hat⟩ := hd.dictAt
  have hl : kvs.length = vs.length := Paired.length rk
  refine PySem.W.kdl_call (PySem.W.kdl_values (knd := mixKind X.prog X.w) (kvs := vs) (ep := ep)) (I.ok.hd hc) ⟨view, hat⟩ (by rw [← hl]; exact z) fun h' tk acc' c' hkeep hS hacc => ?_
  refine ⟨.ref s.heap.objs.size, upd H s.heap.objs.size (.lst (kvs.map (·.2))), I.laid hkeep (Nat.le_refl _) (show ObjOk X.prog X.w _ _ _ (.lst (kvs.map (·.2))) from ⟨?_, acc'.toList, c', ?_, ?_⟩), rfl, q _ (I.hok.fresh (Nat.le_refl _))⟩
  · rw [List.length_map]; exact z
  · have el : acc'.toList.length = acc'.size := by simp
    refine vals_of_at (by rw [List.length_map, el, hacc.1, hl]) fun j x w h1 h2 => ?_
    obtain ⟨k, hky⟩ := hacc.2 j w (by rw [← Array.getElem?_toList]; exact h2)
    cases hkj : kvs[j]? with
    | none =>
      rw [List.getElem?_map, hkj] at h1
      cases h1
    | some kv =>
      rw [List.getElem?_map, hkj] at h1
      cases h1
      obtain ⟨y, g1, g2, g3⟩ := LiI.paired_get rk hkj
      rw [hky] at g1
      cases g1
      exact g3
  · rw [Array.toArray_toList]
    exact hS
end
end Ka
namespace Kb
open PySem PySem.Spec PyProof.Rows L2
/-! ### the law's own: parts -/
theorem deskOf_self : ∀ {ps : List DP}, (ps.map (·.2.1)).Nodup → ∀ {p : DP}, p ∈ ps → deskOf ps p.2.1 = some p.2.2
  | q :: ps, nd, p, h => by
    rw [List.map_cons] at nd
    obtain ⟨n1, n2⟩ := List.nodup_cons.mp nd
    unfold deskOf
    rcases List.mem_cons.mp h with e | h
    · rw [e, if_pos rfl]
    · rw [if_neg (fun z => n1 (by rw [z]; exact List.mem_map.mpr ⟨p, h, rfl⟩)), deskOf_self n2 h]
def onR (ps : List DP) (k : Str) (x : Str) : List Str := if deskOf ps x = some k then [x] else []
def viD (ps : List DP) (k : Str) (ds : List Str) : PyData := .list (ds.map fun x => .tuple [.str x, Ka.rowD (onR ps k x)])
theorem eqv_sh {d : PyData} (h : SeqAt.shaped d = true) : PyData.eqv d d = true := by
  unfold SeqAt.shaped at h
  rw [Bool.and_eq_true] at h
  exact SeqAt.eqv_refl d h.1
theorem vi_dp {K : PySem.W.Frag} {H : Hp} {ps : List DP} {k : Str} : ∀ {zs : List Ka.IP}, (∀ z ∈ zs, H z.1 = some (.tup [.str z.2.1, .ref z.2.2]) ∧ H z.2.2 = some (.tup ((onR ps k z.2.1).map V.str))) → DpAll K H (zs.map fun z => V.ref z.1) ((zs.map (·.2.1)).map fun x => .tuple [.str x, Ka.rowD (onR ps k x)])
  | [], _ => .nil
  | z :: zs, h => .cons (.tup (sqT_new (h z List.mem_cons_self).1) (.cons (.str _) (.cons (dpR (h z List.mem_cons_self).2) .nil))) (vi_dp fun y hy => h y (List.mem_cons_of_mem _ hy))
theorem vi_sh {ps : List DP} {k : Str} {ds : List Str} (h : ∀ d ∈ ds, isName d = true) : SeqAt.shaped (viD ps k ds) = true := by
  unfold viD
  refine shaped_of ?_ ?_
  · rw [PyData.canLay0]
    refine lay_all ds fun d hd => ?_
    have hl := layR (r := onR ps k d) fun z hz => by
      unfold onR at hz
      split at hz
      · rw [List.mem_singleton.mp hz]
        exact h d hd
      · cases hz
    rw [PyData.canLay0, PyData.canLayAll0, PyData.canLayAll0, PyData.canLayAll0, PyData.canLay0, name_ok (h d hd), hl]
    rfl
  · have := dep_le (f := fun d => PyData.tuple [.str d, Ka.rowD (onR ps k d)]) (n := 4) (fun d => by
      have := depR (onR ps k d)
      simp only [PyData.depth, PyData.depthAll]
      omega) ds
    simp only [PyData.depth]
    omega
theorem dp_rows {K : PySem.W.Frag} {H : Hp} {f : Str → List Str} : ∀ {L : List Addr} {ds : List Str}, L.length = ds.length → (∀ (i : Nat) (c : Addr) (k : Str), L[i]? = some c → ds[i]? = some k → H c = some (.tup ((f k).map V.str))) → DpAll K H (L.map V.ref) ((ds.map f).map Ka.rowD)
  | [], [], _, _ => .nil
  | [], _ :: _, h, _ => by cases h
  | _ :: _, [], h, _ => by cases h
  | c :: L, d :: ds, h, t => .cons (dpR (t 0 c d rfl rfl)) (dp_rows (by simpa using h) fun i c2 d2 h1 h2 => t (i + 1) c2 d2 (by simpa using h1) (by simpa using h2))
theorem at_filter {ps : List DP} (nd : (ps.map (·.2.1)).Nodup) (k : Str) : (ps.filter fun p => decide (p.2.2 = k)).map (·.2.1) = (ps.map (·.2.1)).filter fun x => decide (deskOf ps x = some k) := by
  rw [List.filter_map]
  congr 1
  refine List.filter_congr fun p hp => ?_
  show _ = decide (deskOf ps p.2.1 = some k)
  rw [deskOf_self nd hp]
  simp
section
variable {P : Program} {w : World} {K : PySem.W.Frag} {mg : Str → Option Value} {base : Heap}
def spLawParts (K : PySem.W.Frag) : Sp := fun vs H Q _ => ∃ (a d k r : Addr) (ps : List DP) (us ds : List Str), vs = [.ref a, .ref d, .ref k, .ref r] ∧ DealAt K H a ps ∧ DOk ps ∧ IsDesks ps ds ∧ (∀ z ∈ ds, isName z = true) ∧ sortedS (ps.map (·.2.1)) = true ∧ (∀ z ∈ ps.map (·.2.1), isName z = true) ∧ H d = some (.dK (byKV ps)) ∧ H k = some (.lst (ds.map V.str)) ∧ SqT K H r (us.map V.str) ∧ us.length ≤ 1000 ∧ (∀ z ∈ us, isName z = true) ∧ bad ps us = none ∧ ∀ H', Same H H' → Q (.bl true) H'
abbrev nLq : List Str := ["pairs", "deal", "desks", "row", "due", "desk", "view", "one", "deed"]
theorem scLq : FnScope nLq ["pairs", "deal", "desks", "row"] (defScope sLawParts) := ⟨rfl, rfl, rfl, by decide +kernel, rfl, by decide +kernel, by decide +kernel⟩
theorem ok_lawparts {f C fL fP fQ fV fD fO : Addr} {fd fdL fdP fdQ fdV fdD fdO : FuncData} (F : Fun K "_law_parts" "_law_parts" sLawParts f fd) (N : Nones mg)
    (G__law_part : FnOk P w K mg base CX0 1 fL fdL ["deal", "desk", "row"] (spLawPart K)) (C__law_part : CallC K mg "_law_part" ["deal", "desk", "row"] fL fdL)
    (G_part : FnOk P w K mg base (L2.CX P w) 4 fP fdP ["dealing", "desk", "row"] (spPart K C)) (C_part : CallC K mg "part" ["dealing", "desk", "row"] fP fdP)
    (G_parts : FnOk P w K mg base (L2.CX P w) 4 fQ fdQ ["dealing", "row"] (spParts K C)) (C_parts : CallC K mg "parts" ["dealing", "row"] fQ fdQ)
    (G_view_at : FnOk P w K mg base CX0 1 fV fdV ["dealing", "desk"] (spViewAt K)) (C_view_at : CallC K mg "view_at" ["dealing", "desk"] fV fdV) (kb_view_at : KBinds K fdV ["dealing", "desk"] ["desk", "dealing"] Ka.swG Ka.swG)
    (G_deeds_at : FnOk P w K mg base CX0 1 fD fdD ["dealing", "desk"] (spDeedsAt K)) (C_deeds_at : CallC K mg "deeds_at" ["dealing", "desk"] fD fdD)
    (G_desks_of : FnOk P w K mg base CX0 1 fO fdO ["dealing"] (spDesksOf K)) (C_desks_of : CallC K mg "desks_of" ["dealing"] fO fdO) : FnOk P w K mg base CX0 5 f fd ["pairs", "deal", "desks", "row"] (spLawParts K) := by
  refine F.ok scLq (fun vs H Q E h => ?_) (fun cdv A outer s H vs Q E hr h => ?_)
  · obtain ⟨a, d, k, r, ps, us, ds, rfl, _⟩ := h
    rfl
  · obtain ⟨a, d, k, r, ps, us, ds, rfl, hP, ok, isd, nds, so, nps, hD, hK, hR, hz, nus, hb, q⟩ := h
    have sz := ok.sz
    have dl := isd_len isd
    have lps : (ps.map (·.2.1)).length = ps.length := List.length_map _
    refine ⟨_, pss_cons (ps_set (i := 4) scLq.nd rfl (Or.inl rfl) (pe_callTy call_tuple_of (by rfl) N.tuple (by decide +kernel) (pa_cons (pe_lc (own := [("desk", 5)]) (g := gName 5) (tt := tYes) rfl scLq.nd (pi_list (pv 2)) (blkOk_by (own := [("desk", 5)]) (N := nLq) (sc := defScope sLawParts) (by decide +kernel)) (fun _ _ _ _ _ => (pg_name (i := 5) scLq.nd rfl (Or.inl rfl))) (fun _ _ _ _ _ => pts_nil) (fun _ _ _ _ _ => (pe_tup (pa_cons (pv 5) (pa_cons (pe_call G__law_part (hr.mono (by decide)) (by rfl) C__law_part.g C__law_part.kp C__law_part.b .nil pass0 (pa_cons (pv 1) (pa_cons (pv 5) (pa_cons (pv 3) pa_nil)))) pa_nil))))) pa_nil)))
      (pss_cons (ps_if (PW.pt (pw_or (pt_cmpR (op_neD hr.units) (pe_call G_parts (hr.mono (by decide)) (by rfl) C_parts.g C_parts.kp C_parts.b .nil (E := fun _ _ _ => False) (passes_call LamX.takes0 (fun _ _ _ _ h => h)) (pa_cons (pv 0) (pa_cons (pv 3) pa_nil))) (pv 4) (nomark _)) (pw_or1 (pt_cmpR (op_neD hr.units) (pe_lc (own := [("desk", 5)]) (g := gName 5) (tt := tYes) rfl scLq.nd (pi_list (pv 2)) (blkOk_by (own := [("desk", 5)]) (N := nLq) (sc := defScope sLawParts) (by decide +kernel)) (fun _ _ _ _ _ => (pg_name (i := 5) scLq.nd rfl (Or.inl rfl))) (fun _ _ _ _ _ => pts_nil) (fun _ _ _ _ _ => (pe_call G_part (hr.mono (by decide)) (by rfl) C_part.g C_part.kp C_part.b .nil (E := fun _ _ _ => False) (passes_call LamX.takes0 (fun _ _ _ _ h => h)) (pa_cons (pv 0) (pa_cons (pv 5) (pa_cons (pv 3) pa_nil)))))) (pe_lc (own := [("one", 7)]) (g := gName 7) (tt := tYes) rfl scLq.nd (pi_tup (pv 4)) (blkOk_by (own := [("one", 7)]) (N := nLq) (sc := defScope sLawParts) (by decide +kernel)) (fun _ _ _ _ _ => (pg_name (i := 7) scLq.nd rfl (Or.inl rfl))) (fun _ _ _ _ _ => pts_nil) (fun _ _ _ _ _ => (pe_ix (ixT_at (K := K) rfl) (pv 7) pe_int (fun _ _ => rfl)))) (nomark _))))) (pss_one (ps_ret pe_bl)) pss_nil)
      (pss_cons (ps_for PassesOwn.never rfl (pi_list (pv 2)) (pg_name (i := 5) scLq.nd rfl (Or.inr rfl))
        (pss_cons (ps_set (i := 6) scLq.nd rfl (Or.inl rfl) (Ka.pe_callK0 G_view_at (hr.mono (by decide)) (by rfl) C_view_at.g C_view_at.kp kb_view_at pass0 (pk_cons (pv 5) (pk_cons (pv 0) pk_nil))))
        (pss_cons (ps_if (pt_cmpR (op_neD hr.units) (pe_callB (Ka.cr_sortItK rfl hr.units) (by rfl) N.sorted (by decide +kernel) (pa_cons (pe_bm0 PySem.F.plainAttrs_dict PySem.F.slot_dict_items PySem.F.type_dict_items Ka.mt_itemsK (pv 6)) pa_nil)) (pe_lc (own := [("deed", 8)]) (g := gName 8) (tt := tYes) rfl scLq.nd (pi_list (pe_callB (call_sortedD rfl) (by rfl) N.sorted (by decide +kernel) (pa_cons (pv 1) pa_nil))) (blkOk_by (own := [("deed", 8)]) (N := nLq) (sc := defScope sLawParts) (by decide +kernel)) (fun _ _ _ _ _ => (pg_name (i := 8) scLq.nd rfl (Or.inl rfl))) (fun _ _ _ _ _ => pts_nil) (fun _ _ _ _ _ => (pe_tup (pa_cons (pv 8) (pa_cons (pe_ifExp (pt_cmpR op_eq (pe_dget (hu_of hr) (pv 1) (pv 8) (fun _ _ => rfl)) (pv 5) (nomark _)) (pe_tup (pa_cons (pv 8) pa_nil)) (pe_tup pa_nil)) pa_nil))))) (nomark _)) (pss_one (ps_ret pe_bl)) pss_nil)
        (pss_one (ps_if (pt_cmpR (op_neD hr.units) (pe_call G_deeds_at (hr.mono (by decide)) (by rfl) C_deeds_at.g C_deeds_at.kp C_deeds_at.b .nil pass0 (pa_cons (pv 0) (pa_cons (pv 5) pa_nil))) (pe_callTy call_tuple_of (by rfl) N.tuple (by decide +kernel) (pa_cons (pe_lc (own := [("deed", 8)]) (g := gName 8) rfl scLq.nd (pi_list (pe_callB (call_sortedD rfl) (by rfl) N.sorted (by decide +kernel) (pa_cons (pv 1) pa_nil))) (blkOk_by (own := [("deed", 8)]) (N := nLq) (sc := defScope sLawParts) (by decide +kernel)) (fun _ _ _ _ _ => (pg_name (i := 8) scLq.nd rfl (Or.inl rfl))) (fun _ _ _ _ _ => pts_one (pt_cmpR op_eq (pe_dget (hu_of hr) (pv 1) (pv 8) (fun _ _ => rfl)) (pv 5) (nomark _))) (fun _ _ _ _ _ => (pv 8))) pa_nil)) (nomark _)) (pss_one (ps_ret pe_bl)) pss_nil)))))
      (pss_one (ps_ret (pe_cmpR (op_eqD hr.units) (pe_call G_desks_of (hr.mono (by decide)) (by rfl) C_desks_of.g C_desks_of.kp C_desks_of.b .nil pass0 (pa_cons (pv 0) pa_nil)) (pe_callTy call_tuple_of (by rfl) N.tuple (by decide +kernel) (pa_cons (pv 2) pa_nil)) (nomark _)))))), ?_⟩
    refine ⟨.ref k, rfl, k, rfl, ⟨_, sqL_new hK⟩, fun D nD => ?_⟩
    refine lc_it (walk_list (K := K) (a := k) (xs := ds.map V.str)) (fun i G => ∃ L : List PT3, Same H G ∧ G D = some (.lst (L.map fun t => V.ref t.1)) ∧ L.map (·.2.1) = ds.take i ∧ ∀ t ∈ L, G t.1 = some (.tup [.str t.2.1, .ref t.2.2]) ∧ G t.2.2 = some (.tup ((partL ps t.2.1 us).map V.str))) ⟨[], same_new nD, upd_same, rfl, fun t ht => nomatch ht⟩ (fun _ _ _ h => sqL_new (h.choose_spec.1 _ _ hK)) (fun i x G G' hi h y => ?_) (fun G h => ?_)
    · obtain ⟨rfl, hy⟩ := y
      obtain ⟨kk, hk, rfl⟩ := get_map hy
      obtain ⟨L, sG, eG, kL, tL⟩ := h
      rw [List.length_map] at hi
      have lL : L.length ≤ 12 := by
        have := congrArg List.length kL
        rw [List.length_map, List.length_take] at this
        omega
      refine ⟨rfl, .str kk, rfl, _, rfl, _, rfl, _, rfl, d, r, kk, ps, us, rfl, .inl (sG _ _ hD), Same.sqT sG hR, hz, hb, fun H2 p1 t2 n1 g1 => ?_⟩
      refine ⟨smallE (by show 2 ≤ 1000000; decide), fun b nb => ?_⟩
      have sb := same_new (o := .tup [V.str kk, V.ref p1]) nb
      have eb : upd H2 b (.tup [V.str kk, V.ref p1]) b = some (.tup [V.str kk, V.ref p1]) := upd_same
      have gb := sb _ _ g1
      have sGb := t2.trans sb
      generalize upd H2 b (.tup [V.str kk, V.ref p1]) = Z at sb eb gb sGb
      have nDt : ∀ {c : Addr} {xs : List V}, Z c = some (.tup xs) → c ≠ D := fun e z => by
        rw [z, sGb _ _ eG] at e
        cases e
      refine ⟨_, sGb _ _ eG, by rw [List.length_map]; exact small (by omega), L ++ [(b, kk, p1)], fun c o e => ?_, ?_, ?_, fun t ht => ?_⟩
      · rw [upd_ne (ne_of_none e nD)]
        exact sGb _ _ (sG _ _ e)
      · rw [upd_same, List.map_append]
        rfl
      · rw [List.map_append, kL, take_of_get hk]
        rfl
      · rcases List.mem_append.mp ht with z | z
        · obtain ⟨a1, a2⟩ := tL t z
          have a1 := sGb _ _ a1
          have a2 := sGb _ _ a2
          exact ⟨by rw [upd_ne (nDt a1)]; exact a1, by rw [upd_ne (nDt a2)]; exact a2⟩
        · rw [List.mem_singleton.mp z]
          exact ⟨by rw [upd_ne (nDt eb)]; exact eb, by rw [upd_ne (nDt gb)]; exact gb⟩
    obtain ⟨L, sG, eG, kL, tL⟩ := h
    rw [List.length_map, List.take_of_length_le (Nat.le_refl _)] at kL
    refine ⟨D, _, rfl, .inl ⟨sqL_new eG, fun t nt => ?_⟩⟩
    have st := same_new (o := .tup (L.map fun t => V.ref t.1)) nt
    have due : PtAt (upd G t (.tup (L.map fun t => V.ref t.1))) t ps us ds := ⟨L, upd_same, kL, fun u hu => ⟨st _ _ (tL u hu).1, st _ _ (tL u hu).2⟩⟩
    have sX := sG.trans st
    generalize upd G t (.tup (L.map fun t => V.ref t.1)) = H1 at sX due
    clear eG tL sG st nt nD kL L G
    refine ⟨_, rfl, _, rfl, a, r, ps, us, ds, rfl, hP.mono sX, ok, isd, Same.sqT sX hR, hz, fun _ H2 p2 s2 np2 hp2 => ?_, fun i hi => by rw [hb] at hi; cases hi⟩
    have due := due.mono s2
    have shp := shPt (ps := ps) nus nds
    refine ⟨_, rfl, _, _, hp2.dp, due.dp, shp, shp, ?_⟩
    rw [eqv_sh shp]
    refine ⟨_, rfl, iteF ?_⟩
    have s12 := sX.trans s2
    refine ⟨.ref k, rfl, k, rfl, ⟨_, sqL_new (s12 _ _ hK)⟩, fun D1 nD1 => ?_⟩
    refine lc_it (walk_list (K := K) (a := k) (xs := ds.map V.str)) (fun i G => ∃ L1 : List Addr, Same H2 G ∧ G D1 = some (.lst (L1.map V.ref)) ∧ L1.length = i ∧ ∀ (j : Nat) (c : Addr) (kk : Str), L1[j]? = some c → ds[j]? = some kk → G c = some (.tup ((partL ps kk us).map V.str))) ⟨[], same_new nD1, upd_same, rfl, fun j c kk h => by simp at h⟩ (fun _ _ _ h => sqL_new (h.choose_spec.1 _ _ (s12 _ _ hK))) (fun i x G G' hi h y => ?_) (fun G h => ?_)
    · obtain ⟨rfl, hy⟩ := y
      obtain ⟨kk, hk, rfl⟩ := get_map hy
      obtain ⟨L1, sG, eG, lL, tL⟩ := h
      rw [List.length_map] at hi
      refine ⟨rfl, _, rfl, _, rfl, _, rfl, a, r, kk, ps, us, rfl, hP.mono (s12.trans sG), ok, Same.sqT (s12.trans sG) hR, hz, fun _ H3 p3 s3 np3 g3 => ?_, fun i hi => by rw [hb] at hi; cases hi⟩
      have nDt : ∀ {c : Addr} {xs : List V}, H3 c = some (.tup xs) → c ≠ D1 := fun e z => by
        rw [z, s3 _ _ eG] at e
        cases e
      refine ⟨_, s3 _ _ eG, by rw [List.length_map]; exact small (by omega), L1 ++ [p3], fun c o e => ?_, ?_, by rw [List.length_append, lL]; rfl, fun j c k2 hj hk2 => ?_⟩
      · rw [upd_ne (ne_of_none e nD1)]
        exact s3 _ _ (sG _ _ e)
      · rw [upd_same, List.map_append]
        rfl
      · by_cases hji : j < i
        · rw [List.getElem?_append_left (by omega)] at hj
          have := s3 _ _ (tL j c k2 hj hk2)
          rw [upd_ne (nDt this)]
          exact this
        · have hj2 := lt_of_get hj
          rw [List.length_append, List.length_singleton] at hj2
          obtain rfl : j = i := by omega
          rw [List.getElem?_append_right (by omega), lL, Nat.sub_self] at hj
          cases hj
          rw [hk] at hk2
          cases hk2
          rw [upd_ne (nDt g3)]
          exact g3
    obtain ⟨L1, sG, eG, lL1, tL1⟩ := h
    rw [List.length_map] at lL1
    have dueG := due.mono sG
    obtain ⟨L, l1, l2, l3⟩ := id dueG
    have lL : L.length = ds.length := by rw [← l2, List.length_map]
    refine ⟨.ref t, rfl, t, rfl, ⟨_, sqT_new l1⟩, fun D2 nD2 => ?_⟩
    refine lc_pure (walk_tup (K := K) (a := t) (xs := L.map fun u => V.ref u.1)) ((L.map (·.2.2)).map V.ref) (by rw [List.length_map, List.length_map, List.length_map]) nD2 (fun _ s => sqT_new (s _ _ l1)) (fun i x H0 H' hi h0 y => ?_) (fun H3 s3 e3 => ?_)
    · obtain ⟨rfl, hy⟩ := y
      obtain ⟨u, hu, rfl⟩ := get_map hy
      refine ⟨rfl, _, rfl, u.1, _, _, .ref u.2.2, rfl, rfl, sqT_new (h0.1 _ _ (l3 u (List.mem_of_getElem? hu)).1), rfl, ?_⟩
      refine h0.put nD2 (fun _ _ e => e) ?_ (by rw [List.length_map, List.length_map]; omega)
      rw [List.getElem?_map, List.getElem?_map, hu]
      rfl
    have shl : SeqAt.shaped (.list ((ds.map fun kk => partL ps kk us).map Ka.rowD)) = true := (shRows fun r hr z hz => by
      obtain ⟨kk, _, rfl⟩ := List.mem_map.mp hr
      exact nus z (List.mem_filter.mp hz).1).1
    refine ⟨_, _, .lst (sqL_new (s3 _ _ eG)) (dp_rows (f := fun kk => partL ps kk us) (ds := ds) lL1 fun i c kk h1 h2 => s3 _ _ (tL1 i c kk h1 h2)), .lst (sqL_new e3) (dp_rows (f := fun kk => partL ps kk us) (ds := ds) (by rw [List.length_map]; exact lL) fun i c kk h1 h2 => ?_), shl, shl, ?_⟩
    · rw [List.getElem?_map] at h1
      cases eu : L[i]? with
      | none =>
        rw [eu] at h1
        cases h1
      | some u =>
        rw [eu] at h1
        cases h1
        have e2 : ds[i]? = some u.2.1 := by rw [← l2, List.getElem?_map, eu]; rfl
        rw [h2] at e2
        cases e2
        exact s3 _ _ (l3 u (List.mem_of_getElem? eu)).2
    rw [eqv_sh shl]
    refine ⟨_, rfl, iteF ?_⟩
    have s03 := (s12.trans sG).trans s3
    clear l1 l2 l3 lL lL1 tL1 eG e3 nD2 nD1 sG s3 dueG due hp2 np2 s2 s12 sX L L1
    refine ⟨.ref k, rfl, k, rfl, ⟨_, sqL_new (s03 _ _ hK)⟩, ?_⟩
    refine for_it (walk_list (K := K) (a := k) (xs := ds.map V.str)) (fun i σ Z => ∃ x5 x6 x7 x8 : Option V, σ = [some (.ref a), some (.ref d), some (.ref k), some (.ref r), some (.ref t), x5, x6, x7, x8] ∧ Same H Z) ⟨_, _, _, _, rfl, s03⟩ (fun i σ Z _ h => ?_) (fun i x σ Z Z' hi h y => ?_) (fun σ Z h => ?_)
    · obtain ⟨_, _, _, _, _, sZ⟩ := h
      exact sqL_new (sZ _ _ hK)
    · obtain ⟨rfl, hy⟩ := y
      obtain ⟨kk, hk, rfl⟩ := get_map hy
      obtain ⟨x5, x6, x7, x8, rfl, sZ⟩ := h
      refine ⟨.str kk, rfl, .ref a, rfl, ?_⟩
      dsimp only [tNil]
      refine ⟨a, ps, kk, rfl, hP.mono sZ, ok, fun H5 q5 s5 n5 vw => ?_⟩
      obtain ⟨L5, e5, k5, t5⟩ := vw
      have s05 := sZ.trans s5
      have nd5 : (L5.map (·.1)).Nodup := by rw [k5]; exact ok.nd
      have t5' : ∀ e ∈ L5, H5 e.2 = some (.tup ((onR ps kk e.1).map V.str)) := fun e he => by
        obtain ⟨i, hi⟩ := List.getElem?_of_mem he
        have hl : L5.length = ps.length := by
          have := congrArg List.length k5
          rwa [List.length_map, List.length_map] at this
        have hp : ps[i]? = some (ps[i]'(by have := lt_of_get hi; omega)) := List.getElem?_eq_getElem _
        generalize ps[i]'(by have := lt_of_get hi; omega) = p at hp
        have ee : e.1 = p.2.1 := by
          have e1 : (L5.map (·.1))[i]? = some e.1 := by rw [List.getElem?_map, hi]; rfl
          rw [k5, List.getElem?_map, hp] at e1
          exact (Option.some.inj e1).symm
        have := t5 i e p hi hp
        rw [this]
        unfold onR
        rw [ee, deskOf_self ok.nd (List.mem_of_getElem? hp)]
        by_cases c : p.2.2 = kk
        · rw [if_pos c, if_pos (by rw [c])]
          rfl
        · rw [if_neg c, if_neg (fun z => c (Option.some.inj z))]
          rfl
      refine ⟨_, rfl, .inr (.inr (.inl ⟨rfl, .inl ⟨_, e5⟩⟩)), q5, _, rfl, rfl, e5, fun v nv => ?_⟩
      have s6 := same_new (o := L2.DX.itemsO v q5) nv
      refine ⟨v, q5, L5, fun e => onR ps kk e.1, rfl, upd_same, s6 _ _ e5, nd5, fun e he => s6 _ _ (t5' e he), fun H6 l zs k6 nl pm sz6 el tz => ?_⟩
      have s56 : Same H5 H6 := fun b o e => k6 _ _ (s6 _ _ e)
      have s06 := s05.trans s56
      have ez : zs.map (·.2.1) = ps.map (·.2.1) := by
        refine sorted_uniq sz6 so ?_
        have := pm.map (·.1)
        rw [k5, List.map_map] at this
        exact this
      have tz' : ∀ z ∈ zs, H6 z.1 = some (.tup [.str z.2.1, .ref z.2.2]) ∧ H6 z.2.2 = some (.tup ((onR ps kk z.2.1).map V.str)) := fun z hz => ⟨tz z hz, s56 _ _ (t5' z.2 (pm.mem_iff.mp (List.mem_map.mpr ⟨z, hz, rfl⟩)))⟩
      refine ⟨_, rfl, d, _, ps.map (·.2.1), rfl, .inl (s06 _ _ hD), byKV_keys ps, by omega, fun ys l2 hperm hs2 nl2 => ?_⟩
      obtain rfl : ys = ps.map (·.2.1) := sorted_uniq hs2 so hperm
      have s7 := same_new (o := .lst ((ps.map (·.2.1)).map V.str)) nl2
      have e7 : upd H6 l2 (.lst ((ps.map (·.2.1)).map V.str)) l2 = some (.lst ((ps.map (·.2.1)).map V.str)) := upd_same
      generalize upd H6 l2 (.lst ((ps.map (·.2.1)).map V.str)) = H7 at s7 e7
      have s07 := s06.trans s7
      have el := s7 _ _ el
      refine ⟨l2, rfl, ⟨_, sqL_new e7⟩, fun D7 nD7 => ?_⟩
      refine lc_it (walk_list (K := K) (a := l2) (xs := (ps.map (·.2.1)).map V.str)) (fun i G => ∃ W : List Ka.IP, Same H7 G ∧ G D7 = some (.lst (W.map fun z => V.ref z.1)) ∧ W.map (·.2.1) = (ps.map (·.2.1)).take i ∧ ∀ z ∈ W, G z.1 = some (.tup [.str z.2.1, .ref z.2.2]) ∧ G z.2.2 = some (.tup ((onR ps kk z.2.1).map V.str))) ⟨[], same_new nD7, upd_same, rfl, fun z hz => nomatch hz⟩ (fun _ _ _ h => sqL_new (h.choose_spec.1 _ _ e7)) (fun i x G G' hi h y => ?_) (fun G h => ?_)
      · obtain ⟨rfl, hy⟩ := y
        obtain ⟨x, hx, rfl⟩ := get_map hy
        obtain ⟨W, sG, eG, kW, tW⟩ := h
        have lW : W.length ≤ 12 := by
          have := congrArg List.length kW
          rw [List.length_map, List.length_take, List.length_map] at this
          omega
        obtain ⟨p, hp, ep⟩ := List.mem_map.mp (List.mem_of_getElem? hx)
        have hdo : deskOf ps x = some p.2.2 := by rw [← ep]; exact deskOf_self ok.nd hp
        have g1 : DGet G' d (.str x) (some (.str p.2.2)) := by
          have := DGet.k (k := Sum.inr x) (sG _ _ (s07 _ _ hD))
          rw [valV_by, hdo] at this
          exact this
        have fin : ∀ (b : Addr) (G2 : Hp), Same G' G2 → G2 b = some (.tup ((onR ps kk x).map V.str)) → ∀ b2, G2 b2 = none → ∃ acc, upd G2 b2 (.tup [V.str x, V.ref b]) D7 = some (.lst acc) ∧ acc.length < sizeLine ∧ ∃ W : List Ka.IP, Same H7 (upd (upd G2 b2 (.tup [V.str x, V.ref b])) D7 (.lst (acc ++ [V.ref b2]))) ∧ upd (upd G2 b2 (.tup [V.str x, V.ref b])) D7 (.lst (acc ++ [V.ref b2])) D7 = some (.lst (W.map fun z => V.ref z.1)) ∧ W.map (·.2.1) = (ps.map (·.2.1)).take (i + 1) ∧ ∀ z ∈ W, upd (upd G2 b2 (.tup [V.str x, V.ref b])) D7 (.lst (acc ++ [V.ref b2])) z.1 = some (.tup [.str z.2.1, .ref z.2.2]) ∧ upd (upd G2 b2 (.tup [V.str x, V.ref b])) D7 (.lst (acc ++ [V.ref b2])) z.2.2 = some (.tup ((onR ps kk z.2.1).map V.str)) := by
          intro b G2 sb eb b2 nb2
          have sb2 := same_new (o := .tup [V.str x, V.ref b]) nb2
          have eb2 : upd G2 b2 (.tup [V.str x, V.ref b]) b2 = some (.tup [V.str x, V.ref b]) := upd_same
          have eb := sb2 _ _ eb
          have sGb := sb.trans sb2
          generalize upd G2 b2 (.tup [V.str x, V.ref b]) = Z at eb2 eb sGb
          have nDt : ∀ {c : Addr} {xs : List V}, Z c = some (.tup xs) → c ≠ D7 := fun e z => by
            rw [z, sGb _ _ eG] at e
            cases e
          refine ⟨_, sGb _ _ eG, by rw [List.length_map]; exact small (by omega), W ++ [(b2, x, b)], fun c o e => ?_, ?_, ?_, fun z hz => ?_⟩
          · rw [upd_ne (ne_of_none e nD7)]
            exact sGb _ _ (sG _ _ e)
          · rw [upd_same, List.map_append]
            rfl
          · rw [List.map_append, kW, take_of_get hx]
            rfl
          · rcases List.mem_append.mp hz with z2 | z2
            · obtain ⟨a1, a2⟩ := tW z z2
              have a1 := sGb _ _ a1
              have a2 := sGb _ _ a2
              exact ⟨by rw [upd_ne (nDt a1)]; exact a1, by rw [upd_ne (nDt a2)]; exact a2⟩
            · rw [List.mem_singleton.mp z2]
              exact ⟨by rw [upd_ne (nDt eb2)]; exact eb2, by rw [upd_ne (nDt eb)]; exact eb⟩
        refine ⟨rfl, .str x, rfl, _, rfl, _, rfl, d, .str p.2.2, rfl, g1, _, rfl, rfl, _, rfl, ite2 (fun c => ?_) (fun c => ?_)⟩
        · have c : p.2.2 = kk := by
            have := of_decide_eq_true c
            injection this
          refine ⟨.str x, rfl, smallE (by show 1 ≤ 1000000; decide), fun b nb => ?_⟩
          refine ⟨smallE (by show 2 ≤ 1000000; decide), fun b2 nb2 => fin b _ (same_new nb) ?_ b2 nb2⟩
          rw [upd_same]
          unfold onR
          rw [hdo, if_pos (by rw [c])]
          rfl
        · have c : ¬ p.2.2 = kk := fun e => c (decide_eq_true (by rw [e]))
          refine ⟨Nat.zero_le _, fun b nb => ?_⟩
          refine ⟨smallE (by show 2 ≤ 1000000; decide), fun b2 nb2 => fin b _ (same_new nb) ?_ b2 nb2⟩
          rw [upd_same]
          unfold onR
          rw [hdo, if_neg (fun z => c (Option.some.inj z))]
          rfl
      obtain ⟨W, sG, eG, kW, tW⟩ := h
      rw [List.length_map, List.take_of_length_le (Nat.le_refl _)] at kW
      have d1 : Dp K G (.ref l) (viD ps kk (ps.map (·.2.1))) := by
        unfold viD
        rw [← ez]
        exact .lst (sqL_new (sG _ _ el)) (vi_dp fun z hz => ⟨sG _ _ (s7 _ _ (tz' z hz).1), sG _ _ (s7 _ _ (tz' z hz).2)⟩)
      have d2 : Dp K G (.ref D7) (viD ps kk (ps.map (·.2.1))) := by
        unfold viD
        rw [← kW]
        exact .lst (sqL_new eG) (vi_dp tW)
      have shv : SeqAt.shaped (viD ps kk (ps.map (·.2.1))) = true := vi_sh nps
      refine ⟨_, _, d1, d2, shv, shv, ?_⟩
      rw [eqv_sh shv]
      refine ⟨_, rfl, iteF ?_⟩
      have s08 := s07.trans sG
      clear d1 d2 kW tW eG sG W nD7 e7 s7 nl2 hs2 hperm el tz' ez tz pm sz6 nl k6 s6 nv t5' t5 nd5 k5 e5 L5
      refine ⟨_, rfl, _, rfl, a, ps, kk, rfl, hP.mono s08, ok, fun H8 q8 s8 n8 e8 => ?_⟩
      have s088 := s08.trans s8
      refine ⟨_, rfl, d, _, ps.map (·.2.1), rfl, .inl (s088 _ _ hD), byKV_keys ps, by omega, fun ys l2 hperm hs2 nl2 => ?_⟩
      obtain rfl : ys = ps.map (·.2.1) := sorted_uniq hs2 so hperm
      have s9 := same_new (o := .lst ((ps.map (·.2.1)).map V.str)) nl2
      have e9 : upd H8 l2 (.lst ((ps.map (·.2.1)).map V.str)) l2 = some (.lst ((ps.map (·.2.1)).map V.str)) := upd_same
      generalize upd H8 l2 (.lst ((ps.map (·.2.1)).map V.str)) = H9 at s9 e9
      have s09 := s088.trans s9
      refine ⟨l2, rfl, ⟨_, sqL_new e9⟩, fun D9 nD9 => ?_⟩
      refine lc_it (walk_list (K := K) (a := l2) (xs := (ps.map (·.2.1)).map V.str)) (fun i G => Same H9 G ∧ G D9 = some (.lst ((((ps.map (·.2.1)).take i).filter fun x => decide (deskOf ps x = some kk)).map V.str))) ⟨same_new nD9, upd_same⟩ (fun _ _ _ h => sqL_new (h.1 _ _ e9)) (fun i x G G' hi h y => ?_) (fun G h => ?_)
      · obtain ⟨rfl, hy⟩ := y
        obtain ⟨x, hx, rfl⟩ := get_map hy
        obtain ⟨sG, eG⟩ := h
        obtain ⟨p, hp, ep⟩ := List.mem_map.mp (List.mem_of_getElem? hx)
        have hdo : deskOf ps x = some p.2.2 := by rw [← ep]; exact deskOf_self ok.nd hp
        have g1 : DGet G' d (.str x) (some (.str p.2.2)) := by
          have := DGet.k (k := Sum.inr x) (sG _ _ (s09 _ _ hD))
          rw [valV_by, hdo] at this
          exact this
        refine ⟨rfl, _, rfl, _, rfl, d, .str p.2.2, rfl, g1, _, rfl, rfl, _, rfl, ite2 (fun c => ?_) (fun c => ?_)⟩
        · have c : p.2.2 = kk := by
            have := of_decide_eq_true c
            injection this
          refine ⟨_, rfl, _, eG, ?_, fun b o e => ?_, ?_⟩
          · have := List.length_filter_le (fun x => decide (deskOf ps x = some kk)) ((ps.map (·.2.1)).take i)
            rw [List.length_take] at this
            rw [List.length_map]
            exact small (by omega)
          · rw [upd_ne (ne_of_none e nD9)]
            exact sG _ _ e
          · rw [upd_same, take_of_get hx, List.filter_append, List.map_append]
            simp [hdo, c]
        · have c : ¬ p.2.2 = kk := fun e => c (decide_eq_true (by rw [e]))
          refine ⟨sG, ?_⟩
          rw [eG, take_of_get hx, List.filter_append, List.map_append]
          simp [hdo, c]
      obtain ⟨sG, eG⟩ := h
      rw [List.length_map, List.take_of_length_le (Nat.le_refl _)] at eG
      refine ⟨D9, _, rfl, .inl ⟨sqL_new eG, fun u nu => ?_⟩⟩
      have su := same_new (o := .tup (((ps.map (·.2.1)).filter fun x => decide (deskOf ps x = some kk)).map V.str)) nu
      have s9u := (s9.trans sG).trans su
      have sh9 : SeqAt.shaped (Ka.rowD ((ps.map (·.2.1)).filter fun x => decide (deskOf ps x = some kk))) = true := shR fun z hz => nps z (List.mem_filter.mp hz).1
      rw [at_filter ok.nd] at e8
      refine ⟨_, _, dpR (s9u _ _ e8), dpR upd_same, sh9, sh9, ?_⟩
      rw [eqv_sh sh9]
      refine ⟨_, rfl, iteF ?_⟩
      exact ⟨_, _, _, _, rfl, s088.trans s9u⟩
    · obtain ⟨x5, x6, x7, x8, rfl, sZ⟩ := h
      refine ⟨_, rfl, a, ps, ds, rfl, hP.mono sZ, ok, isd, fun H9 q9 s9 n9 e9 => ?_⟩
      have s09 := sZ.trans s9
      refine ⟨_, rfl, k, _, rfl, .inl ⟨sqL_new (s09 _ _ hK), fun u nu => ?_⟩⟩
      have su := same_new (o := .tup (ds.map V.str)) nu
      refine ⟨_, _, dpR (su _ _ e9), dpR upd_same, shR nds, shR nds, ?_⟩
      rw [eqv_sh (shR nds)]
      exact q _ (s09.trans su)
end
end Kb
/-! tuple(l) whose tuple is known to the object; dict(t) of such a tuple of pairs. -/
namespace Ka
open PySem PySem.Spec PyProof.Rows L2
section
variable {X : Cx}
theorem cr_tupF : CallR X (.type "tuple") (fun xs H Q => ∃ p ys, xs = [.ref p] ∧ SqL X.K H p ys ∧ ∀ (l : Addr) (ob : Obj), ob.dict = none → H l = none → Q (.ref l) (upd H l (.frz ob (.tup ys)))) := by
  intro pins s σ H xs us Q I r h
  obtain ⟨p, ys, rfl, hq, q⟩ := h
  obtain ⟨u, rfl, rx⟩ := vals1 r
  cases rx
  obtain ⟨its, r', pl, hz⟩ := I.list hq
  have hlen := r'.length
  refine call_tuple_list pl.isList (fun h' kp => ?_) (by simp only [List.size_toArray] <;> omega)
  have I1 : Inv X pins σ H { s with heap := h' } := I.kept (t' := s.toks) kp
  have I2 : Inv X pins σ (upd H h'.objs.size (.frz { cls := .type "tuple", data := .seq its.toArray } (.tup ys))) { s with heap := h'.push { cls := .type "tuple", data := .seq its.toArray } } :=
    I1.laid (t' := s.toks) (fun b o e => Heap.get?_push_of_some _ e) (Nat.le_refl _) (show ObjOk X.prog X.w _ _ _ (.frz _ (.tup ys)) from ⟨Heap.get?_push_size _ rfl, hz, its, r', IsTup.new _ _⟩)
  exact ⟨.ref h'.objs.size, _, I2, rfl, q _ _ rfl (I1.hok.fresh (Nat.le_refl _))⟩
theorem pairs_of2 {pins : List (Addr × Obj)} {σ : L2.St} {H : Hp} {s : Shared} (I : Inv X pins σ H s) : ∀ {ps : List Addr} {kvs : List (L2.Key × V)}, Paired (fun p kv => SqT X.K H p [kV kv.1, kv.2]) ps kvs →
    ∃ (prs : List (L2.Key × Value)) (pv : List (Value × Value)), KV kvs prs ∧ prs.length = ps.length ∧ pv.length = ps.length ∧ ∀ (j : Nat) (q : L2.Key × Value), prs[j]? = some q → ∃ (b : Addr) (u : Value), ps[j]? = some b ∧ pv[j]? = some (u, q.2) ∧ IsTup s.heap b #[u, q.2] ∧ keyIs q.1 u = true
  | _, _, .nil => ⟨[], [], .nil, rfl, rfl, fun j q e => by simp at e⟩
  | _, _, .cons (a := p) (b := kv) h t => by
    obtain ⟨prs, pv, r, hl, hl2, hp⟩ := pairs_of2 I t
    obtain ⟨its, rv, ht, _⟩ := I.tuple h
    obtain ⟨u, y, ei, ru, ry⟩ := vals2 rv
    subst ei
    refine ⟨(kv.1, y) :: prs, (u, y) :: pv, .cons ⟨rfl, ry⟩ r, by rw [List.length_cons, List.length_cons, hl], by rw [List.length_cons, List.length_cons, hl2], fun j q e => ?_⟩
    cases j with
    | zero =>
      have e' : (kv.1, y) = q := Option.some.inj e
      subst e'
      exact ⟨p, u, rfl, rfl, ht, kV_is (P := X.prog) (w := X.w) ru⟩
    | succ j =>
      obtain ⟨b, u', e1, e2, e3, e4⟩ := hp j q (by simpa using e)
      exact ⟨b, u', by simpa using e1, by simpa using e2, e3, e4⟩
theorem call_dictT (hcalm : X.calm = true) : CallR X (.type "dict") (fun xs H Q => ∃ (a : Addr) (ob : Obj) (ps : List Addr) (kvs : List (L2.Key × V)), xs = [.ref a] ∧ H a = some (.frz ob (.tup (ps.map V.ref))) ∧ ob.dict = none ∧ Paired (fun p kv => SqT X.K H p [kV kv.1, kv.2]) ps kvs ∧
    ∀ p, H p = none → Q (.ref p) (upd H p (.dK (mergeK [] kvs)))) := by
  intro pins s σ H xs us Q I r q
  obtain ⟨a, ob, ps, kvs, ex, ha, hdn, hp, q⟩ := q
  subst ex
  obtain ⟨u, eu, rx⟩ := vals1 r
  subst eu
  cases rx
  obtain ⟨ho, hz, its, rv, o, ho2, hc, n, hdat⟩ := I.hok a _ ha
  obtain rfl : ob = o := Option.some.inj (ho.symm.trans ho2)
  have ei := refs_at rv
  subst ei
  rw [List.length_map] at hz
  obtain ⟨prs, pv, rel, hl, hl2, hpr⟩ := pairs_of2 I hp
  have key : PairArg X.prog X.w "tuple" a (a :: (List.range pv.length).map fun j => ps.getD j 0) [] pv.length (PairRel pv) (fun h => PlainSeq "tuple" h a (ps.map Value.ref).toArray ∧ PairItems h (ps.map Value.ref).toArray (fun j => ps.getD j 0) pv) := PairArg.tuple a (ps.map Value.ref).toArray (fun j => ps.getD j 0) pv
  have at_ : ∀ (j : Nat) (k v : Value), pv[j]? = some (k, v) → ∃ q : L2.Key × Value, prs[j]? = some q ∧ q.2 = v ∧ keyIs q.1 k = true ∧ ∃ b, ps[j]? = some b ∧ IsTup s.heap b #[k, v] := fun j k v e => by
    have hj := (List.getElem?_eq_some_iff.mp e).1
    have hq : prs[j]? = some (prs[j]'(by omega)) := List.getElem?_eq_getElem _
    obtain ⟨b, u, e1, e2, e3, e4⟩ := hpr j _ hq
    have := Option.some.inj (e.symm.trans e2)
    cases this
    exact ⟨_, hq, rfl, e4, b, e1, e3⟩
  refine PySem.call_dict_pairs (knd := mixKind X.prog X.w) (kvs := prs) key (I.ok.hd hcalm) ⟨⟨ob, n, ho, hc, hdn, hdat⟩, by simp [hl2], fun j k v e => ?_⟩ ?_ (by omega) fun h' tk hd' k => ?_
  · obtain ⟨q, _, _, _, b, e1, e2⟩ := at_ j k v e
    refine ⟨by simp [e1], ?_⟩
    have : ps.getD j 0 = b := by rw [List.getD_eq_getElem?_getD, e1]; rfl
    show PairAt s.heap (ps.getD j 0) k v
    rw [this]
    exact .inl e2
  · refine ⟨by omega, fun j k v e => ?_⟩
    obtain ⟨q, h1, h2, h3, _⟩ := at_ j k v e
    exact ⟨q.1, by rw [h1, ← h2], h3⟩
  · have hm : (s.heap.objs.size == sysModules) = false := beq_eq_false_iff_ne.mpr (Nat.ne_of_gt I.big)
    have hlen : (mergeK [] kvs).length ≤ sizeLine := by
      refine Nat.le_trans (length_mergeK kvs []) ?_
      rw [List.length_nil, Nat.zero_add, rel.length, hl]
      exact hz
    have k' : ∀ b o, s.heap.get? b = some o → h'.get? b = some o := fun b o e => k b o (fun z => nomatch z) e
    exact ⟨.ref s.heap.objs.size, upd H s.heap.objs.size (.dK (mergeK [] kvs)), I.laid (t' := tk) k' (Nat.le_refl _) (show ObjOk X.prog X.w _ _ _ (.dK (mergeK [] kvs)) from ⟨hlen, hm, merged [] prs, KV.merge rel .nil, hd'⟩), rfl, q _ (I.hok.fresh (Nat.le_refl _))⟩
end
end Ka
namespace Kb
open PySem PySem.Spec PyProof.Rows L2
/-! ### the law's own: spoilt -/
def offX (x : Addr) (H : Hp) : Hp := fun c => if c = x then none else H c
theorem offX_none {x : Addr} {H : Hp} : offX x H x = none := if_pos rfl
theorem offX_get {x c : Addr} {H : Hp} {u : HO} (ne : c ≠ x) (e : H c = some u) : offX x H c = some u := (if_neg ne).trans e
theorem offX_of {x c : Addr} {H : Hp} {u : HO} (e : offX x H c = some u) : c ≠ x ∧ H c = some u := by
  unfold offX at e
  split at e
  · cases e
  · exact ⟨by assumption, e⟩
/-- all of J stands, and the box -/
structure BSt (J : Hp) (x : Addr) (H : Hp) : Prop where
  s : Same J H
  b : Box H x
theorem BSt.new {J : Hp} {x p : Addr} {H : Hp} {o : HO} (h : BSt J x H) (np : H p = none) : BSt J x (upd H p o) := ⟨h.s.trans (same_new np), Box.upd h.b (Box.ne h.b np)⟩
theorem BSt.same {J : Hp} {x : Addr} {H H' : Hp} (h : BSt J x H) (s : Same H H') : BSt J x H' := ⟨h.s.trans s, let ⟨b0, b1, e⟩ := h.b; ⟨b0, b1, s _ _ e⟩⟩
theorem BSt.but {J : Hp} {x : Addr} {H H' : Hp} (h : BSt J x H) (jx : J x = none) (k : But x H H') (b : Box H' x) : BSt J x H' := ⟨fun c u e => k c u (fun z => by rw [z, jx] at e; cases e) (h.s c u e), b⟩
theorem BSt.off {J : Hp} {x : Addr} {H : Hp} (h : BSt J x H) (jx : J x = none) : Same J (offX x H) := fun c u e => offX_get (fun z => by rw [z, jx] at e; cases e) (h.s c u e)
theorem BSt.self {x : Addr} {H : Hp} (b : Box H x) : BSt (offX x H) x H := ⟨fun c u e => (offX_of e).2, b⟩
theorem box_ne {x c : Addr} {H : Hp} {u : HO} (b : Box H x) (e : H c = some u) (d : ∀ b0 b1 : Int, u ≠ .lst [.int b0, .int b1]) : c ≠ x := fun z => by
  obtain ⟨b0, b1, eb⟩ := b
  rw [z, eb] at e
  exact d b0 b1 (Option.some.inj e).symm
section
variable {K : PySem.W.Frag}
theorem slA_pre {H : Hp} {a : Addr} {xs : List V} {n : Nat} {Q : VK} (hn : n ≤ xs.length) (hA : SqT K H a xs) (q : ∀ H' c, Same H H' → SqT K H' c (xs.take n) → Q (.ref c) H') : rSlA K (.ref a) none (some (n : Int)) H Q := by
  refine ⟨a, xs, rfl, hA, fun hw => ?_, fun _ p np => ?_⟩
  · obtain ⟨_, h2⟩ := hw
    rw [HT.sIx_nat] at h2
    refine q H a (fun _ _ h => h) ?_
    rw [List.take_of_length_le (by omega)]
    exact hA
  · refine q _ p (same_new np) (sqT_new ?_)
    rw [upd_same]
    have e : cutV xs none (some (n : Int)) = xs.take n := by
      unfold cutV
      rw [HT.sIx_nat, Nat.min_eq_left hn]
      show (xs.drop 0).take (n - 0) = _
      rw [List.drop_zero, Nat.sub_zero]
    rw [e]
theorem slA_suf {H : Hp} {a : Addr} {xs : List V} {n : Nat} {Q : VK} (hn : n ≤ xs.length) (hA : SqT K H a xs) (q : ∀ H' c, Same H H' → SqT K H' c (xs.drop n) → Q (.ref c) H') : rSlA K (.ref a) (some (n : Int)) none H Q := by
  refine ⟨a, xs, rfl, hA, fun hw => ?_, fun _ p np => ?_⟩
  · obtain ⟨h1, _⟩ := hw
    rw [HT.sIx_nat] at h1
    refine q H a (fun _ _ h => h) ?_
    have e0 : n = 0 := by omega
    rw [e0, List.drop_zero]
    exact hA
  · refine q _ p (same_new np) (sqT_new ?_)
    rw [upd_same]
    have e : cutV xs (some (n : Int)) none = xs.drop n := by
      unfold cutV
      rw [HT.sIx_nat, Nat.min_eq_left hn]
      show (xs.drop n).take (xs.length - n) = _
      exact List.take_of_length_le (by rw [List.length_drop]; omega)
    rw [e]
theorem catA_any {H : Hp} {a b : Addr} {xs ys : List V} {Q : VK} (hA : SqT K H a xs) (hB : SqT K H b ys) (hz : xs.length + ys.length ≤ 1000000) (q : ∀ H' c, Same H H' → SqT K H' c (xs ++ ys) → Q (.ref c) H') : rCatA K (.ref a) (.ref b) H Q := by
  refine ⟨a, b, xs, ys, rfl, rfl, hA, hB, smallE hz, fun e => ?_, fun _ e => ?_, fun _ _ p np => ?_⟩
  · subst e
    exact q H b (fun _ _ h => h) hB
  · subst e
    refine q H a (fun _ _ h => h) ?_
    rw [List.append_nil]
    exact hA
  · exact q _ p (same_new np) (sqT_new upd_same)
variable {H : Hp} {ps : List DP}
theorem sp_mk {v : Addr} {ys : List V} {t : Nat} (ht : t ≤ ps.length) (hS : SqT K H v ((ps.map fun p => V.ref p.1).take t ++ ys)) (hp : ∀ q ∈ ps, H q.1 = some (.tup [.str q.2.1, .str q.2.2]) ∧ isName q.2.1 = true ∧ isName q.2.2 = true) (hl : t + ys.length ≤ 100)
    (hend : (∃ y r, ys = y :: r ∧ ∀ d, (ps.map (·.2.1))[t]? = some d → PairV K H d y false) ∨ (ys = [] ∧ t < ps.length)) : SpOk K H (ps.map (·.2.1)) (.ref v) (t : Int) := by
  have lt : ((ps.map fun p => V.ref p.1).take t).length = t := by rw [List.length_take, List.length_map]; omega
  have lall : ((ps.map fun p => V.ref p.1).take t ++ ys).length = t + ys.length := by rw [List.length_append, lt]
  refine .inr ⟨v, _, t, rfl, hS, by omega, rfl, by omega, by rw [List.length_map]; exact ht, fun i y d hi hy hd => ?_, ?_⟩
  · rw [List.getElem?_append_left (by omega), List.getElem?_take_of_lt hi] at hy
    obtain ⟨q, hq, rfl⟩ := get_map hy
    rw [List.getElem?_map, hq] at hd
    cases hd
    obtain ⟨h1, h2, h3⟩ := hp q (List.mem_of_getElem? hq)
    exact pair_true h1 h2 h3
  · rcases hend with ⟨y, r, rfl, h⟩ | ⟨rfl, h⟩
    · refine .inl ⟨by rw [lall, List.length_cons]; omega, .inr fun z d hz hd => ?_⟩
      rw [List.getElem?_append_right (by omega), lt, Nat.sub_self] at hz
      cases hz
      exact h d hd
    · exact .inr ⟨by rw [lall]; rfl, by rw [lall, List.length_map]; exact h⟩
end
section
variable {P : Program} {w : World} {K : PySem.W.Frag} {mg : Str → Option Value} {base : Heap}
def spSpoilt (K : PySem.W.Frag) : Sp := fun vs H Q _ => ∃ (x p : Addr) (ob : Obj) (ps : List DP) (z : Str), vs = [.ref x, .ref p, .str z] ∧ Box H x ∧ H p = some (.frz ob (.tup (ps.map fun q => V.ref q.1))) ∧ ob.dict = none ∧ (∀ q ∈ ps, H q.1 = some (.tup [.str q.2.1, .str q.2.2])) ∧ DOk ps ∧ 0 < ps.length ∧ (∀ q ∈ ps, isName q.2.1 = true ∧ isName q.2.2 = true) ∧ isName z = true ∧ (∀ q ∈ ps, z ≠ q.2.1) ∧
  ∀ (H' : Hp) (q : Addr) (v : V) (n : Int), But x H H' → Box H' x → H' q = some (.tup [v, .int n]) → SpOk K H' (ps.map (·.2.1)) v n → Q (.ref q) H'
abbrev nLz : List Str := ["box", "pairs", "stranger", "kind", "at", "deed", "desk", "wrong", "changed"]
theorem scLz : FnScope nLz ["box", "pairs", "stranger"] (defScope sSpoilt) := ⟨rfl, rfl, rfl, by decide +kernel, rfl, by decide +kernel, by decide +kernel⟩
theorem ok_spoilt {f fT fP : Addr} {fd fdT fdP : FuncData} (F : Fun K "_law_spoilt" "_law_spoilt" sSpoilt f fd) (N : Nones mg) (ndict : mg "dict" = none) (G__law_take : FnOk P w K mg base CX0 1 fT fdT ["box", "many"] spTake) (C__law_take : CallC K mg "_law_take" ["box", "many"] fT fdT) (G__law_pick : FnOk P w K mg base CX0 2 fP fdP ["box", "some"] spPick) (C__law_pick : CallC K mg "_law_pick" ["box", "some"] fP fdP) : FnOk P w K mg base CX0 3 f fd ["box", "pairs", "stranger"] (spSpoilt K) := by
  refine F.ok scLz (fun vs H Q E h => ?_) (fun cdv A outer s H vs Q E hr h => ?_)
  · obtain ⟨x, p, ob, ps, z, rfl, _⟩ := h
    rfl
  · obtain ⟨x, p, ob, ps, z, rfl, hx, hP, hob, hps, ok, h0, nms, hz, nz, q⟩ := h
    have sz := ok.sz
    refine ⟨_, pss_cons (ps_set (i := 3) scLz.nd rfl (Or.inl rfl) (pe_call G__law_take (hr.mono (by decide)) (by rfl) C__law_take.g C__law_take.kp C__law_take.b .nil pass0 (pa_cons (pv 0) (pa_cons pe_int pa_nil))))
      (pss_cons (ps_set (i := 4) scLz.nd rfl (Or.inl rfl) (pe_call G__law_take (hr.mono (by decide)) (by rfl) C__law_take.g C__law_take.kp C__law_take.b .nil pass0 (pa_cons (pv 0) (pa_cons (pe_callB call_len_seq (by rfl) N.len PySem.boot_len (pa_cons (pv 1) pa_nil)) pa_nil))))
      (pss_cons (ps_asg (pe_ix ix_tup (pv 1) (pv 4) (fun _ _ => rfl)) (pg_tup rfl (pgs_cons (pg_name (i := 5) scLz.nd rfl (Or.inl rfl)) (pgs_cons (pg_name (i := 6) scLz.nd rfl (Or.inl rfl)) pgs_nil))))
      (pss_cons (ps_if (pt_cmpR op_eq (pv 3) pe_int (nomark _)) (pss_one (ps_ret (pe_tup (pa_cons (pe_call G__law_pick (hr.mono (by decide)) (by rfl) C__law_pick.g C__law_pick.kp C__law_pick.b .nil pass0 (pa_cons (pv 0) (pa_cons (pe_lst (pa_cons (pe_callTy call_list_of (by rfl) N.list (by decide +kernel) (pa_cons (pv 1) pa_nil)) (pa_cons pe_non (pa_cons pe_int (pa_cons pe_str (pa_cons pe_bl (pa_cons (pe_callTy (Ka.call_dictT rfl) (by rfl) ndict (by decide +kernel) (pa_cons (pv 1) pa_nil)) pa_nil))))))) pa_nil))) (pa_cons (pe_op op_sub pe_int pe_int) pa_nil))))) pss_nil)
      (pss_cons (ps_if (pt_cmpR op_gt (pv 3) pe_int (nomark _)) (pss_one (ps_ret (pe_tup (pa_cons (pe_op op_catA (pe_op op_catA (pe_op op_catA (pe_slice sl_tupA (pv 1) po_none (po_some (pv 4))) (pe_call G__law_pick (hr.mono (by decide)) (by rfl) C__law_pick.g C__law_pick.kp C__law_pick.b .nil pass0 (pa_cons (pv 0) (pa_cons (pe_lst (pa_cons (pe_tup (pa_cons (pe_tup pa_nil) pa_nil)) (pa_cons (pe_tup (pa_cons (pe_tup (pa_cons (pv 5) pa_nil)) pa_nil)) (pa_cons (pe_tup (pa_cons (pe_tup (pa_cons (pv 2) (pa_cons (pv 6) pa_nil))) pa_nil)) pa_nil)))) pa_nil)))) (pe_slice sl_tupA (pv 1) (po_some (pe_op op_add (pv 4) pe_int)) po_none)) (pe_tup (pa_cons (pe_tup (pa_cons (pv 2) (pa_cons (pv 6) pa_nil))) pa_nil))) (pa_cons (pv 4) pa_nil))))) pss_nil)
      (pss_cons (ps_if (pt_cmpR op_eq (pv 3) pe_int (nomark _)) (pss_one (ps_ret (pe_tup (pa_cons (pe_op op_catA (pv 1) (pe_tup (pa_cons (pe_tup (pa_cons (pv 2) (pa_cons (pv 6) pa_nil))) pa_nil))) (pa_cons (pe_callB call_len_seq (by rfl) N.len PySem.boot_len (pa_cons (pv 1) pa_nil)) pa_nil))))) pss_nil)
      (pss_cons (ps_if (pt_cmpR op_eq (pv 3) pe_int (nomark _)) (pss_one (ps_ret (pe_tup (pa_cons (pe_slice sl_tupA (pv 1) po_none (po_some (pv 4))) (pa_cons (pv 4) pa_nil))))) pss_nil)
      (pss_cons (ps_if (pt_cmpR op_eq (pv 3) pe_int (nomark _)) (pss_one (ps_ret (pe_tup (pa_cons (pe_op op_catA (pe_slice sl_tupA (pv 1) po_none (po_some (pv 4))) (pe_slice sl_tupA (pv 1) (po_some (pe_op op_add (pv 4) pe_int)) po_none)) (pa_cons (pv 4) pa_nil))))) pss_nil)
      (pss_cons (ps_set (i := 7) scLz.nd rfl (Or.inl rfl) (pe_call G__law_pick (hr.mono (by decide)) (by rfl) C__law_pick.g C__law_pick.kp C__law_pick.b .nil pass0 (pa_cons (pv 0) (pa_cons (pe_lst (pa_cons pe_str (pa_cons pe_str (pa_cons pe_str (pa_cons pe_str (pa_cons pe_str (pa_cons pe_str (pa_cons pe_str (pa_cons pe_int (pa_cons pe_non (pa_cons (pe_tup (pa_cons pe_str pa_nil)) pa_nil))))))))))) pa_nil))))
      (pss_cons (ps_set (i := 8) scLz.nd rfl (Or.inl rfl) (pe_ix ix_list (pe_lst (pa_cons (pe_tup (pa_cons (pv 2) (pa_cons (pv 6) pa_nil))) (pa_cons (pe_tup (pa_cons (pv 5) (pa_cons (pv 7) pa_nil))) (pa_cons (pe_tup (pa_cons (pv 7) (pa_cons (pv 6) pa_nil))) (pa_cons (pe_tup (pa_cons (pv 5) (pa_cons (pv 6) (pa_cons (pv 6) pa_nil)))) (pa_cons (pe_lst (pa_cons (pv 5) (pa_cons (pv 6) pa_nil))) pa_nil)))))) (pe_op op_sub (pv 3) pe_int) (fun _ _ => rfl)))
      (pss_one (ps_ret (pe_tup (pa_cons (pe_op op_catA (pe_op op_catA (pe_slice sl_tupA (pv 1) po_none (po_some (pv 4))) (pe_tup (pa_cons (pv 8) pa_nil))) (pe_slice sl_tupA (pv 1) (po_some (pe_op op_add (pv 4) pe_int)) po_none)) (pa_cons (pv 4) pa_nil)))))))))))))), ?_⟩
    have jx : offX x H x = none := offX_none
    have S0 : BSt (offX x H) x H := BSt.self hx
    have hPJ : offX x H p = some (.frz ob (.tup (ps.map fun q => V.ref q.1))) := offX_get (box_ne hx hP (fun _ _ e => nomatch e)) hP
    have hpsJ : ∀ q ∈ ps, offX x H q.1 = some (.tup [.str q.2.1, .str q.2.2]) := fun q hq => offX_get (box_ne hx (hps q hq) (fun _ _ e => nomatch e)) (hps q hq)
    have fin : ∀ (Hk : Hp) (v : V) (n : Int) (qq : Addr), BSt (offX x H) x Hk → SpOk K Hk (ps.map (·.2.1)) v n → Hk qq = none → Q (.ref qq) (upd Hk qq (.tup [v, .int n])) := fun Hk v n qq S h nq =>
      q _ qq v n (fun c u ne e => (S.new (o := .tup [v, .int n]) nq).s c u (offX_get ne e)) (S.new nq).b upd_same (h.mono (same_new nq))
    generalize offX x H = J at jx S0 hPJ hpsJ fin
    have sqP : ∀ {Hk : Hp}, BSt J x Hk → SqT K Hk p (ps.map fun q => V.ref q.1) := fun S => .inl (.inr ⟨ob, S.s _ _ hPJ⟩)
    have hpsA : ∀ {Hk : Hp}, BSt J x Hk → ∀ q ∈ ps, Hk q.1 = some (.tup [.str q.2.1, .str q.2.2]) ∧ isName q.2.1 = true ∧ isName q.2.2 = true := fun S q hq => ⟨S.s _ _ (hpsJ q hq), nms q hq⟩
    have lps : (ps.map fun q => V.ref q.1).length = ps.length := List.length_map _
    refine ⟨_, rfl, x, 11, rfl, hx, by decide, by decide, fun r H1 hr1 k1 b1 => ?_⟩
    have S1 := S0.but jx k1 b1
    refine ⟨_, rfl, _, rfl, p, _, rfl, .inr (sqP S1), x, ps.length, by rw [lps]; rfl, b1, h0, by omega, fun t H2 ht k2 b2 => ?_⟩
    have S2 := S1.but jx k2 b2
    have hq : ps[t]? = some (ps[t]'ht) := List.getElem?_eq_getElem ht
    generalize ps[t]'ht = q0 at hq
    have hqm := List.mem_of_getElem? hq
    have hqv : (ps.map fun q => V.ref q.1)[t]? = some (.ref q0.1) := by rw [List.getElem?_map, hq]; rfl
    have hdt : (ps.map (·.2.1))[t]? = some q0.2.1 := by rw [List.getElem?_map, hq]; rfl
    have nd : isName q0.2.1 = true := (nms q0 hqm).1
    have nk : isName q0.2.2 = true := (nms q0 hqm).2
    refine ⟨_, rfl, .int (t : Nat), rfl, p, _, _, .ref q0.1, rfl, rfl, sqP S2, atI_nat hqv, q0.1, _, rfl, sqT_new (S2.s _ _ (hpsJ q0 hqm)), rfl, _, _, rfl, _, _, rfl, rfl, ?_⟩
    refine ⟨_, rfl, rfl, _, rfl, ite2 (fun c => ?_) (fun c90 => ?_)⟩
    · -- no tuple
      refine ⟨_, rfl, _, rfl, p, _, rfl, .inr (sqP S2), fun l nl => ?_⟩
      have S3 := S2.new (o := .lst (ps.map fun q => V.ref q.1)) nl
      have el : upd H2 l (.lst (ps.map fun q => V.ref q.1)) l = some (.lst (ps.map fun q => V.ref q.1)) := upd_same
      have nlx := Box.ne S2.b nl
      generalize upd H2 l (.lst (ps.map fun q => V.ref q.1)) = H3 at S3 el
      refine ⟨_, rfl, p, ob, ps.map (·.1), ps.map (fun q => (Sum.inr q.2.1, V.str q.2.2)), rfl, by rw [List.map_map]; exact S3.s _ _ hPJ, hob, ?_, fun d nd => ?_⟩
      · have : ∀ qs : List DP, (∀ q ∈ qs, q ∈ ps) → Paired (fun (p : Addr) (kv : L2.Key × V) => SqT K H3 p [kV kv.1, kv.2]) (qs.map (·.1)) (qs.map (fun q => ((Sum.inr q.2.1 : L2.Key), V.str q.2.2))) := by
          intro qs
          induction qs with
          | nil => exact fun _ => .nil
          | cons q qs ih => exact fun h => .cons (sqT_new (S3.s _ _ (hpsJ q (h q List.mem_cons_self)))) (ih fun y hy => h y (List.mem_cons_of_mem _ hy))
        exact this ps fun _ h => h
      have ndx := Box.ne S3.b nd
      have S4 := S3.new (o := .dK (mergeK [] (ps.map (fun q => (Sum.inr q.2.1, V.str q.2.2))))) nd
      have ed : upd H3 d (.dK (mergeK [] (ps.map (fun q => (Sum.inr q.2.1, V.str q.2.2))))) d = some (.dK (mergeK [] (ps.map (fun q => (Sum.inr q.2.1, V.str q.2.2))))) := upd_same
      have el := same_new (o := .dK (mergeK [] (ps.map (fun q => (Sum.inr q.2.1, V.str q.2.2))))) nd _ _ el
      generalize upd H3 d (.dK (mergeK [] (ps.map (fun q => (Sum.inr q.2.1, V.str q.2.2))))) = H4 at S4 ed el
      refine ⟨smallE (by show 6 ≤ 1000000; decide), fun a na => ?_⟩
      have s5 := same_new (o := .lst [.ref l, .non, .int 7, .str "ab", .bl true, .ref d]) na
      refine ⟨x, a, [.ref l, .non, .int 7, .str "ab", .bl true, .ref d], rfl, (S4.new na).b, Box.ne S4.b na, .inl upd_same, Nat.succ_pos _, by show 6 < 1000000; decide, fun i v H5 hv k5 b5 => ?_⟩
      have S5 := (S4.new na).but jx k5 b5
      have el := k5 _ _ nlx (s5 _ _ el)
      have ed := k5 _ _ ndx (s5 _ _ ed)
      refine ⟨0, 1, rfl, rfl, smallE (by show 2 ≤ 1000000; decide), fun qq nq => ?_⟩
      refine fin H5 v (-1) qq S5 (.inl ?_) nq
      rcases i with _ | _ | _ | _ | _ | _ | i
      · cases hv
        exact ⟨"list", .base (.lst el), rfl, rfl⟩
      · cases hv
        exact ⟨"NoneType", .base .non, rfl, rfl⟩
      · cases hv
        exact ⟨"int", .base (.int _), rfl, rfl⟩
      · cases hv
        exact ⟨"str", .base (.str _), rfl, rfl⟩
      · cases hv
        exact ⟨"bool", .base (.bl _), rfl, rfl⟩
      · cases hv
        exact ⟨"dict", .base (.dK ed), rfl, rfl⟩
      · cases hv
    refine ⟨_, rfl, _, _, rfl, rfl, _, rfl, ite2 (fun c => ?_) (fun c91 => ?_)⟩
    · -- a pair that is none, and one more behind
      refine ⟨_, rfl, .int (t : Nat), rfl, (t : Nat), rfl, ?_⟩
      refine slA_pre (n := t) (by omega) (sqP S2) fun H3 c1 s3 hc1 => ?_
      have S3 := S2.same s3
      refine ⟨_, rfl, ?_⟩
      refine ⟨Nat.zero_le _, fun e1 ne1 => ⟨smallE (by show 1 ≤ 1000000; decide), fun e2 ne2 => ?_⟩⟩
      have S4 := S3.new (o := .tup []) ne1
      have s4 := same_new (o := .tup []) ne1
      have h1 : upd H3 e1 (.tup []) e1 = some (.tup []) := upd_same
      generalize upd H3 e1 (.tup []) = H4 at S4 s4 h1 ne2
      have S5 := S4.new (o := .tup [.ref e1]) ne2
      have s5 := same_new (o := .tup [.ref e1]) ne2
      have h2 : upd H4 e2 (.tup [.ref e1]) e2 = some (.tup [.ref e1]) := upd_same
      generalize upd H4 e2 (.tup [.ref e1]) = H5 at S5 s5 h2
      refine ⟨.str q0.2.1, rfl, smallE (by show 1 ≤ 1000000; decide), fun e3 ne3 => ⟨smallE (by show 1 ≤ 1000000; decide), fun e4 ne4 => ?_⟩⟩
      have S6 := S5.new (o := .tup [.str q0.2.1]) ne3
      have s6 := same_new (o := .tup [.str q0.2.1]) ne3
      have h3 : upd H5 e3 (.tup [.str q0.2.1]) e3 = some (.tup [.str q0.2.1]) := upd_same
      generalize upd H5 e3 (.tup [.str q0.2.1]) = H6 at S6 s6 h3 ne4
      have S7 := S6.new (o := .tup [.ref e3]) ne4
      have s7 := same_new (o := .tup [.ref e3]) ne4
      have h4 : upd H6 e4 (.tup [.ref e3]) e4 = some (.tup [.ref e3]) := upd_same
      generalize upd H6 e4 (.tup [.ref e3]) = H7 at S7 s7 h4
      refine ⟨.str z, rfl, .str q0.2.2, rfl, smallE (by show 2 ≤ 1000000; decide), fun e5 ne5 => ⟨smallE (by show 1 ≤ 1000000; decide), fun e6 ne6 => ?_⟩⟩
      have S8 := S7.new (o := .tup [.str z, .str q0.2.2]) ne5
      have s8 := same_new (o := .tup [.str z, .str q0.2.2]) ne5
      have h5 : upd H7 e5 (.tup [.str z, .str q0.2.2]) e5 = some (.tup [.str z, .str q0.2.2]) := upd_same
      generalize upd H7 e5 (.tup [.str z, .str q0.2.2]) = H8 at S8 s8 h5 ne6
      have S9 := S8.new (o := .tup [.ref e5]) ne6
      have s9 := same_new (o := .tup [.ref e5]) ne6
      have h6 : upd H8 e6 (.tup [.ref e5]) e6 = some (.tup [.ref e5]) := upd_same
      generalize upd H8 e6 (.tup [.ref e5]) = H9 at S9 s9 h6
      refine ⟨smallE (by show 3 ≤ 1000000; decide), fun a na => ?_⟩
      have s10 := same_new (o := .lst [.ref e2, .ref e4, .ref e6]) na
      have SA := S9.new (o := .lst [.ref e2, .ref e4, .ref e6]) na
      have ea : upd H9 a (.lst [.ref e2, .ref e4, .ref e6]) a = some (.lst [.ref e2, .ref e4, .ref e6]) := upd_same
      have nax := Box.ne S9.b na
      -- all that is known is kept under one roof
      have c1x : SqT K (offX x H3) c1 ((ps.map fun q => V.ref q.1).take t) := by
        rcases hc1 with (h | ⟨o, h⟩) | h
        · exact .inl (.inl (offX_get (box_ne S3.b h (fun _ _ e => nomatch e)) h))
        · exact .inl (.inr ⟨o, offX_get (box_ne S3.b h (fun _ _ e => nomatch e)) h⟩)
        · exact .inr h
      have s3A : Same H3 (upd H9 a (.lst [.ref e2, .ref e4, .ref e6])) := fun b o e => s10 _ _ (s9 _ _ (s8 _ _ (s7 _ _ (s6 _ _ (s5 _ _ (s4 _ _ e))))))
      have h1 := s10 _ _ (s9 _ _ (s8 _ _ (s7 _ _ (s6 _ _ (s5 _ _ h1)))))
      have h2 := s10 _ _ (s9 _ _ (s8 _ _ (s7 _ _ (s6 _ _ h2))))
      have h3 := s10 _ _ (s9 _ _ (s8 _ _ (s7 _ _ h3)))
      have h4 := s10 _ _ (s9 _ _ (s8 _ _ h4))
      have h5 := s10 _ _ (s9 _ _ h5)
      have h6 := s10 _ _ h6
      generalize upd H9 a (.lst [.ref e2, .ref e4, .ref e6]) = HA at SA ea s3A h1 h2 h3 h4 h5 h6
      clear s10 s9 s8 s7 s6 s5 s4 S4 S5 S6 S7 S8 S9 ne1 ne2 ne3 ne4 ne5 ne6 na
      have tx : ∀ {c : Addr} {xs : List V}, HA c = some (.tup xs) → c ≠ x := fun h => box_ne SA.b h (fun _ _ e => nomatch e)
      refine ⟨x, a, [.ref e2, .ref e4, .ref e6], rfl, SA.b, nax, .inl ea, Nat.succ_pos _, by show 3 < 1000000; decide, fun i v HB hv kB bB => ?_⟩
      have SB := SA.but jx kB bB
      have k3B : Same (offX x H3) HB := fun c u e => kB _ _ (offX_of e).1 (s3A _ _ (offX_of e).2)
      have hc1B := Same.sqT k3B c1x
      obtain ⟨b, y, rfl, hb, hy⟩ : ∃ b y : Addr, v = .ref b ∧ HB b = some (.tup [.ref y]) ∧ PairV K HB q0.2.1 (.ref y) false := by
        rcases i with _ | _ | _ | i
        · cases hv
          exact ⟨e2, e1, rfl, kB _ _ (tx h2) h2, .size (sqT_new (kB _ _ (tx h1) h1)) (by decide)⟩
        · cases hv
          exact ⟨e4, e3, rfl, kB _ _ (tx h4) h4, .size (sqT_new (kB _ _ (tx h3) h3)) (by show 1 ≠ 2; decide)⟩
        · cases hv
          exact ⟨e6, e5, rfl, kB _ _ (tx h6) h6, pair_other (kB _ _ (tx h5) h5) (nz q0 hqm) hz nk⟩
        · cases hv
      clear hv kB bB k3B c1x tx h1 h2 h3 h4 h5 h6 s3A ea
      refine catA_any hc1B (sqT_new hb) (by rw [List.length_take]; show _ + 1 ≤ _; omega) fun HC c2 sC hc2 => ?_
      have SC := SB.same sC
      refine ⟨_, rfl, _, rfl, _, 1, rfl, rfl, _, rfl, ?_⟩
      dsimp only [tNoPart]
      rw [show (t : Int) + 1 = ((t + 1 : Nat) : Int) from rfl]
      refine slA_suf (n := t + 1) (by omega) (sqP SC) fun HD c3 sD hc3 => ?_
      have SD := SC.same sD
      refine catA_any (Same.sqT sD hc2) hc3 (by rw [List.length_append, List.length_take, List.length_drop]; show _ + 1 + _ ≤ _; omega) fun HE c4 sE hc4 => ?_
      have SE := SD.same sE
      refine ⟨.str z, rfl, .str q0.2.2, rfl, smallE (by show 2 ≤ 1000000; decide), fun e7 ne7 => ⟨smallE (by show 1 ≤ 1000000; decide), fun e8 ne8 => ?_⟩⟩
      have s7 := same_new (o := .tup [.str z, .str q0.2.2]) ne7
      have S7 := SE.new (o := .tup [.str z, .str q0.2.2]) ne7
      have s8 := same_new (o := .tup [.ref e7]) ne8
      have S8 := S7.new (o := .tup [.ref e7]) ne8
      have hc4 := Same.sqT s8 (Same.sqT s7 hc4)
      have h8 : upd (upd HE e7 (.tup [.str z, .str q0.2.2])) e8 (.tup [.ref e7]) e8 = some (.tup [.ref e7]) := upd_same
      have hy := ((((hy.mono sC).mono sD).mono sE).mono s7).mono s8
      generalize upd (upd HE e7 (.tup [.str z, .str q0.2.2])) e8 (.tup [.ref e7]) = HF at S8 hc4 h8 hy
      refine catA_any hc4 (sqT_new h8) (by rw [List.length_append, List.length_append, List.length_take, List.length_drop]; show _ + 1 + _ + 1 ≤ _; omega) fun HG c5 sG hc5 => ?_
      have SG := S8.same sG
      refine ⟨_, rfl, smallE (by show 2 ≤ 1000000; decide), fun qq nq => ?_⟩
      refine fin HG (.ref c5) (t : Nat) qq SG (sp_mk (ys := .ref y :: ((ps.map fun q => V.ref q.1).drop (t + 1) ++ [.ref e7])) (by omega) (by have h := hc5; simp only [List.append_assoc, List.cons_append, List.nil_append] at h; exact h) (hpsA SG) ?_ (.inl ⟨_, _, rfl, fun d hd => ?_⟩)) nq
      · rw [List.length_cons, List.length_append, List.length_drop]
        show t + (_ + 1 + 1) ≤ 100
        omega
      · rw [hdt] at hd
        cases hd
        exact hy.mono sG
    refine ⟨_, rfl, rfl, _, rfl, ite2 (fun c => ?_) (fun c92 => ?_)⟩
    · -- one more
      refine ⟨_, rfl, ?_⟩
      refine ⟨.str z, rfl, .str q0.2.2, rfl, smallE (by show 2 ≤ 1000000; decide), fun e7 ne7 => ⟨smallE (by show 1 ≤ 1000000; decide), fun e8 ne8 => ?_⟩⟩
      have S7 := S2.new (o := .tup [.str z, .str q0.2.2]) ne7
      have S8 := S7.new (o := .tup [.ref e7]) ne8
      refine catA_any (sqP S8) (sqT_new upd_same) (by rw [lps]; show _ + 1 ≤ _; omega) fun HG c5 sG hc5 => ?_
      have SG := S8.same sG
      refine ⟨_, rfl, p, _, rfl, .inr (sqP SG), smallE (by show 2 ≤ 1000000; decide), fun qq nq => ?_⟩
      refine fin HG (.ref c5) _ qq SG ?_ nq
      rw [lps]
      refine sp_mk (ys := [.ref e7]) (Nat.le_refl _) ?_ (hpsA SG) (by show ps.length + 1 ≤ 100; omega) (.inl ⟨_, _, rfl, fun d hd => ?_⟩)
      · rw [List.take_of_length_le (by rw [lps]; exact Nat.le_refl _)]
        exact hc5
      · have := lt_of_get hd
        rw [List.length_map] at this
        omega
    refine ⟨_, rfl, rfl, _, rfl, ite2 (fun c => ?_) (fun c93 => ?_)⟩
    · -- too few
      refine ⟨_, rfl, .int (t : Nat), rfl, (t : Nat), rfl, ?_⟩
      refine slA_pre (n := t) (by omega) (sqP S2) fun H3 c1 s3 hc1 => ?_
      have S3 := S2.same s3
      refine ⟨_, rfl, smallE (by show 2 ≤ 1000000; decide), fun qq nq => ?_⟩
      exact fin H3 (.ref c1) (t : Nat) qq S3 (sp_mk (ys := []) (by omega) (by rw [List.append_nil]; exact hc1) (hpsA S3) (by show t + 0 ≤ 100; omega) (.inr ⟨rfl, ht⟩)) nq
    refine ⟨_, rfl, rfl, _, rfl, ite2 (fun c => ?_) (fun c94 => ?_)⟩
    · -- one left out
      refine ⟨_, rfl, .int (t : Nat), rfl, (t : Nat), rfl, ?_⟩
      refine slA_pre (n := t) (by omega) (sqP S2) fun H3 c1 s3 hc1 => ?_
      have S3 := S2.same s3
      refine ⟨_, rfl, _, rfl, _, 1, rfl, rfl, _, rfl, ?_⟩
      dsimp only [tNoPart]
      rw [show (t : Int) + 1 = ((t + 1 : Nat) : Int) from rfl]
      refine slA_suf (n := t + 1) (by omega) (sqP S3) fun H4 c3 s4 hc3 => ?_
      have S4 := S3.same s4
      refine catA_any (Same.sqT s4 hc1) hc3 (by rw [List.length_take, List.length_drop]; omega) fun HG c5 sG hc5 => ?_
      have SG := S4.same sG
      refine ⟨_, rfl, smallE (by show 2 ≤ 1000000; decide), fun qq nq => ?_⟩
      refine fin HG (.ref c5) (t : Nat) qq SG (sp_mk (ys := (ps.map fun q => V.ref q.1).drop (t + 1)) (by omega) hc5 (hpsA SG) (by rw [List.length_drop]; omega) ?_) nq
      cases hd : ps[t + 1]? with
      | none =>
        have := List.getElem?_eq_none_iff.mp hd
        exact .inr ⟨List.drop_eq_nil_of_le (by omega), ht⟩
      | some q1 =>
        refine .inl ⟨.ref q1.1, (ps.map fun q => V.ref q.1).drop (t + 2), ?_, fun d hd2 => ?_⟩
        · exact drop_of_get (by rw [List.getElem?_map, hd]; rfl)
        · rw [hdt] at hd2
          cases hd2
          obtain ⟨g1, g2, g3⟩ := hpsA SG q1 (List.mem_of_getElem? hd)
          refine pair_other g1 (fun e => ?_) g2 g3
          have e1 : (ps.map (·.2.1))[t + 1]? = some q0.2.1 := by rw [List.getElem?_map, hd, ← e]; rfl
          have := (List.getElem?_inj (by rw [List.length_map]; exact ht) ok.nd).mp (hdt.trans e1.symm)
          omega
    -- one pair changed
    refine ⟨_, rfl, smallE (by show 1 ≤ 1000000; decide), fun e1 ne1 => ⟨smallE (by show 10 ≤ 1000000; decide), fun a na => ?_⟩⟩
    have S3 := S2.new (o := .tup [.str "a"]) ne1
    have h1 : upd H2 e1 (.tup [.str "a"]) e1 = some (.tup [.str "a"]) := upd_same
    generalize upd H2 e1 (.tup [.str "a"]) = H3 at S3 h1 na
    have S4 := S3.new (o := .lst [.str "", .str "Ab", .str "abcdef", .str "a b", .str "a1", .str "ab\n", .str "a-", .int 7, .non, .ref e1]) na
    have h1 := same_new (o := .lst [.str "", .str "Ab", .str "abcdef", .str "a b", .str "a1", .str "ab\n", .str "a-", .int 7, .non, .ref e1]) na _ _ h1
    have h1x := box_ne S4.b h1 (fun _ _ e => nomatch e)
    refine ⟨x, a, [.str "", .str "Ab", .str "abcdef", .str "a b", .str "a1", .str "ab\n", .str "a-", .int 7, .non, .ref e1], rfl, S4.b, Box.ne S3.b na, .inl upd_same, Nat.succ_pos _, by show 10 < 1000000; decide, fun i v H5 hv k5 b5 => ?_⟩
    have S5 := S4.but jx k5 b5
    obtain ⟨o, no, io⟩ : ∃ o, NV K H5 v o ∧ isN o = false := by
      have h1 := k5 _ _ h1x h1
      have st : ∀ s : Str, s.length ≤ 1000000 → isName s = false → ∃ o, NV K H5 (.str s) o ∧ isN o = false := fun s h1 h2 => ⟨some s, .inr ⟨s, rfl, rfl, smallE h1⟩, h2⟩
      rcases i with _ | _ | _ | _ | _ | _ | _ | _ | _ | _ | i
      · cases hv
        exact st _ (by decide +kernel) (by decide +kernel)
      · cases hv
        exact st _ (by decide +kernel) (by decide +kernel)
      · cases hv
        exact st _ (by decide +kernel) (by decide +kernel)
      · cases hv
        exact st _ (by decide +kernel) (by decide +kernel)
      · cases hv
        exact st _ (by decide +kernel) (by decide +kernel)
      · cases hv
        exact st _ (by decide +kernel) (by decide +kernel)
      · cases hv
        exact st _ (by decide +kernel) (by decide +kernel)
      · cases hv
        exact ⟨none, .inl ⟨rfl, "int", .base (.int _), rfl⟩, rfl⟩
      · cases hv
        exact ⟨none, .inl ⟨rfl, "NoneType", .base .non, rfl⟩, rfl⟩
      · cases hv
        exact ⟨none, .inl ⟨rfl, "tuple", .base (.tup h1), rfl⟩, rfl⟩
      · cases hv
    clear k5 b5 h1x h1 S4 S3
    refine ⟨.str z, rfl, .str q0.2.2, rfl, smallE (by show 2 ≤ 1000000; decide), fun g1 n1 => ?_⟩
    have S6 := S5.new (o := .tup [.str z, .str q0.2.2]) n1
    have s6 := same_new (o := .tup [.str z, .str q0.2.2]) n1
    have f1 : upd H5 g1 (.tup [.str z, .str q0.2.2]) g1 = some (.tup [.str z, .str q0.2.2]) := upd_same
    generalize upd H5 g1 (.tup [.str z, .str q0.2.2]) = H6 at S6 s6 f1
    refine ⟨.str q0.2.1, rfl, v, rfl, smallE (by show 2 ≤ 1000000; decide), fun g2 n2 => ?_⟩
    have S7 := S6.new (o := .tup [.str q0.2.1, v]) n2
    have s7 := same_new (o := .tup [.str q0.2.1, v]) n2
    have f2 : upd H6 g2 (.tup [.str q0.2.1, v]) g2 = some (.tup [.str q0.2.1, v]) := upd_same
    generalize upd H6 g2 (.tup [.str q0.2.1, v]) = H7 at S7 s7 f2
    refine ⟨v, rfl, .str q0.2.2, rfl, smallE (by show 2 ≤ 1000000; decide), fun g3 n3 => ?_⟩
    have S8 := S7.new (o := .tup [v, .str q0.2.2]) n3
    have s8 := same_new (o := .tup [v, .str q0.2.2]) n3
    have f3 : upd H7 g3 (.tup [v, .str q0.2.2]) g3 = some (.tup [v, .str q0.2.2]) := upd_same
    generalize upd H7 g3 (.tup [v, .str q0.2.2]) = H8 at S8 s8 f3
    refine ⟨.str q0.2.1, rfl, .str q0.2.2, rfl, .str q0.2.2, rfl, smallE (by show 3 ≤ 1000000; decide), fun g4 n4 => ?_⟩
    have S9 := S8.new (o := .tup [.str q0.2.1, .str q0.2.2, .str q0.2.2]) n4
    have s9 := same_new (o := .tup [.str q0.2.1, .str q0.2.2, .str q0.2.2]) n4
    have f4 : upd H8 g4 (.tup [.str q0.2.1, .str q0.2.2, .str q0.2.2]) g4 = some (.tup [.str q0.2.1, .str q0.2.2, .str q0.2.2]) := upd_same
    generalize upd H8 g4 (.tup [.str q0.2.1, .str q0.2.2, .str q0.2.2]) = H9 at S9 s9 f4
    refine ⟨.str q0.2.1, rfl, .str q0.2.2, rfl, smallE (by show 2 ≤ 1000000; decide), fun g5 n5 => ?_⟩
    have SA := S9.new (o := .lst [.str q0.2.1, .str q0.2.2]) n5
    have sA := same_new (o := .lst [.str q0.2.1, .str q0.2.2]) n5
    have f5 : upd H9 g5 (.lst [.str q0.2.1, .str q0.2.2]) g5 = some (.lst [.str q0.2.1, .str q0.2.2]) := upd_same
    generalize upd H9 g5 (.lst [.str q0.2.1, .str q0.2.2]) = HA at SA sA f5
    refine ⟨smallE (by show 5 ≤ 1000000; decide), fun l nl => ?_⟩
    have SB := SA.new (o := .lst [.ref g1, .ref g2, .ref g3, .ref g4, .ref g5]) nl
    have sB := same_new (o := .lst [.ref g1, .ref g2, .ref g3, .ref g4, .ref g5]) nl
    have f6 : upd HA l (.lst [.ref g1, .ref g2, .ref g3, .ref g4, .ref g5]) l = some (.lst [.ref g1, .ref g2, .ref g3, .ref g4, .ref g5]) := upd_same
    generalize upd HA l (.lst [.ref g1, .ref g2, .ref g3, .ref g4, .ref g5]) = HB at SB sB f6
    have no := (((((no.mono s6).mono s7).mono s8).mono s9).mono sA).mono sB
    have f1 := sB _ _ (sA _ _ (s9 _ _ (s8 _ _ (s7 _ _ f1))))
    have f2 := sB _ _ (sA _ _ (s9 _ _ (s8 _ _ f2)))
    have f3 := sB _ _ (sA _ _ (s9 _ _ f3))
    have f4 := sB _ _ (sA _ _ f4)
    have f5 := sB _ _ f5
    have c5 : r ≠ 0 ∧ r ≠ 1 ∧ r ≠ 2 ∧ r ≠ 3 ∧ ¬ 8 < r := by
      refine ⟨fun e => c90 ?_, fun e => c92 ?_, fun e => c93 ?_, fun e => c94 ?_, fun e => c91 ?_⟩
      · rw [e]; rfl
      · rw [e]; rfl
      · rw [e]; rfl
      · rw [e]; rfl
      · exact decide_eq_true (by omega)
    obtain ⟨cg, hcg, bad⟩ : ∃ cg : Addr, [V.ref g1, V.ref g2, V.ref g3, V.ref g4, V.ref g5][r - 4]? = some (.ref cg) ∧ PairV K HB q0.2.1 (.ref cg) false := by
      have cases5 : r = 4 ∨ r = 5 ∨ r = 6 ∨ r = 7 ∨ r = 8 := by omega
      have nsome : ∀ s : Str, isName s = true → NV K HB (.str s) (some s) := fun s h => .inr ⟨s, rfl, rfl, name_len h⟩
      rcases cases5 with rfl | rfl | rfl | rfl | rfl
      · exact ⟨g1, rfl, pair_other f1 (nz q0 hqm) hz nk⟩
      · refine ⟨g2, rfl, ?_⟩
        have := PairV.pair (d := q0.2.1) (sqT_new (K := K) f2) (nsome _ nd) no
        rw [io, Bool.and_false, Bool.and_false] at this
        exact this
      · refine ⟨g3, rfl, ?_⟩
        have := PairV.pair (d := q0.2.1) (sqT_new (K := K) f3) no (nsome _ nk)
        rw [io, Bool.false_and] at this
        exact this
      · exact ⟨g4, rfl, .size (sqT_new f4) (by show 3 ≠ 2; decide)⟩
      · exact ⟨g5, rfl, .other (.base (.lst f5)) rfl⟩
    refine ⟨_, rfl, _, 4, rfl, rfl, l, _, _, .ref cg, rfl, rfl, sqL_new f6, ?_, ?_⟩
    · rw [show (r : Int) - 4 = ((r - 4 : Nat) : Int) by omega]
      exact atI_nat hcg
    refine ⟨_, rfl, .int (t : Nat), rfl, (t : Nat), rfl, ?_⟩
    refine slA_pre (n := t) (by omega) (sqP SB) fun HC c1 sC hc1 => ?_
    have SC := SB.same sC
    refine ⟨_, rfl, smallE (by show 1 ≤ 1000000; decide), fun e8 ne8 => ?_⟩
    have SD := SC.new (o := .tup [.ref cg]) ne8
    have sD := same_new (o := .tup [.ref cg]) ne8
    have h8 : upd HC e8 (.tup [.ref cg]) e8 = some (.tup [.ref cg]) := upd_same
    generalize upd HC e8 (.tup [.ref cg]) = HD at SD sD h8
    refine catA_any (Same.sqT sD hc1) (sqT_new h8) (by rw [List.length_take]; show _ + 1 ≤ _; omega) fun HE c2 sE hc2 => ?_
    have SE := SD.same sE
    refine ⟨_, rfl, _, rfl, _, 1, rfl, rfl, _, rfl, ?_⟩
    dsimp only [tNoPart]
    rw [show (t : Int) + 1 = ((t + 1 : Nat) : Int) from rfl]
    refine slA_suf (n := t + 1) (by omega) (sqP SE) fun HF c3 sF hc3 => ?_
    have SF := SE.same sF
    refine catA_any (Same.sqT sF hc2) hc3 (by rw [List.length_append, List.length_take, List.length_drop]; show _ + 1 + _ ≤ _; omega) fun HG c4 sG hc4 => ?_
    have SG := SF.same sG
    refine ⟨_, rfl, smallE (by show 2 ≤ 1000000; decide), fun qq nq => ?_⟩
    refine fin HG (.ref c4) (t : Nat) qq SG (sp_mk (ys := .ref cg :: (ps.map fun q => V.ref q.1).drop (t + 1)) (by omega) (by have h := hc4; simp only [List.append_assoc, List.cons_append, List.nil_append] at h; exact h) (hpsA SG) ?_ (.inl ⟨_, _, rfl, fun d hd => ?_⟩)) nq
    · rw [List.length_cons, List.length_drop]
      omega
    · rw [hdt] at hd
      cases hd
      exact ((((bad.mono sC).mono sD).mono sE).mono sF).mono sG
end
end Kb
/-! l[::-1] of a list. -/
namespace Ka
open PySem PySem.Spec PyProof.Rows L2 HT
theorem pick_back (xs : Array Value) : slicePick xs none none (some (-1)) = xs.toList.reverse.toArray := by
  unfold slicePick
  congr 1
  have hb : sliceBounds none none (some (-1)) xs.size = ((xs.size : Int) - 1, -1, -1) := by
    unfold sliceBounds
    simp
  rw [hb]
  dsimp only
  unfold sliceRange
  have hc : (if ((-1 : Int) > 0) then (if ((xs.size : Int) - 1 < -1) then (-1 - ((xs.size : Int) - 1) + -1 - 1) / -1 else 0) else (if ((xs.size : Int) - 1 > -1) then (((xs.size : Int) - 1) - -1 - -1 - 1) / (- -1) else 0)) = (xs.size : Int) := by
    rw [if_neg (by decide)]
    by_cases h : xs.size = 0
    · rw [h]
      rfl
    · rw [if_pos (by omega), show (-(-1 : Int)) = 1 by decide, Int.ediv_one]
      omega
  rw [hc]
  show List.filterMap (fun x => xs[x]?) (List.map (fun (k : Nat) => ((xs.size : Int) - 1 + -1 * (k : Int)).toNat) (List.range xs.size)) = _
  rw [List.filterMap_map]
  rw [← back_items xs]
  have hf : ((fun x => xs[x]?) ∘ fun (k : Nat) => ((xs.size : Int) - 1 + -1 * (k : Int)).toNat) = fun (k : Nat) => xs[((xs.size : Int) - 1 + (k : Int) * -1).toNat]? := by
    funext k
    show xs[((xs.size : Int) - 1 + -1 * (k : Int)).toNat]? = _
    rw [show (-1 : Int) * (k : Int) = (k : Int) * -1 by omega]
  rw [hf]
def tRevS (K : PySem.W.Frag) (te : TE) : TE := fun σ H Q => te σ H fun x H1 => ∃ a xs, x = .ref a ∧ SqL K H1 a xs ∧ ∀ p, H1 p = none → Q (.ref p) (upd H1 p (.lst xs.reverse))
theorem pe_revS {X : Cx} {e : Expr} {te : TE} {k : Nat} {p1 p2 p3 pos : Pos} (he : PE X e te) : PE X (.Subscript e (.Slice none none (some (.UnaryOp .USub (.Constant (.int 1) k p1) p2)) p3) pos) (tRevS X.K te) := by
  refine ⟨fun pins s σ H Q I h => Subscript_ (thn (he.run pins s σ H _ I h) fun v s1 ⟨x, H1, I1, r1, a, xs, ex, hx, q⟩ => ?_)⟩
  subst ex
  cases r1
  have hm : PO X (some (.UnaryOp .USub (.Constant (.int 1) k p1) p2)) (tPart (tUn (rU fun i => .int (-i)) (tC (.int 1)))) := po_some (pe_un un_neg pe_int)
  refine wpAny_Slice (thn (po_none.run pins s1 σ H1 (fun o H2 => o = none ∧ H2 = H1) I1 ⟨rfl, rfl⟩) fun vl s2 ⟨l, H2, I2, pl, el, e2⟩ => ?_)
  subst el e2
  refine thn (po_none.run pins s2 σ H2 (fun o H3 => o = none ∧ H3 = H2) I2 ⟨rfl, rfl⟩) fun vu s3 ⟨u, H3, I3, pu, eu, e3⟩ => ?_
  subst eu e3
  refine thn (hm.run pins s3 σ H3 (fun o H4 => o = some (-1) ∧ H4 = H3) I3 ⟨1, rfl, -1, rfl, rfl, rfl⟩) fun vs s4 ⟨o, H4, I4, ps, eo, e4⟩ => ?_
  subst eo e4
  have I5 : Inv X pins σ H4 { s4 with heap := s4.heap.push { cls := .type "slice", data := .fields #[vl, vu, vs] } } := I4.kept (t' := s4.toks) fun b ob z => Heap.get?_push_of_some _ z
  obtain ⟨its, r, ht, hz⟩ := I5.list hx
  have hl := r.length
  show wpAny (model X.prog X.w) X.A (subscriptTail e (.Slice none none (some (.UnaryOp .USub (.Constant (.int 1) k p1) p2)) p3) (.ref a) (.ref s4.heap.objs.size)) (EP X pins σ Q) X.xe { s4 with heap := s4.heap.push { cls := .type "slice", data := .fields #[vl, vu, vs] } }
  refine tail_any (ops := [.ref a, .ref s4.heap.objs.size]) ht.isList.typeIs slot_list_getitem.lookup ?_ (by with_unfolding_all rfl)
  refine wpAny_getItem_list_slice ht.isList (Heap.IsSliceOf.new _ vl vu vs) pl pu ps (by simp) ?_ (by rw [List.size_toArray]; omega)
  rw [pick_back]
  refine ⟨.ref _, _, I5.laid (t' := s4.toks) (o := .lst xs.reverse) (fun b ob z => Heap.get?_push_of_some _ z) (Nat.le_refl _) ?_, rfl, q _ (I5.hok.fresh (Nat.le_refl _))⟩
  exact ⟨by rw [List.length_reverse]; exact hz, _, 0, r.reverse, Heap.get?_push_size _ rfl⟩
end Ka
/-! X(e, ..), an own exception with an own __init__, as a value; isinstance of it. -/
namespace Ka
open PySem PySem.Spec PyProof.Rows L2
section
variable {X : Cx} {e : Expr} {es : List Expr} {ta : TA} {p pos : Pos}
def tExV (C : Addr) (sp : Sp) (dvs : List V) (ta : TA) : TE := fun σ H Q => ta σ H fun vs H1 => vs.length ≤ 1000 ∧ ∀ a, H1 a = none → sp (.ref a :: (vs ++ dvs)) (upd H1 a (exo a C none)) (fun v H2 => v = .non ∧ Q (.ref a) H2) (fun _ _ _ => False)
theorem pe_oex {CX : CXT} {x : Str} {C fI : Addr} {k : Nat} {fd : FuncData} {ps : List Str} {sp : Sp} {ds : List Value} {dvs : List V} (T : OexC X.K C) (iC : PySem.W.findIn X.K (.ref C) "__init__" = some (some (.ref fI))) (tI : PySem.W.typeIn X.K (.ref fI) = some (.type "function"))
    (F1 : FnOk X.prog X.w X.K X.mg X.base CX k fI fd ps sp) (hr : Room (k + 1) X.A) (hb : Binds X.K fd ps ds) (hd : Vals dvs ds) (hx : Passes CX X (fun _ _ _ => False)) (hg : Gl X x) (hm : X.mg x = some (.ref C)) (ha : PA X (e :: es) ta)
    (hdb : (x == ("__debug__" : Str)) = false := by decide) (he : starEach (e :: es) X.env = (false, eval e X.env) :: starEach es X.env := by rfl) (hpl : (backTo pos (starEach es X.env)).any (·.1) = false := by rfl) :
    PE X (.Call (.Name x p) (e :: es) [] pos) (tExV C sp dvs ta) := by
  refine ⟨fun pins s σ H Q I h => ?_⟩
  obtain ⟨nm, q, N, bs, bm, sn, sub, ab, col, dd, k0, k1, k2, k3, k5, hC, hbm⟩ := T.cls
  refine wpAny_Call_Name_kw (ld_glob I hg hm ?_ hdb)
  refine PySem.W.callWith_K (h₀ := X.base) I.ok.mod.kin T.kC (thn (ha.run pos pins s σ H _ I h) fun us s1 ⟨vs, H1, I1, r1, hz, q1⟩ => ⟨I1.kIn, ?_⟩) he hpl
  show wpAny _ _ (call (.ref C) us) _ _ _
  obtain ⟨hp, g, dr, tk, os⟩ := s1
  have hsz : hp.objs.size ≤ hp.objs.size + 1 := Nat.le_succ _
  have hn : H1 (hp.objs.size + 1) = none := I1.hok.fresh hsz
  have hq := q1 (hp.objs.size + 1) hn
  have kk : ∀ b o, hp.get? b = some o → ((hp.push (PySem.W.kdv_tup us)).push (PySem.HandSPX.excO C hp.objs.size)).get? b = some o := fun b o e => Heap.get?_push_of_some _ (Heap.get?_push_of_some _ e)
  have hget : ((hp.push (PySem.W.kdv_tup us)).push (PySem.HandSPX.excO C hp.objs.size)).get? (hp.objs.size + 1) = some (PySem.HandSPX.excO C hp.objs.size) := by heap_get
  have I2 : Inv X pins σ (upd H1 (hp.objs.size + 1) (exo (hp.objs.size + 1) C none)) ⟨(hp.push (PySem.W.kdv_tup us)).push (PySem.HandSPX.excO C hp.objs.size), g, dr, tk, os⟩ :=
    I1.laid (t' := tk) (a := hp.objs.size + 1) (o := exo (hp.objs.size + 1) C none) (h' := (hp.push (PySem.W.kdv_tup us)).push (PySem.HandSPX.excO C hp.objs.size)) kk hsz (exo_ok hget)
  have r2 : Vals (V.ref (hp.objs.size + 1) :: (vs ++ dvs)) (Value.ref (hp.objs.size + 1) :: (us ++ ds)) := .cons rfl (r1.append hd)
  have hl : (Value.ref (hp.objs.size + 1) :: us ++ ds).length = ps.length := by
    have e := r2.length
    rw [F1.len _ _ _ _ hq] at e
    exact e.symm
  have hus : us.length ≤ sizeLine := by
    rw [← Paired.length r1, sizeLine_eq]
    omega
  refine wpAny_call (PySem.HandSPX.call_own F.excBase_ValueError (fun Y => PySem.HandSPX.refsVE_contains Y bm hbm) (I1.kIn _ _ hC) (PySem.W.looks_findIn I1.kIn iC) (fun self => PySem.W.bind_fn I1.kIn self tI) hus
    (codeAny_mono (F1.run _ X.stack _ _ ⟨Value.ref (hp.objs.size + 1) :: us, []⟩ (Value.ref (hp.objs.size + 1) :: (us ++ ds)) _ _ (fun _ _ _ => False) (hr.make C us []) (I2.env0.make C us []) (hb _ (Value.ref (hp.objs.size + 1) :: us) I2.kIn hl) r2 hq) fun r s' hq' => ?_))
  cases r with
  | error er => exact hx pins σ _ _ er s' I2 hq'
  | ok fl =>
    cases fl with
    | ret u =>
      obtain ⟨v, H2, I3, rv, ev, q2⟩ := I2.after hq'
      subst ev
      exact ⟨rv, .ref (hp.objs.size + 1), H2, I3, rfl, q2⟩
    | next => exact False.elim hq'
    | brk => exact False.elim hq'
    | cont => exact False.elim hq'
def rIsO (K : PySem.W.Frag) (C : Addr) : List V → Hp → VK → Prop := fun xs H Q => ∃ (a d : Addr) (fs : List (Str × V)) (c : V) (cv : Value) (b : Bool), xs = [.ref a, c] ∧ H a = some (exo a C (some d)) ∧ H d = some (exd d fs) ∧ (∀ u, RelV c u → u = cv) ∧ PySem.W.kitOne K (.ref C) cv = some b ∧ Q (.bl b) H
theorem call_isO {C : Addr} (T : ExcC X.K C) (hcl : (PySem.W.clsIn X.K C).isSome = true) : CallR X (.builtin "isinstance") (rIsO X.K C) := by
  intro pins s σ H xs us Q I r h
  obtain ⟨a, d, fs, c, cv, b, rfl, ea, ed, hcv, e, q⟩ := h
  obtain ⟨u1, u2, rfl, r1, r2⟩ := vals2 r
  obtain rfl := hcv _ r2
  obtain rfl : u1 = Value.ref a := r1
  obtain ⟨t0, hoe⟩ := exo_at I.hok ea
  obtain ⟨mA, hns, rel⟩ := exd_at I.hok ed
  obtain ⟨od, ho, _⟩ := lookIn_ns hns
  have J : PySem.W.InstAt s.heap a ({ cls := .ref C, dict := some d, data := .fields #[.ref t0, .none, .none, .none, .bool false, .none] } : Obj) C (some od) := by
    refine ⟨hoe, rfl, rfl, ?_⟩
    exact ho
  exact PySem.W.kia_one (PySem.W.kitx_exc hcl T.hg T.hk T.hs T.ha T.hn T.ht T.hm) I.kIn J e (fun z => nomatch z) fun tk => ⟨.bl b, H, I.kept (t' := tk) fun _ _ z => z, rfl, q⟩
end
end Ka
namespace Kb
open PySem PySem.Spec PyProof.Rows L2
/-! ### for the law -/
theorem cr_setL2 {X : Cx} {P : Program} {w : World} (hp : X.prog = P) (hw : X.w = w) (hc : X.calm = true) : CallR X (.type "set") (Ka.rSetL X.K P w) := by
  subst hp hw
  exact Ka.cr_setL hc
theorem cr_sortM2 {X : Cx} {P : Program} {w : World} (hp : X.prog = P) (hw : X.w = w) (hc : X.calm = true) : CallR X (.builtin "sorted") (Ka.rSortM P w) := by
  subst hp hw
  exact Ka.cr_sortM hc
theorem sqT_off {K : PySem.W.Frag} {H : Hp} {x c : Addr} {xs : List V} (b : Box H x) (h : SqT K H c xs) : SqT K (offX x H) c xs := by
  rcases h with (h | ⟨o, h⟩) | h
  · exact .inl (.inl (offX_get (box_ne b h (fun _ _ e => nomatch e)) h))
  · exact .inl (.inr ⟨o, offX_get (box_ne b h (fun _ _ e => nomatch e)) h⟩)
  · exact .inr h
theorem BookAt.off {K : PySem.W.Frag} {C : Addr} {H : Hp} {x p a : Addr} {cs : List CA} (b : Box H x) (h : BookAt K C H p a cs) : BookAt K C (offX x H) p a cs := by
  obtain ⟨dx, fs, h1, h2, h3, h4, h5⟩ := h
  refine ⟨dx, fs, offX_get (box_ne b h1 (fun _ _ e => nomatch e)) h1, h2, h3, ⟨sqT_off b h4.1, fun c hc => ?_⟩, h5⟩
  have := h4.2 c hc
  exact ⟨sqT_off b this.t, sqT_off b this.e, sqT_off b this.s, fun q hq => offX_get (box_ne b (this.p q hq) (fun _ _ e => nomatch e)) (this.p q hq)⟩
theorem merge_by : ∀ (qs ps : List DP), ((ps ++ qs).map (·.2.1)).Nodup → mergeK (byKV ps) (byKV qs) = byKV (ps ++ qs)
  | [], ps, _ => by rw [List.append_nil]; rfl
  | q :: qs, ps, nd => by
    have e : mergeK (byKV ps) (byKV (q :: qs)) = mergeK (putK (byKV ps) (Sum.inr q.2.1) (V.str q.2.2)) (byKV qs) := rfl
    have e2 : putK (byKV ps) (Sum.inr q.2.1 : L2.Key) (V.str q.2.2) = byKV (ps ++ [q]) := by
      rw [putK_new]
      · unfold byKV
        rw [List.map_append]
        rfl
      · rw [byKV_keys]
        intro z
        obtain ⟨y, hy, e⟩ := List.mem_map.mp z
        rw [Sum.inr.inj e] at hy
        rw [List.map_append, List.map_cons, List.nodup_append] at nd
        exact nd.2.2 _ hy _ List.mem_cons_self rfl
    rw [e, e2, merge_by qs (ps ++ [q]) (by rw [List.append_assoc]; exact nd), List.append_assoc]
    rfl
theorem merge_by0 {ps : List DP} (nd : (ps.map (·.2.1)).Nodup) : mergeK [] (byKV ps) = byKV ps := merge_by ps [] nd
theorem paired_by {K : PySem.W.Frag} {H : Hp} : ∀ {ps : List DP}, (∀ p ∈ ps, H p.1 = some (.tup [.str p.2.1, .str p.2.2])) → Paired (fun (p : Addr) (kv : L2.Key × V) => SqT K H p [kV kv.1, kv.2]) (ps.map (·.1)) (byKV ps)
  | [], _ => .nil
  | p :: ps, h => .cons (sqT_new (h p List.mem_cons_self)) (paired_by fun q hq => h q (List.mem_cons_of_mem _ hq))
/-- the answer to two rows, as values and as data -/
def ansV (ps : List DP) (us zs ds : List Str) : List V := match bad ps us with
  | some i => [.str (Str.ofString "at"), .int (i : Int)]
  | none => match bad ps zs with
    | some i => [.str (Str.ofString "at"), .int (i : Int)]
    | none => [.bl (withinB ps us zs ds), .bl (sameB ps us zs ds)]
def ansD (ps : List DP) (us zs ds : List Str) : PyData := .tuple (match bad ps us with
  | some i => [.str (Str.ofString "at"), .int (i : Int)]
  | none => match bad ps zs with
    | some i => [.str (Str.ofString "at"), .int (i : Int)]
    | none => [.bool (withinB ps us zs ds), .bool (sameB ps us zs ds)])
theorem ans_of {H : Hp} {Q : VK} {ps : List DP} {us zs ds : List Str} (q : ∀ (H' : Hp) (p : Addr), Same H H' → H' p = some (.tup (ansV ps us zs ds)) → Q (.ref p) H') : Ans H Q ps us zs ds := by
  refine ⟨fun i hi H' p s e => q H' p s ?_, fun i hb hi H' p s e => q H' p s ?_, fun hb hb2 H' p s e => q H' p s ?_⟩
  · unfold ansV
    rw [hi]
    exact e
  · unfold ansV
    rw [hb]
    dsimp only
    rw [hi]
    exact e
  · unfold ansV
    rw [hb]
    dsimp only
    rw [hb2]
    exact e
theorem ans_dp {K : PySem.W.Frag} {H : Hp} {p : Addr} {ps : List DP} {us zs ds : List Str} (e : H p = some (.tup (ansV ps us zs ds))) : Dp K H (.ref p) (ansD ps us zs ds) := by
  unfold ansV at e
  unfold ansD
  cases h : bad ps us with
  | some i =>
    rw [h] at e
    exact .tup (sqT_new e) (.cons (.str _) (.cons (.int _) .nil))
  | none =>
    rw [h] at e
    dsimp only at e ⊢
    cases h2 : bad ps zs with
    | some i =>
      rw [h2] at e
      exact .tup (sqT_new e) (.cons (.str _) (.cons (.int _) .nil))
    | none =>
      rw [h2] at e
      exact .tup (sqT_new e) (.cons (.bl _) (.cons (.bl _) .nil))
theorem atD_sh (z : Int) : SeqAt.shaped (.tuple [.str (Str.ofString "at"), .int z]) = true := by
  refine shaped_of ?_ ?_
  · rw [PyData.canLay0, PyData.canLayAll0, PyData.canLayAll0, PyData.canLayAll0, PyData.canLay0, PyData.canLay0]
    decide +kernel
  · simp [PyData.depth, PyData.depthAll]
theorem ansD_sh (ps : List DP) (us zs ds : List Str) : SeqAt.shaped (ansD ps us zs ds) = true := by
  unfold ansD
  cases h : bad ps us with
  | some i => exact atD_sh _
  | none =>
    dsimp only
    cases h2 : bad ps zs with
    | some i => exact atD_sh _
    | none =>
      refine shaped_of ?_ ?_
      · rw [PyData.canLay0, PyData.canLayAll0, PyData.canLayAll0, PyData.canLayAll0, PyData.canLay0, PyData.canLay0]
        rfl
      · simp [PyData.depth, PyData.depthAll]
/-- no deed strange -/
theorem bad_ok {ps : List DP} (nd : (ps.map (·.2.1)).Nodup) {us : List Str} (h : ∀ z ∈ us, z ∈ ps.map (·.2.1)) : bad ps us = none := bad_no fun j y hj => by
  obtain ⟨p, hp, e⟩ := List.mem_map.mp (h y (List.mem_of_getElem? hj))
  rw [← e, deskOf_self nd hp]
  rfl
theorem deskOf_not {ps : List DP} {z : Str} (h : ∀ p ∈ ps, z ≠ p.2.1) : deskOf ps z = none := by
  induction ps with
  | nil => rfl
  | cons p ps ih =>
    unfold deskOf
    rw [if_neg fun e => h p List.mem_cons_self e.symm]
    exact ih fun q hq => h q (List.mem_cons_of_mem _ hq)
/-- the first stranger's place -/
theorem bad_at {ps : List DP} (nd : (ps.map (·.2.1)).Nodup) {us ws : List Str} {z : Str} (h : ∀ y ∈ us, y ∈ ps.map (·.2.1)) (hz : ∀ p ∈ ps, z ≠ p.2.1) : bad ps (us ++ z :: ws) = some us.length := by
  refine bad_some (i := us.length) (x := z) (by rw [List.getElem?_append_right (Nat.le_refl _), Nat.sub_self]; rfl) (deskOf_not hz) fun j y hj hy => ?_
  rw [List.getElem?_append_left hj] at hy
  obtain ⟨p, hp, e⟩ := List.mem_map.mp (h y (List.mem_of_getElem? hy))
  rw [← e, deskOf_self nd hp]
  rfl
/-- two rows that may be asked for -/
def Ok7 (K : PySem.W.Frag) (Z : Hp) (T : Addr) : Prop := ∃ (r1 r2 : Addr) (us zs : List Str), Z T = some (.tup [.ref r1, .ref r2]) ∧ (SqT K Z r1 (us.map V.str) ∧ us.length ≤ 1000 ∧ ∀ y ∈ us, isName y = true) ∧ SqT K Z r2 (zs.map V.str) ∧ zs.length ≤ 1000 ∧ ∀ y ∈ zs, isName y = true
theorem Ok7.mono {K : PySem.W.Frag} {Z Z' : Hp} {T : Addr} (s : Same Z Z') (h : Ok7 K Z T) : Ok7 K Z' T := by
  obtain ⟨r1, r2, us, zs, h1, ⟨h2, h3, h4⟩, h5, h6, h7⟩ := h
  exact ⟨r1, r2, us, zs, s _ _ h1, ⟨Same.sqT s h2, h3, h4⟩, Same.sqT s h5, h6, h7⟩
theorem strsD_sh {l : List Str} (h : ∀ y ∈ l, isName y = true) : SeqAt.shaped (.list (l.map PyData.str)) = true := by
  refine shaped_of ?_ ?_
  · rw [PyData.canLay0]
    exact lay_all l fun a ha => by rw [PyData.canLay0]; exact name_ok (h a ha)
  · have := dep_le (f := PyData.str) (n := 1) (fun a => by simp [PyData.depth]) l
    simp only [PyData.depth]
    omega
end Kb
namespace Kb
open PySem PySem.Spec PyProof.Rows L2
/-! ### the law -/
section
variable {P : Program} {w : World} {K : PySem.W.Frag} {mg : Str → Option Value} {base : Heap}
def spLaw (K : PySem.W.Frag) : Sp := fun vs H Q _ => ∃ (a : Addr) (ns : List Int), vs = [.ref a] ∧ SqL K H a (intV ns) ∧ ∀ H', Q (.bl true) H'
abbrev nLw2 : List Str := ["script", "k", "box", "names", "deeds", "stranger", "book", "places", "deal", "pairs", "desks", "turn", "u", "v", "place", "strange", "one", "other", "value", "at", "deed"]
theorem scLw2 : FnScope nLw2 ["script"] (defScope sLaw) := ⟨rfl, rfl, rfl, by decide +kernel, rfl, by decide +kernel, by decide +kernel⟩
theorem ok_law {f CB CR CS C fE : Addr} {fd fdE : FuncData} {fBx fTk fPk fNn fBk fTo fPl fSp fRw fPa fAl fRe fDu fDo fDa : Addr} {dBx dTk dPk dNn dBk dTo dPl dSp dRw dPa dAl dRe dDu dDo dDa : FuncData} (F : Fun K "law" "law" sLaw f fd) (N : Nones mg) (ndict : mg "dict" = none) (nset : mg "set" = none)
    (R : DelC K mg C fE fdE) (ZX : ExcC K C) (zc : (PySem.W.clsIn K C).isSome = true) (gR : mg "InvalidRow" = some (.ref CR)) (gS : mg "StillError" = some (.ref CS)) (kR : PySem.W.kitOne K (.ref C) (.ref CR) = some false) (kS : PySem.W.kitOne K (.ref C) (.ref CS) = some true)
    (G__law_box : FnOk P w K mg base CX0 1 fBx dBx ["script", "k"] (spBox K)) (C__law_box : CallC K mg "_law_box" ["script", "k"] fBx dBx)
    (G__law_take : FnOk P w K mg base CX0 1 fTk dTk ["box", "many"] spTake) (C__law_take : CallC K mg "_law_take" ["box", "many"] fTk dTk)
    (G__law_pick : FnOk P w K mg base CX0 2 fPk dPk ["box", "some"] spPick) (C__law_pick : CallC K mg "_law_pick" ["box", "some"] fPk dPk)
    (G__law_names : FnOk P w K mg base CX0 3 fNn dNn ["box", "many"] spNames) (C__law_names : CallC K mg "_law_names" ["box", "many"] fNn dNn)
    (G__law_book : FnOk P w K mg base CX0 10 fBk dBk ["name", "deeds"] (spLawBook K CB)) (C__law_book : CallC K mg "_law_book" ["name", "deeds"] fBk dBk)
    (G__law_told : FnOk P w K mg base CX0 5 fTo dTo ["book", "value"] (spTold K CB)) (C__law_told : CallC K mg "_law_told" ["book", "value"] fTo dTo)
    (G__law_plain : FnOk P w K mg base CX0 4 fPl dPl ["book", "deeds", "word"] (spPlain K CB)) (C__law_plain : CallC K mg "_law_plain" ["book", "deeds", "word"] fPl dPl)
    (G__law_spoilt : FnOk P w K mg base CX0 3 fSp dSp ["box", "pairs", "stranger"] (spSpoilt K)) (C__law_spoilt : CallC K mg "_law_spoilt" ["box", "pairs", "stranger"] fSp dSp)
    (G__law_row : FnOk P w K mg base CX0 3 fRw dRw ["box", "deeds", "most"] spLawRow) (C__law_row : CallC K mg "_law_row" ["box", "deeds", "most"] fRw dRw)
    (G__law_parts : FnOk P w K mg base CX0 5 fPa dPa ["pairs", "deal", "desks", "row"] (spLawParts K)) (C__law_parts : CallC K mg "_law_parts" ["pairs", "deal", "desks", "row"] fPa dPa)
    (G__law_alone : FnOk P w K mg base CX0 5 fAl dAl ["pairs", "desk", "row", "turn"] (spAlone K)) (C__law_alone : CallC K mg "_law_alone" ["pairs", "desk", "row", "turn"] fAl dAl)
    (G__law_refused : FnOk P w K mg base CX0 6 fRe dRe ["deal", "pairs", "u", "v"] (spRefused K)) (C__law_refused : CallC K mg "_law_refused" ["deal", "pairs", "u", "v"] fRe dRe)
    (G__law_due : FnOk P w K mg base CX0 3 fDu dDu ["deal", "desks", "u", "v"] (spDue K)) (C__law_due : CallC K mg "_law_due" ["deal", "desks", "u", "v"] fDu dDu)
    (G_desk_of : FnOk P w K mg base CX0 2 fDo dDo ["dealing", "deed"] (spDeskOf K)) (C_desk_of : CallC K mg "desk_of" ["dealing", "deed"] fDo dDo)
    (G_deeds_at : FnOk P w K mg base CX0 1 fDa dDa ["dealing", "desk"] (spDeedsAt K)) (C_deeds_at : CallC K mg "deeds_at" ["dealing", "desk"] fDa dDa) : FnOk P w K mg base CX0 11 f fd ["script"] (spLaw K) := by
  have GE : FnOk P w K mg base CX0 1 fE fdE ["self", "at"] (spAtInit C) := ok_delinit R
  refine F.ok scLw2 (fun vs H Q E h => ?_) (fun cdv A outer s H vs Q E hr h => ?_)
  · obtain ⟨a, ns, rfl, _⟩ := h
    rfl
  · obtain ⟨a, ns, rfl, hA, q⟩ := h
    refine ⟨_, pss_cons (ps_for PassesOwn.never rfl (pi_range1 (by rfl) N.range (pa_cons (pe_callB (call_max2 rfl) (by rfl) N.max (by decide +kernel) (pa_cons pe_int (pa_cons (pe_callB (call_min2 rfl) (by rfl) N.min (by decide +kernel) (pa_cons pe_int (pa_cons (pe_callB call_len_seq (by rfl) N.len PySem.boot_len (pa_cons (pv 0) pa_nil)) pa_nil))) pa_nil))) pa_nil)) (pg_name (i := 1) scLw2.nd rfl (Or.inl rfl))
        (pss_cons (ps_set (i := 2) scLw2.nd rfl (Or.inr rfl) (pe_call G__law_box (hr.mono (by decide)) (by rfl) C__law_box.g C__law_box.kp C__law_box.b .nil pass0 (pa_cons (pv 0) (pa_cons (pv 1) pa_nil))))
        (pss_cons (ps_set (i := 3) scLw2.nd rfl (Or.inl rfl) (pe_call G__law_names (hr.mono (by decide)) (by rfl) C__law_names.g C__law_names.kp C__law_names.b .nil pass0 (pa_cons (pv 2) (pa_cons (pe_op op_add pe_int (pe_call G__law_take (hr.mono (by decide)) (by rfl) C__law_take.g C__law_take.kp C__law_take.b .nil pass0 (pa_cons (pv 2) (pa_cons pe_int pa_nil)))) pa_nil))))
        (pss_cons (ps_par (i := 4) (j := 5) rfl scLw2.nd rfl rfl (by decide) rfl rfl (pa_cons (pe_callB cr_sortedS (by rfl) N.sorted (by decide +kernel) (pa_cons (pe_slice sl_list (pv 3) (po_some pe_int) po_none) pa_nil)) (pa_cons (pe_ix ix_list (pv 3) pe_int (fun _ _ => rfl)) pa_nil)) (by rfl))
        (pss_cons (ps_set (i := 6) scLw2.nd rfl (Or.inl rfl) (pe_call G__law_book (hr.mono (by decide)) (by rfl) C__law_book.g C__law_book.kp C__law_book.b .nil pass0 (pa_cons (pe_ix ix_list (pv 3) pe_int (fun _ _ => rfl)) (pa_cons (pe_call G__law_pick (hr.mono (by decide)) (by rfl) C__law_pick.g C__law_pick.kp C__law_pick.b .nil pass0 (pa_cons (pv 2) (pa_cons (pe_lst (pa_cons (pv 4) (pa_cons (Ka.pe_revS (pv 4)) pa_nil))) pa_nil))) pa_nil))))
        (pss_cons (ps_set (i := 7) scLw2.nd rfl (Or.inr rfl) (pe_call G__law_names (hr.mono (by decide)) (by rfl) C__law_names.g C__law_names.kp C__law_names.b .nil pass0 (pa_cons (pv 2) (pa_cons (pe_op op_add pe_int (pe_call G__law_take (hr.mono (by decide)) (by rfl) C__law_take.g C__law_take.kp C__law_take.b .nil pass0 (pa_cons (pv 2) (pa_cons pe_int pa_nil)))) pa_nil))))
        (pss_cons (ps_set (i := 8) scLw2.nd rfl (Or.inr rfl) (pe_callTy (call_dictP rfl) (by rfl) ndict (by decide +kernel) (pa_cons (pe_lc (own := [("deed", 20)]) (g := gName 20) (tt := tYes) rfl scLw2.nd (pi_list (pv 4)) (blkOk_by (own := [("deed", 20)]) (N := nLw2) (sc := defScope sLaw) (by decide +kernel)) (fun _ _ _ _ _ => (pg_name (i := 20) scLw2.nd rfl (Or.inl rfl))) (fun _ _ _ _ _ => pts_nil) (fun _ _ _ _ _ => (pe_tup (pa_cons (pv 20) (pa_cons (pe_call G__law_pick (hr.mono (by decide)) (by rfl) C__law_pick.g C__law_pick.kp C__law_pick.b .nil pass0 (pa_cons (pv 2) (pa_cons (pv 7) pa_nil))) pa_nil))))) pa_nil)))
        (pss_cons (ps_set (i := 9) scLw2.nd rfl (Or.inr rfl) (pe_callTy Ka.cr_tupF (by rfl) N.tuple (by decide +kernel) (pa_cons (pe_lc (own := [("deed", 20)]) (g := gName 20) (tt := tYes) rfl scLw2.nd (pi_list (pv 4)) (blkOk_by (own := [("deed", 20)]) (N := nLw2) (sc := defScope sLaw) (by decide +kernel)) (fun _ _ _ _ _ => (pg_name (i := 20) scLw2.nd rfl (Or.inl rfl))) (fun _ _ _ _ _ => pts_nil) (fun _ _ _ _ _ => (pe_tup (pa_cons (pv 20) (pa_cons (pe_dget (hu_of hr) (pv 8) (pv 20) (fun _ _ => rfl)) pa_nil))))) pa_nil)))
        (pss_cons (ps_set (i := 10) scLw2.nd rfl (Or.inr rfl) (pe_callB (cr_sortM2 (P := P) (w := w) rfl rfl rfl) (by rfl) N.sorted (by decide +kernel) (pa_cons (pe_callTy (cr_setL2 (P := P) (w := w) rfl rfl rfl) (by rfl) nset (by decide +kernel) (pa_cons (pe_callTy (Ka.call_list_vals rfl) (by rfl) N.list (by decide +kernel) (pa_cons (pe_bm0 PySem.F.plainAttrs_dict PySem.F.slot_dict_values PySem.F.type_dict_values Ka.mt_valuesK (pv 8)) pa_nil)) pa_nil)) pa_nil)))
        (pss_cons (ps_if (PW.pt (pw_or (pt_cmpR (op_neD hr.units) (pe_call G__law_told (hr.mono (by decide)) (by rfl) C__law_told.g C__law_told.kp C__law_told.b .nil pass0 (pa_cons (pv 6) (pa_cons (pv 9) pa_nil))) (pe_tup (pa_cons pe_str pa_nil)) (nomark _)) (pw_or1 (pt_not (pt_val (pe_call G__law_plain (hr.mono (by decide)) (by rfl) C__law_plain.g C__law_plain.kp C__law_plain.b .nil pass0 (pa_cons (pv 6) (pa_cons (pv 4) (pa_cons (pe_ix ix_list (pv 3) pe_int (fun _ _ => rfl)) pa_nil))))))))) (pss_one (ps_ret pe_bl)) pss_nil)
        (pss_cons (ps_for PassesOwn.never rfl (pi_range1 (by rfl) N.range (pa_cons pe_int pa_nil)) (pg_name (i := 11) scLw2.nd rfl (Or.inl rfl))
          (pss_cons (ps_asg (pe_call G__law_spoilt (hr.mono (by decide)) (by rfl) C__law_spoilt.g C__law_spoilt.kp C__law_spoilt.b .nil pass0 (pa_cons (pv 2) (pa_cons (pv 9) (pa_cons (pv 5) pa_nil)))) (pg_tup rfl (pgs_cons (pg_name (i := 18) scLw2.nd rfl (Or.inl rfl)) (pgs_cons (pg_name (i := 19) scLw2.nd rfl (Or.inl rfl)) pgs_nil))))
          (pss_one (ps_if (pt_cmpR (op_neD hr.units) (pe_call G__law_told (hr.mono (by decide)) (by rfl) C__law_told.g C__law_told.kp C__law_told.b .nil pass0 (pa_cons (pv 6) (pa_cons (pv 18) pa_nil))) (pe_tup (pa_cons pe_str (pa_cons (pv 19) pa_nil))) (nomark _)) (pss_one (ps_ret pe_bl)) pss_nil))))
        (pss_cons (ps_asg (pe_tup (pa_cons (pe_call G__law_row (hr.mono (by decide)) (by rfl) C__law_row.g C__law_row.kp C__law_row.b .nil pass0 (pa_cons (pv 2) (pa_cons (pv 4) (pa_cons pe_int pa_nil)))) (pa_cons (pe_call G__law_row (hr.mono (by decide)) (by rfl) C__law_row.g C__law_row.kp C__law_row.b .nil pass0 (pa_cons (pv 2) (pa_cons (pv 4) (pa_cons pe_int pa_nil)))) pa_nil))) (pg_tup rfl (pgs_cons (pg_name (i := 12) scLw2.nd rfl (Or.inr rfl)) (pgs_cons (pg_name (i := 13) scLw2.nd rfl (Or.inl rfl)) pgs_nil))))
        (pss_cons (ps_if (PW.pt (pw_or (pt_not (pt_val (pe_call G__law_parts (hr.mono (by decide)) (by rfl) C__law_parts.g C__law_parts.kp C__law_parts.b .nil pass0 (pa_cons (pv 9) (pa_cons (pv 8) (pa_cons (pv 10) (pa_cons (pv 12) pa_nil))))))) (pw_or1 (pt_not (pt_val (pe_call G__law_parts (hr.mono (by decide)) (by rfl) C__law_parts.g C__law_parts.kp C__law_parts.b .nil pass0 (pa_cons (pv 9) (pa_cons (pv 8) (pa_cons (pv 10) (pa_cons (pv 13) pa_nil)))))))))) (pss_one (ps_ret pe_bl)) pss_nil)
        (pss_cons (ps_set (i := 14) scLw2.nd rfl (Or.inl rfl) (pe_call G__law_take (hr.mono (by decide)) (by rfl) C__law_take.g C__law_take.kp C__law_take.b .nil pass0 (pa_cons (pv 2) (pa_cons (pe_op op_add (pe_callB call_len_seq (by rfl) N.len PySem.boot_len (pa_cons (pv 13) pa_nil)) pe_int) pa_nil))))
        (pss_cons (ps_set (i := 15) scLw2.nd rfl (Or.inr rfl) (pe_op op_catA (pe_op op_catA (pe_op op_catA (pe_slice sl_tupA (pv 13) po_none (po_some (pv 14))) (pe_tup (pa_cons (pv 5) pa_nil))) (pe_slice sl_tupA (pv 13) (po_some (pv 14)) po_none)) (pe_call G__law_pick (hr.mono (by decide)) (by rfl) C__law_pick.g C__law_pick.kp C__law_pick.b .nil pass0 (pa_cons (pv 2) (pa_cons (pe_lst (pa_cons (pe_tup pa_nil) (pa_cons (pe_tup (pa_cons (pv 5) pa_nil)) pa_nil))) pa_nil)))))
        (pss_cons (ps_if (pt_cmpR (op_neD hr.units) (pe_lc (own := [("turn", 11)]) (g := gName 11) (tt := tYes) rfl scLw2.nd (pi_range1 (by rfl) N.range (pa_cons pe_int pa_nil)) (blkOk_by (own := [("turn", 11)]) (N := nLw2) (sc := defScope sLaw) (by decide +kernel)) (fun _ _ _ _ _ => (pg_name (i := 11) scLw2.nd rfl (Or.inl rfl))) (fun _ _ _ _ _ => pts_nil) (fun _ _ _ _ _ => (pe_call G__law_alone (hr.mono (by decide)) (by rfl) C__law_alone.g C__law_alone.kp C__law_alone.b .nil pass0 (pa_cons (pv 9) (pa_cons (pe_ix (ixL_at (K := K) rfl) (pv 10) pe_int (fun _ _ => rfl)) (pa_cons (pv 12) (pa_cons (pv 11) pa_nil))))))) (pe_lst (pa_cons pe_non (pa_cons pe_non pa_nil))) (nomark _)) (pss_one (ps_ret pe_bl)) pss_nil)
        (pss_cons (ps_if (pt_cmpR (op_neD hr.units) (pe_lc (own := [("turn", 11)]) (g := gName 11) (tt := tYes) rfl scLw2.nd (pi_range1 (by rfl) N.range (pa_cons pe_int pa_nil)) (blkOk_by (own := [("turn", 11)]) (N := nLw2) (sc := defScope sLaw) (by decide +kernel)) (fun _ _ _ _ _ => (pg_name (i := 11) scLw2.nd rfl (Or.inl rfl))) (fun _ _ _ _ _ => pts_nil) (fun _ _ _ _ _ => (pe_call G__law_alone (hr.mono (by decide)) (by rfl) C__law_alone.g C__law_alone.kp C__law_alone.b .nil pass0 (pa_cons (pv 9) (pa_cons (pe_ix (ixL_at (K := K) rfl) (pv 10) pe_int (fun _ _ => rfl)) (pa_cons (pv 15) (pa_cons (pv 11) pa_nil))))))) (pe_lst (pa_cons (pv 14) (pa_cons (pv 14) pa_nil))) (nomark _)) (pss_one (ps_ret pe_bl)) pss_nil)
        (pss_cons (ps_for PassesOwn.never rfl (pi_list (pe_lst (pa_cons (pe_tup (pa_cons (pv 12) (pa_cons (pv 13) pa_nil))) (pa_cons (pe_tup (pa_cons (pv 13) (pa_cons (pv 12) pa_nil))) (pa_cons (pe_tup (pa_cons (pv 12) (pa_cons (pv 12) pa_nil))) (pa_cons (pe_tup (pa_cons (pv 15) (pa_cons (pv 12) pa_nil))) (pa_cons (pe_tup (pa_cons (pv 12) (pa_cons (pv 15) pa_nil))) (pa_cons (pe_tup (pa_cons (Ka.pe_revT (pv 13)) (pa_cons (pv 13) pa_nil))) (pa_cons (pe_tup (pa_cons (pv 15) (pa_cons (pe_slice sl_tupA (pv 15) (po_some pe_int) po_none) pa_nil))) pa_nil))))))))) (pg_tup rfl (pgs_cons (pg_name (i := 16) scLw2.nd rfl (Or.inl rfl)) (pgs_cons (pg_name (i := 17) scLw2.nd rfl (Or.inl rfl)) pgs_nil)))
          (pss_one (ps_if (pt_cmpR (op_neD hr.units) (pe_call G__law_refused (hr.mono (by decide)) (by rfl) C__law_refused.g C__law_refused.kp C__law_refused.b .nil pass0 (pa_cons (pv 8) (pa_cons (pv 9) (pa_cons (pv 16) (pa_cons (pv 17) pa_nil))))) (pe_call G__law_due (hr.mono (by decide)) (by rfl) C__law_due.g C__law_due.kp C__law_due.b .nil pass0 (pa_cons (pv 8) (pa_cons (pv 10) (pa_cons (pv 16) (pa_cons (pv 17) pa_nil))))) (nomark _)) (pss_one (ps_ret pe_bl)) pss_nil)))
        (pss_cons (ps_if (PW.pt (pw_or (pt_cmpR op_notN (pe_call G_desk_of (hr.mono (by decide)) (by rfl) C_desk_of.g C_desk_of.kp C_desk_of.b .nil pass0 (pa_cons (pv 9) (pa_cons (pv 5) pa_nil))) pe_non (nomark _)) (pw_or1 (pt_cmpR (op_neD hr.units) (pe_lc (own := [("deed", 20)]) (g := gName 20) (tt := tYes) rfl scLw2.nd (pi_list (pv 4)) (blkOk_by (own := [("deed", 20)]) (N := nLw2) (sc := defScope sLaw) (by decide +kernel)) (fun _ _ _ _ _ => (pg_name (i := 20) scLw2.nd rfl (Or.inl rfl))) (fun _ _ _ _ _ => pts_nil) (fun _ _ _ _ _ => (pe_call G_desk_of (hr.mono (by decide)) (by rfl) C_desk_of.g C_desk_of.kp C_desk_of.b .nil pass0 (pa_cons (pv 9) (pa_cons (pv 20) pa_nil))))) (pe_lc (own := [("deed", 20)]) (g := gName 20) (tt := tYes) rfl scLw2.nd (pi_list (pv 4)) (blkOk_by (own := [("deed", 20)]) (N := nLw2) (sc := defScope sLaw) (by decide +kernel)) (fun _ _ _ _ _ => (pg_name (i := 20) scLw2.nd rfl (Or.inl rfl))) (fun _ _ _ _ _ => pts_nil) (fun _ _ _ _ _ => (pe_dget (hu_of hr) (pv 8) (pv 20) (fun _ _ => rfl)))) (nomark _))))) (pss_one (ps_ret pe_bl)) pss_nil)
        (pss_one (ps_if (PW.pt (pw_and (pt_cmpR (op_neD hr.units) (pe_call G_deeds_at (hr.mono (by decide)) (by rfl) C_deeds_at.g C_deeds_at.kp C_deeds_at.b .nil pass0 (pa_cons (pv 9) (pa_cons (pe_op op_add_str (pv 5) (pe_slice sl_str pe_str po_none (po_some (pe_op op_sub pe_int (pe_callB call_len_str (by rfl) N.len PySem.boot_len (pa_cons (pv 5) pa_nil)))))) pa_nil))) (pe_tup pa_nil) (nomark _)) (pw_and1 (pt_cmpR op_notIn_seq (pe_op op_add_str (pv 5) (pe_slice sl_str pe_str po_none (po_some (pe_op op_sub pe_int (pe_callB call_len_str (by rfl) N.len PySem.boot_len (pa_cons (pv 5) pa_nil)))))) (pv 10) (by rfl))))) (pss_one (ps_ret pe_bl)) pss_nil)))))))))))))))))))))
      (pss_one (ps_ret (pe_and (pe_not (pe_callB (Ka.call_isO ZX zc) (by rfl) N.isinstance (by decide +kernel) (pa_cons (Ka.pe_oex R.oex R.iC R.tI GE (hr.mono (by decide)) R.b .nil pass0 (by rfl) R.gC (pa_cons pe_int pa_nil)) (pa_cons (pe_glob (v := .ref CR) rfl gR rfl) pa_nil)))) (pe_one (pe_callB (Ka.call_isO ZX zc) (by rfl) N.isinstance (by decide +kernel) (pa_cons (Ka.pe_oex R.oex R.iC R.tI GE (hr.mono (by decide)) R.b .nil pass0 (by rfl) R.gC (pa_cons pe_int pa_nil)) (pa_cons (pe_glob (v := .ref CS) rfl gS rfl) pa_nil))))))), ?_⟩
    obtain ⟨m, hm3, hm⟩ : ∃ m : Nat, m ≤ 3 ∧ (if (if ((intV ns).length : Int) < 3 then ((intV ns).length : Int) else 3) > 1 then (if ((intV ns).length : Int) < 3 then ((intV ns).length : Int) else 3) else 1) = (m : Int) := by
      refine ⟨max 1 (min 3 ns.length), by omega, ?_⟩
      rw [intV_len]
      split <;> split <;> omega
    refine ⟨.ref a, rfl, a, _, rfl, .inl hA, _, _, rfl, _, _, rfl, (m : Int), congrArg (fun z => [V.int z]) hm, by omega, by omega, ?_⟩
    refine for_range (lo := 0) (n := m) (fun i σ H' => ∃ d1 d2 d3 d4 d5 d6 d7 d8 d9 d10 d11 d12 d13 d14 d15 d16 d17 d18 d19 d20, σ = [some (.ref a), d1, d2, d3, d4, d5, d6, d7, d8, d9, d10, d11, d12, d13, d14, d15, d16, d17, d18, d19, d20] ∧ Same H H') ⟨none, none, none, none, none, none, none, none, none, none, none, none, none, none, none, none, none, none, none, none, rfl, fun _ _ e => e⟩ ?_ ?_
    · rintro i σ H0 hi ⟨d1, d2, d3, d4, d5, d6, d7, d8, d9, d10, d11, d12, d13, d14, d15, d16, d17, d18, d19, d20, rfl, s00⟩
      rw [Int.zero_add]
      refine ⟨.ref a, rfl, .int (i : Nat), rfl, a, i, ns, rfl, s00.seq hA, by omega, fun H1 x s01 nx b1 => ?_⟩
      have nxH : H x = none := s00.free nx
      have sH1 := s00.trans s01
      have toS : ∀ {G : Hp}, But x H1 G → Same H G := fun k c u e => k c u (ne_of_none e nxH) (sH1 _ _ e)
      refine ⟨.ref x, rfl, .ref x, rfl, x, 5, rfl, b1, by decide, by decide, fun r H2 hr2 k2 b2 => ?_⟩
      refine ⟨4, _, rfl, rfl, x, 4 + r, (by show [V.ref x, V.int (4 + (r : Int))] = _; rw [show (4 : Int) + (r : Int) = ((4 + r : Nat) : Int) by omega]), b2, by omega, fun pn nl H3 lnl ndl naml k3 b3 npn epn => ?_⟩
      have kA := k2.trans k3
      have hpx : pn ≠ x := b2.ne npn
      clear k2 k3 b2 npn
      -- the first two of the names and the rest
      obtain ⟨z, n1, rest, rfl⟩ : ∃ z n1 rest, nl = z :: n1 :: rest := by
        match nl, lnl with
        | z :: n1 :: rest, _ => exact ⟨z, n1, rest, rfl⟩
        | [_], h => simp only [List.length_cons, List.length_nil] at h; omega
        | [], h => simp only [List.length_nil] at h; omega
      have lrest : rest.length = 2 + r := by
        simp only [List.length_cons] at lnl
        omega
      have hz : isName z = true := naml z List.mem_cons_self
      have hn1 : isName n1 = true := naml n1 (List.mem_cons_of_mem _ List.mem_cons_self)
      refine ⟨.ref pn, rfl, 2, rfl, pn, _, rfl, sqL_new epn, fun p1 np1 => ?_⟩
      have b4 := Box.upd (o := .lst (cutV ((z :: n1 :: rest).map V.str) (some 2) none)) b3 (Box.ne b3 np1)
      have s4 := same_new (o := .lst (cutV ((z :: n1 :: rest).map V.str) (some 2) none)) np1
      have e4 : upd H3 p1 (.lst (cutV ((z :: n1 :: rest).map V.str) (some 2) none)) p1 = some (.lst (rest.map V.str)) := by
        rw [upd_same]
        have : cutV ((z :: n1 :: rest).map V.str) (some 2) none = rest.map V.str := by
          have hl : ((z :: n1 :: rest).map V.str).length = rest.length + 2 := by simp
          unfold cutV
          rw [show (2 : Int) = ((2 : Nat) : Int) from rfl, HT.sIx_nat, hl, Nat.min_eq_left (by omega)]
          show (rest.map V.str).take (rest.length + 2 - 2) = _
          exact List.take_of_length_le (by rw [List.length_map]; omega)
        rw [this]
      generalize upd H3 p1 (.lst (cutV ((z :: n1 :: rest).map V.str) (some 2) none)) = H4 at b4 s4 e4
      refine ⟨p1, rest, rfl, sqL_new e4, by omega, fun ds da dperm dso nda => ?_⟩
      have s5 := same_new (o := .lst (ds.map V.str)) nda
      have b5 := Box.upd (o := .lst (ds.map V.str)) b4 (Box.ne b4 nda)
      have hdax := Box.ne b4 nda
      have eda : upd H4 da (.lst (ds.map V.str)) da = some (.lst (ds.map V.str)) := upd_same
      have epn := s5 _ _ (s4 _ _ epn)
      have kB := kA.trans (But.of (s4.trans s5))
      generalize upd H4 da (.lst (ds.map V.str)) = H5 at s5 b5 eda epn kB
      clear b4 s4 e4 np1 p1 s5 kA b3
      refine ⟨.ref pn, rfl, pn, _, _, .str z, rfl, rfl, sqL_new epn, atI_nat (j := 0) rfl, _, _, rfl, ?_⟩
      have lds : ds.length = 2 + r := by rw [dperm.length_eq, lrest]
      have ndr := (List.nodup_cons.mp (List.nodup_cons.mp ndl).2).2
      have ndd : ds.Nodup := dperm.nodup_iff.mpr ndr
      have nds : ∀ y ∈ ds, isName y = true := fun y hy => naml y (List.mem_cons_of_mem _ (List.mem_cons_of_mem _ (dperm.mem_iff.mp hy)))
      have hzd : ∀ y ∈ ds, z ≠ y := fun y hy e => (List.nodup_cons.mp ndl).1 (List.mem_cons_of_mem _ (by rw [e]; exact dperm.mem_iff.mp hy))
      -- the book
      refine ⟨.ref pn, rfl, pn, _, _, .str n1, rfl, rfl, sqL_new epn, atI_nat (j := 1) rfl, ?_⟩
      refine ⟨.ref x, rfl, .ref da, rfl, .ref da, rfl, da, _, rfl, sqL_new eda, fun p3 np3 => ?_⟩
      have s6 := same_new (o := .lst (ds.map V.str).reverse) np3
      have b6 := Box.upd (o := .lst (ds.map V.str).reverse) b5 (Box.ne b5 np3)
      have hp3x := Box.ne b5 np3
      have ep3 : upd H5 p3 (.lst (ds.map V.str).reverse) p3 = some (.lst (ds.reverse.map V.str)) := by rw [upd_same, List.map_reverse]
      generalize upd H5 p3 (.lst (ds.map V.str).reverse) = H6 at s6 b6 ep3
      refine ⟨smallE (by show 2 ≤ 1000000; decide), fun p4 np4 => ?_⟩
      have s7 := same_new (o := .lst [.ref da, .ref p3]) np4
      have b7 := Box.upd (o := .lst [.ref da, .ref p3]) b6 (Box.ne b6 np4)
      have hp4x := Box.ne b6 np4
      have ep4 : upd H6 p4 (.lst [.ref da, .ref p3]) p4 = some (.lst [.ref da, .ref p3]) := upd_same
      have ep3 := s7 _ _ ep3
      have eda := s7 _ _ (s6 _ _ eda)
      have epn := s7 _ _ (s6 _ _ epn)
      have kB := kB.trans (But.of (s6.trans s7))
      generalize upd H6 p4 (.lst [.ref da, .ref p3]) = H7 at s7 b7 ep4 ep3 eda epn kB
      refine ⟨x, p4, [.ref da, .ref p3], rfl, b7, hp4x, .inl ep4, Nat.succ_pos _, by show 2 < 1000000; decide, fun j v H8 hv k8 b8 => ?_⟩
      obtain ⟨ab, ds', rfl, eab, pab⟩ : ∃ (ab : Addr) (ds' : List Str), v = .ref ab ∧ H8 ab = some (.lst (ds'.map V.str)) ∧ ds'.Perm ds := by
        rcases j with _ | _ | j
        · cases hv
          exact ⟨da, ds, rfl, k8 _ _ hdax eda, List.Perm.refl _⟩
        · cases hv
          exact ⟨p3, ds.reverse, rfl, k8 _ _ hp3x ep3, List.reverse_perm ds⟩
        · cases hv
      have eda := k8 _ _ hdax eda
      have epn := k8 _ _ hpx epn
      have kB := kB.trans k8
      clear s6 s7 b6 b7 ep3 ep4 k8 hv hp3x hp4x np3 np4 b5 nda
      refine ⟨ab, n1, ds', rfl, eab, hn1, pab.nodup_iff.mpr ndd, fun y hy => nds y (pab.mem_iff.mp hy), by rw [pab.length_eq]; omega, fun H9 bk ca cs s9 hB hcs => ?_⟩
      have hdu : ds.Perm (uniq (dns cs)) := by
        rw [hcs, uniq_id (pab.nodup_iff.mpr ndd)]
        exact pab.symm
      have eda := s9 _ _ eda
      have epn := s9 _ _ epn
      have kB := kB.trans (But.of s9)
      have b9 : Box H9 x := let ⟨q0, q1, e⟩ := b8; ⟨q0, q1, s9 _ _ e⟩
      clear s9 eab pab hcs b8
      have hB := hB.off b9
      -- the places, the dealing
      refine ⟨.ref x, rfl, .ref x, rfl, x, 4, rfl, b9, by decide, by decide, fun r2 HA hr3 kA2 bA => ?_⟩
      refine ⟨1, _, rfl, rfl, x, 1 + r2, (by show [V.ref x, V.int (1 + (r2 : Int))] = _; rw [show (1 : Int) + (r2 : Int) = ((1 + r2 : Nat) : Int) by omega]), bA, by omega, fun pl ll HB lll _ naml2 kB2 bB nplA epl => ?_⟩
      have hplx := Box.ne bA nplA
      have kC := kA2.trans kB2
      have k9 := kC
      have eda := kC _ _ hdax eda
      have epn := kC _ _ hpx epn
      have kB := kB.trans kC
      clear kA2 kB2 bA nplA kC b9
      refine ⟨.ref da, rfl, da, rfl, ⟨_, sqL_new eda⟩, fun D nD => ?_⟩
      have hDx := Box.ne bB nD
      refine lc_it (walk_list (K := K) (a := da) (xs := ds.map V.str)) (fun i G => ∃ ps : List DP, But x HB G ∧ Box G x ∧ G D = some (.lst (ps.map fun p => V.ref p.1)) ∧ ps.map (·.2.1) = ds.take i ∧ ∀ p ∈ ps, G p.1 = some (.tup [.str p.2.1, .str p.2.2]) ∧ isName p.2.2 = true) ⟨[], But.of (same_new nD), Box.upd bB hDx, upd_same, rfl, fun p hp => nomatch hp⟩ (fun _ _ _ h => sqL_new (h.choose_spec.1 _ _ hdax eda)) (fun i y G G' hi h yy => ?_) (fun G h => ?_)
      · obtain ⟨rfl, hy⟩ := yy
        obtain ⟨d, hd, rfl⟩ := get_map hy
        obtain ⟨ps, kG, bG, eG, kP, tP⟩ := h
        rw [List.length_map] at hi
        have lP : ps.length ≤ 12 := by
          have := congrArg List.length kP
          rw [List.length_map, List.length_take] at this
          omega
        refine ⟨rfl, .str d, rfl, .ref x, rfl, .ref pl, rfl, x, pl, _, rfl, bG, hplx, .inl (kG _ _ hplx epl), by rw [List.length_map]; omega, by rw [List.length_map]; omega, fun j v G2 hj k2 b2 => ?_⟩
        obtain ⟨y, hyl, rfl⟩ := get_map hj
        have ny := naml2 y (List.mem_of_getElem? hyl)
        refine ⟨smallE (by show 2 ≤ 1000000; decide), fun b nb => ?_⟩
        have sb := same_new (o := .tup [V.str d, V.str y]) nb
        have eb : upd G2 b (.tup [V.str d, V.str y]) b = some (.tup [V.str d, V.str y]) := upd_same
        have bb := Box.upd (o := .tup [V.str d, V.str y]) b2 (Box.ne b2 nb)
        have kb := k2.trans (But.of sb)
        have eD := kb _ _ hDx eG
        have kG2 := kG.trans kb
        have bx := Box.ne b2 nb
        generalize upd G2 b (.tup [V.str d, V.str y]) = Z at sb eb bb kb eD kG2
        have nDt : ∀ {c : Addr} {xs : List V}, Z c = some (.tup xs) → c ≠ D := fun e w => by
          rw [w, eD] at e
          cases e
        refine ⟨_, eD, by rw [List.length_map]; exact small (by omega), ps ++ [(b, d, y)], fun c o hc e => ?_, Box.upd bb hDx, ?_, ?_, fun p hp => ?_⟩
        · by_cases w : c = D
          · rw [w, nD] at e
            cases e
          · rw [upd_ne w]
            exact kG2 _ _ hc e
        · rw [upd_same, List.map_append]
          rfl
        · rw [List.map_append, kP, take_of_get hd]
          rfl
        · rcases List.mem_append.mp hp with w | w
          · obtain ⟨a1, a2⟩ := tP p w
            have a1 := kb _ _ (box_ne bG a1 (fun _ _ e => nomatch e)) a1
            exact ⟨by rw [upd_ne (nDt a1)]; exact a1, a2⟩
          · rw [List.mem_singleton.mp w]
            exact ⟨by rw [upd_ne (nDt eb)]; exact eb, ny⟩
      obtain ⟨ps1, kG, bG, eG, kP1, tP1⟩ := h
      rw [List.length_map, List.take_of_length_le (Nat.le_refl _)] at kP1
      have nd1 : (ps1.map (·.2.1)).Nodup := by rw [kP1]; exact ndd
      have l1 : ps1.length = ds.length := by rw [← kP1, List.length_map]
      have k9 := k9.trans kG
      have eda := kG _ _ hdax eda
      have epn := kG _ _ hpx epn
      have kB := kB.trans kG
      clear kG bB nD epl hplx
      refine ⟨D, ps1.map (·.1), byKV ps1, rfl, by rw [List.map_map]; exact sqL_new eG, paired_by (fun p hp => (tP1 p hp).1), fun dl ndl2 => ?_⟩
      rw [merge_by0 nd1]
      have s1 := same_new (o := .dK (byKV ps1)) ndl2
      have edl : upd G dl (.dK (byKV ps1)) dl = some (.dK (byKV ps1)) := upd_same
      have bC := Box.upd (o := .dK (byKV ps1)) bG (Box.ne bG ndl2)
      have eda := s1 _ _ eda
      have epn := s1 _ _ epn
      have kB := kB.trans (But.of s1)
      have k9 := k9.trans (But.of s1)
      generalize upd G dl (.dK (byKV ps1)) = HC at s1 edl bC eda epn kB k9
      have n1s : ∀ q ∈ ps1, isName q.2.2 = true := fun q hq => (tP1 q hq).2
      clear tP1 eG bG ndl2 s1
      refine ⟨.ref da, rfl, da, rfl, ⟨_, sqL_new eda⟩, fun D2 nD2 => ?_⟩
      refine lc_it (walk_list (K := K) (a := da) (xs := ds.map V.str)) (fun i G => ∃ ps : List DP, Same HC G ∧ G D2 = some (.lst (ps.map fun p => V.ref p.1)) ∧ ps.map (·.2) = (ps1.take i).map (·.2) ∧ ∀ p ∈ ps, G p.1 = some (.tup [.str p.2.1, .str p.2.2])) ⟨[], same_new nD2, upd_same, rfl, fun p hp => nomatch hp⟩ (fun _ _ _ h => sqL_new (h.choose_spec.1 _ _ eda)) (fun i y G G' hi h yy => ?_) (fun G h => ?_)
      · obtain ⟨rfl, hy⟩ := yy
        obtain ⟨d, hd, rfl⟩ := get_map hy
        obtain ⟨ps, sG, eG, kP, tP⟩ := h
        rw [List.length_map] at hi
        have lP : ps.length ≤ 12 := by
          have := congrArg List.length kP
          rw [List.length_map, List.length_map, List.length_take] at this
          omega
        have hp1 : ps1[i]? = some (ps1[i]'(by omega)) := List.getElem?_eq_getElem _
        generalize ps1[i]'(by omega) = p0 at hp1
        have ed : p0.2.1 = d := by
          rw [← kP1, List.getElem?_map, hp1] at hd
          exact Option.some.inj hd
        have g1 : DGet G' dl (.str d) (some (.str p0.2.2)) := by
          have := DGet.k (k := Sum.inr d) (sG _ _ edl)
          rw [valV_by, ← ed, deskOf_self nd1 (List.mem_of_getElem? hp1), ed] at this
          exact this
        refine ⟨rfl, .str d, rfl, .ref dl, rfl, .str d, rfl, dl, .str p0.2.2, rfl, g1, smallE (by show 2 ≤ 1000000; decide), fun b nb => ?_⟩
        have sb := same_new (o := .tup [V.str d, V.str p0.2.2]) nb
        have eb : upd G' b (.tup [V.str d, V.str p0.2.2]) b = some (.tup [V.str d, V.str p0.2.2]) := upd_same
        have eD := sb _ _ eG
        generalize upd G' b (.tup [V.str d, V.str p0.2.2]) = Z at sb eb eD
        have nDt : ∀ {c : Addr} {xs : List V}, Z c = some (.tup xs) → c ≠ D2 := fun e w => by
          rw [w, eD] at e
          cases e
        refine ⟨_, eD, by rw [List.length_map]; exact small (by omega), ps ++ [(b, d, p0.2.2)], fun c o e => ?_, ?_, ?_, fun p hp => ?_⟩
        · rw [upd_ne (ne_of_none e nD2)]
          exact sb _ _ (sG _ _ e)
        · rw [upd_same, List.map_append]
          rfl
        · rw [List.map_append, kP, take_of_get hp1, List.map_append, ← ed]
          rfl
        · rcases List.mem_append.mp hp with w | w
          · have a1 := sb _ _ (tP p w)
            rw [upd_ne (nDt a1)]
            exact a1
          · rw [List.mem_singleton.mp w, upd_ne (nDt eb)]
            exact eb
      obtain ⟨ps, sG, eG, kP, tP⟩ := h
      rw [List.length_map, ← l1, List.take_of_length_le (Nat.le_refl _)] at kP
      have kP2 : ps.map (·.2.1) = ds := by
        have := congrArg (List.map (·.1)) kP
        rw [List.map_map, List.map_map] at this
        exact this.trans kP1
      have eby : byKV ps1 = byKV ps := by
        have : ∀ {as bs : List DP}, as.map (·.2) = bs.map (·.2) → byKV as = byKV bs := by
          intro as
          induction as with
          | nil =>
            intro bs h
            cases bs with
            | nil => rfl
            | cons b bs => cases h
          | cons a as ih =>
            intro bs h
            cases bs with
            | nil => cases h
            | cons b bs =>
              rw [List.map_cons, List.map_cons] at h
              injection h with h1 h2
              show (Sum.inr a.2.1, V.str a.2.2) :: byKV as = (Sum.inr b.2.1, V.str b.2.2) :: byKV bs
              rw [ih h2, h1]
        exact this kP.symm
      rw [eby] at edl
      have lps : ps.length = ds.length := by rw [← kP2, List.length_map]
      have nps : ∀ q ∈ ps, isName q.2.1 = true ∧ isName q.2.2 = true := fun q hq => ⟨nds _ (by rw [← kP2]; exact List.mem_map.mpr ⟨q, hq, rfl⟩), by
        have hm : q.2 ∈ ps1.map (·.2) := by rw [← kP]; exact List.mem_map.mpr ⟨q, hq, rfl⟩
        obtain ⟨q2, h2, e⟩ := List.mem_map.mp hm
        rw [← e]
        exact n1s q2 h2⟩
      have ndp : (ps.map (·.2.1)).Nodup := by rw [kP2]; exact ndd
      have dok : DOk ps := ⟨ndp, by omega⟩
      have edl := sG _ _ edl
      have eda := sG _ _ eda
      have epn := sG _ _ epn
      have kB := kB.trans (But.of sG)
      have k9 := k9.trans (But.of sG)
      have bD : Box G x := let ⟨q0, q1, e⟩ := bC; ⟨q0, q1, sG _ _ e⟩
      clear n1s kP sG eby l1 bC nD2
      refine ⟨D2, _, rfl, sqL_new eG, fun pr ob hob npr => ?_⟩
      have s1 := same_new (o := .frz ob (.tup (ps.map fun p => V.ref p.1))) npr
      have epr : upd G pr (.frz ob (.tup (ps.map fun p => V.ref p.1))) pr = some (.frz ob (.tup (ps.map fun p => V.ref p.1))) := upd_same
      have bE := Box.upd (o := .frz ob (.tup (ps.map fun p => V.ref p.1))) bD (Box.ne bD npr)
      have edl := s1 _ _ edl
      have eda := s1 _ _ eda
      have epn := s1 _ _ epn
      have tP : ∀ p ∈ ps, upd G pr (.frz ob (.tup (ps.map fun p => V.ref p.1))) p.1 = some (.tup [.str p.2.1, .str p.2.2]) := fun p hp => s1 _ _ (tP p hp)
      have kB := kB.trans (But.of s1)
      have k9 := k9.trans (But.of s1)
      generalize upd G pr (.frz ob (.tup (ps.map fun p => V.ref p.1))) = HD at s1 epr bE edl eda epn tP kB k9
      clear s1 npr eG bD
      -- the desks
      refine ⟨.ref dl, rfl, .inr (.inr (.inl ⟨rfl, .inl ⟨_, edl⟩⟩)), dl, _, rfl, rfl, edl, fun p1 np1 => ?_⟩
      have s1 := same_new (o := Ka.valsO p1 dl) np1
      have bF := Box.upd (o := Ka.valsO p1 dl) bE (Box.ne bE np1)
      refine ⟨p1, dl, _, rfl, upd_same, s1 _ _ edl, fun p2 np2 => ?_⟩
      have vls : (byKV ps).map (·.2) = (ps.map (·.2.2)).map V.str := by
        unfold byKV
        rw [List.map_map, List.map_map]
        rfl
      rw [vls]
      have s2 := same_new (o := .lst ((ps.map (·.2.2)).map V.str)) np2
      have bG := Box.upd (o := .lst ((ps.map (·.2.2)).map V.str)) bF (Box.ne bF np2)
      refine ⟨p2, ps.map (·.2.2), rfl, sqL_new upd_same, by rw [List.length_map]; omega, fun p3 np3 => ?_⟩
      have s3 := same_new (o := Ka.SetMO P w p3 (ps.map (·.2.2))) np3
      have bH := Box.upd (o := Ka.SetMO P w p3 (ps.map (·.2.2))) bG (Box.ne bG np3)
      refine ⟨p3, ps.map (·.2.2), rfl, upd_same, by rw [List.length_map]; omega, fun ks kd kso knd kmem nkd => ?_⟩
      have isd : IsDesks ps ks := ⟨perm_of_mem knd (uniq_nd _) fun y => (kmem y).trans (mem_uniq _ _).symm, kso⟩
      have s4 := same_new (o := .lst (ks.map V.str)) nkd
      have bE := Box.upd (o := .lst (ks.map V.str)) bH (Box.ne bH nkd)
      have hkdx := Box.ne bH nkd
      have sE : Same HD (upd (upd (upd (upd HD p1 (Ka.valsO p1 dl)) p2 (.lst ((ps.map (·.2.2)).map V.str))) p3 (Ka.SetMO P w p3 (ps.map (·.2.2)))) kd (.lst (ks.map V.str))) := (s1.trans s2).trans (s3.trans s4)
      have ekd : upd (upd (upd (upd HD p1 (Ka.valsO p1 dl)) p2 (.lst ((ps.map (·.2.2)).map V.str))) p3 (Ka.SetMO P w p3 (ps.map (·.2.2)))) kd (.lst (ks.map V.str)) kd = some (.lst (ks.map V.str)) := upd_same
      generalize upd (upd (upd (upd HD p1 (Ka.valsO p1 dl)) p2 (.lst ((ps.map (·.2.2)).map V.str))) p3 (Ka.SetMO P w p3 (ps.map (·.2.2)))) kd (.lst (ks.map V.str)) = HE at sE bE ekd
      have k9 := k9.trans (But.of sE)
      have kB := kB.trans (But.of sE)
      have edl := sE _ _ edl
      have eda := sE _ _ eda
      have epn := sE _ _ epn
      have epr := sE _ _ epr
      have tP := fun p hp => sE _ _ (tP p hp)
      have jx : offX x HE x = none := offX_none
      have S := BSt.self bE
      have hPJ : offX x HE pr = _ := offX_get (box_ne bE epr (fun _ _ e => nomatch e)) epr
      have hpsJ : ∀ q ∈ ps, offX x HE q.1 = some (.tup [.str q.2.1, .str q.2.2]) := fun q hq => offX_get (box_ne bE (tP q hq) (fun _ _ e => nomatch e)) (tP q hq)
      have hDl : offX x HE dl = _ := offX_get (box_ne bE edl (fun _ _ e => nomatch e)) edl
      have hKd : offX x HE kd = _ := offX_get hkdx ekd
      have hDa : offX x HE da = _ := offX_get hdax eda
      have hPn : offX x HE pn = _ := offX_get hpx epn
      have hB : BookAt K CB (offX x HE) bk ca cs := hB.mono fun c u e => offX_get (offX_of e).1 (k9 c u (offX_of e).1 (offX_of e).2)
      have toJ : Same H (offX x HE) := fun c u e => offX_get (ne_of_none e nxH) (toS kB c u e)
      clear sE s1 s2 s3 s4 bF bG bH np1 np2 np3 nkd vls kso knd kmem bE ekd hkdx k9 kB edl eda epn epr tP hdax hpx toS
      generalize offX x HE = J at jx S hPJ hpsJ hDl hKd hDa hPn hB toJ
      subst kP2
      have sqP : ∀ {Hk : Hp}, Same J Hk → SqT K Hk pr (ps.map fun q => V.ref q.1) := fun s => .inl (.inr ⟨ob, s _ _ hPJ⟩)
      have dlA : ∀ {Hk : Hp}, Same J Hk → DealAt K Hk pr ps := fun s => ⟨sqP s, fun q hq => s _ _ (hpsJ q hq)⟩
      have lpr : (ps.map fun q => V.ref q.1).length = ps.length := List.length_map _
      have szp := dok.sz
      have dnm : ∀ y ∈ ps.map (·.2.1), isName y = true := nds
      have knm : ∀ y ∈ ks, isName y = true := fun y hy => by
        obtain ⟨q, hq, e⟩ := List.mem_map.mp ((isd_mem isd y).mp hy)
        rw [← e]
        exact (nps q hq).2
      -- the dealing is let, the plain ones
      refine ⟨.ref bk, rfl, .ref pr, rfl, bk, ca, cs, ps.map (·.2.1), .ref pr, rfl, hB.mono S.s, hdu, dso, .inr ⟨pr, _, fun _ => true, rfl, sqP S.s, by omega, fun i y d hy hd _ => ?_, fun i hi _ hbad => ?_, fun _ => ⟨fun hlt => ?_, fun _ HF q1 sF e1 => ?_⟩⟩⟩
      · obtain ⟨q0, hq0, rfl⟩ := get_map hy
        rw [List.getElem?_map, hq0] at hd
        cases hd
        have hm := List.mem_of_getElem? hq0
        exact pair_true (S.s _ _ (hpsJ q0 hm)) (nps q0 hm).1 (nps q0 hm).2
      · rcases hbad with w | w
        · rw [List.length_map] at w
          omega
        · cases w
      · rw [List.length_map, List.length_map] at hlt
        omega
      have S := S.same sF
      refine ⟨smallE (by show 1 ≤ 1000000; decide), fun t nt => ?_⟩
      have S := S.new (o := .tup [V.str (Str.ofString "let")]) nt
      have e1 := same_new (o := .tup [V.str (Str.ofString "let")]) nt _ _ e1
      have shl : SeqAt.shaped (.tuple [.str (Str.ofString "let")]) = true := by decide +kernel
      refine ⟨.tuple [.str (Str.ofString "let")], .tuple [.str (Str.ofString "let")], .tup (sqT_new e1) (.cons (.str _) .nil), .tup (sqT_new upd_same) (.cons (.str _) .nil), shl, shl, ?_⟩
      rw [eqv_sh shl]
      refine ⟨_, rfl, iteF ?_⟩
      generalize upd HF t (.tup [V.str (Str.ofString "let")]) = HG at S
      clear e1 nt sF
      refine ⟨.ref bk, rfl, .ref da, rfl, .ref pn, rfl, pn, _, _, .str n1, rfl, rfl, sqL_new (S.s _ _ hPn), atI_nat (j := 1) rfl, bk, da, ca, cs, ps.map (·.2.1), n1, rfl, hB.mono S.s, hdu, dso, S.s _ _ hDa, nds, hn1, fun HH sH => ?_⟩
      have S := S.same sH
      refine ⟨_, rfl, iteF ?_⟩
      refine ⟨3, rfl, by decide, by decide, ?_⟩
      refine for_range (lo := 0) (n := 3) (fun _ σ Z => ∃ e11 e12 e13 e14 e15 e16 e17 e18 e19 e20, σ = [some (.ref a), some (.int (i : Nat)), some (.ref x), some (.ref pn), some (.ref da), some (.str z), some (.ref bk), some (.ref pl), some (.ref dl), some (.ref pr), some (.ref kd), e11, e12, e13, e14, e15, e16, e17, e18, e19, e20] ∧ BSt J x Z) ⟨_, _, _, _, _, _, _, _, _, _, rfl, S⟩ ?_ ?_
      · rintro i2 σ Z hi2 ⟨e11, e12, e13, e14, e15, e16, e17, e18, e19, e20, rfl, S⟩
        refine ⟨.ref x, rfl, .ref pr, rfl, .str z, rfl, x, pr, ob, ps, z, rfl, S.b, S.s _ _ hPJ, hob, fun q hq => S.s _ _ (hpsJ q hq), dok, by omega, nps, hz, fun q hq => hzd _ (List.mem_map.mpr ⟨q, hq, rfl⟩), fun H5 q5 v5 n5 k5 b5 e5 sp5 => ?_⟩
        have S5 := S.but jx k5 b5
        refine ⟨q5, _, rfl, sqT_new e5, rfl, _, _, rfl, _, _, rfl, rfl, ?_⟩
        refine ⟨.ref bk, rfl, v5, rfl, bk, ca, cs, _, v5, rfl, hB.mono S5.s, hdu, dso, told_of sp5 fun H6 p6 s6 e6 => ?_⟩
        refine ⟨.int n5, rfl, smallE (by show 2 ≤ 1000000; decide), fun t nt => ?_⟩
        have e6 := same_new (o := .tup [V.str (Str.ofString "at"), V.int n5]) nt _ _ e6
        refine ⟨.tuple [.str (Str.ofString "at"), .int n5], .tuple [.str (Str.ofString "at"), .int n5], .tup (sqT_new e6) (.cons (.str _) (.cons (.int _) .nil)), .tup (sqT_new upd_same) (.cons (.str _) (.cons (.int _) .nil)), atD_sh n5, atD_sh n5, ?_⟩
        rw [eqv_sh (atD_sh n5)]
        refine ⟨_, rfl, iteF ?_⟩
        exact ⟨_, _, _, _, _, _, _, _, _, _, rfl, (S5.same s6).new nt⟩
      rintro σ Z ⟨e11, e12, e13, e14, e15, e16, e17, e18, e19, e20, rfl, S⟩
      -- the rows
      have hdax : da ≠ x := fun w => by rw [w, jx] at hDa; cases hDa
      refine ⟨.ref x, rfl, .ref da, rfl, x, da, ps.map (·.2.1), 5, rfl, S.b, hdax, S.s _ _ hDa, by omega, by omega, by decide, fun H6 pu us k6 b6 nux eu lu mu => ?_⟩
      have S6 := S.but jx k6 b6
      refine ⟨.ref x, rfl, .ref da, rfl, x, da, ps.map (·.2.1), 8, rfl, S6.b, hdax, S6.s _ _ hDa, by omega, by omega, by decide, fun H7 pv vs k7 b7 nvx ev lv mv => ?_⟩
      have S7 := S6.but jx k7 b7
      have eu := k7 _ _ nux eu
      refine ⟨smallE (by show 2 ≤ 1000000; decide), fun t nt => ?_⟩
      refine ⟨t, _, rfl, sqT_new upd_same, rfl, _, _, rfl, _, _, rfl, rfl, ?_⟩
      have S8 := S7.new (o := .tup [V.ref pu, V.ref pv]) nt
      have eu := same_new (o := .tup [V.ref pu, V.ref pv]) nt _ _ eu
      have ev := same_new (o := .tup [V.ref pu, V.ref pv]) nt _ _ ev
      generalize upd H7 t (.tup [V.ref pu, V.ref pv]) = H8 at S8 eu ev
      have sJ := S8.off jx
      have hU : offX x H8 pu = _ := offX_get nux eu
      have hV : offX x H8 pv = _ := offX_get nvx ev
      have S := BSt.self S8.b
      have jx2 : offX x H8 x = none := offX_none
      clear k6 b6 S6 k7 b7 S7 nt eu ev S8
      generalize offX x H8 = J2 at sJ hU hV S jx2
      have nus : ∀ y ∈ us, isName y = true := fun y hy => nds y (mu y hy)
      have nvs : ∀ y ∈ vs, isName y = true := fun y hy => nds y (mv y hy)
      -- the parts
      refine ⟨.ref pr, rfl, .ref dl, rfl, .ref kd, rfl, .ref pu, rfl, pr, dl, kd, pu, ps, us, ks, rfl, dlA (sJ.trans S.s), dok, isd, knm, dso, dnm, S.s _ _ (sJ _ _ hDl), S.s _ _ (sJ _ _ hKd), sqT_new (S.s _ _ hU), by omega, nus, bad_ok ndp mu, fun H9 s9 => ⟨_, rfl, iteF ?_⟩⟩
      have S := S.same s9
      refine ⟨.ref pr, rfl, .ref dl, rfl, .ref kd, rfl, .ref pv, rfl, pr, dl, kd, pv, ps, vs, ks, rfl, dlA (sJ.trans S.s), dok, isd, knm, dso, dnm, S.s _ _ (sJ _ _ hDl), S.s _ _ (sJ _ _ hKd), sqT_new (S.s _ _ hV), by omega, nvs, bad_ok ndp mv, fun HA sA => ⟨_, rfl, iteF ?_⟩⟩
      have S := S.same sA
      clear s9 sA
      -- a stranger at a place
      refine ⟨.ref x, rfl, .ref pv, rfl, pv, _, rfl, .inr (sqT_new (S.s _ _ hV)), _, 1, rfl, rfl, x, vs.length + 1, by rw [List.length_map]; rfl, S.b, by omega, by omega, fun at_ HB hat kB bB => ?_⟩
      have S := S.but jx2 kB bB
      clear kB bB
      have lvv : (vs.map V.str).length = vs.length := List.length_map _
      refine ⟨_, rfl, .int (at_ : Nat), rfl, (at_ : Nat), rfl, ?_⟩
      refine slA_pre (n := at_) (by omega) (sqT_new (S.s _ _ hV)) fun HC c1 sC hc1 => ?_
      have S := S.same sC
      refine ⟨.str z, rfl, smallE (by show 1 ≤ 1000000; decide), fun t nt => ?_⟩
      have S := S.new (o := .tup [V.str z]) nt
      have hc1 := Same.sqT (same_new (o := .tup [V.str z]) nt) hc1
      have ht : upd HC t (.tup [V.str z]) t = some (.tup [V.str z]) := upd_same
      generalize upd HC t (.tup [V.str z]) = HD at S hc1 ht
      refine catA_any hc1 (sqT_new ht) (by rw [List.length_take]; show _ + 1 ≤ _; omega) fun HE c2 sE hc2 => ?_
      have S := S.same sE
      refine ⟨_, rfl, .int (at_ : Nat), rfl, (at_ : Nat), rfl, ?_⟩
      dsimp only [tNoPart]
      refine slA_suf (n := at_) (by omega) (sqT_new (S.s _ _ hV)) fun HF c3 sF hc3 => ?_
      have S := S.same sF
      refine catA_any (Same.sqT sF hc2) hc3 (by rw [List.length_append, List.length_take, List.length_drop]; show _ + 1 + _ ≤ _; omega) fun HG c4 sG hc4 => ?_
      have S := S.same sG
      clear hc1 hc2 hc3 ht nt sC sE sF sG
      have hc4 : SqT K HG c4 ((vs.take at_ ++ z :: vs.drop at_).map V.str) := by
        have : (vs.take at_ ++ z :: vs.drop at_).map V.str = (vs.map V.str).take at_ ++ [V.str z] ++ (vs.map V.str).drop at_ := by
          rw [List.map_append, List.map_cons, List.map_take, List.map_drop, List.append_assoc]
          rfl
        rw [this]
        exact hc4
      have hc4 := sqT_off S.b hc4
      refine ⟨.ref x, rfl, Nat.zero_le _, fun e1 ne1 => ?_⟩
      have s1 := same_new (o := .tup []) ne1
      have S1 := S.new (o := .tup []) ne1
      have h1 : upd HG e1 (.tup []) e1 = some (.tup []) := upd_same
      have he1 := Box.ne S.b ne1
      generalize upd HG e1 (.tup []) = HH at s1 S1 h1
      refine ⟨.str z, rfl, smallE (by show 1 ≤ 1000000; decide), fun e2 ne2 => ?_⟩
      have s2 := same_new (o := .tup [V.str z]) ne2
      have S2 := S1.new (o := .tup [V.str z]) ne2
      have h2 : upd HH e2 (.tup [V.str z]) e2 = some (.tup [V.str z]) := upd_same
      have he2 := Box.ne S1.b ne2
      have h1 := s2 _ _ h1
      generalize upd HH e2 (.tup [V.str z]) = HI at s2 S2 h1 h2
      refine ⟨smallE (by show 2 ≤ 1000000; decide), fun l nl => ?_⟩
      have s3 := same_new (o := .lst [V.ref e1, V.ref e2]) nl
      have S3 := S2.new (o := .lst [V.ref e1, V.ref e2]) nl
      refine ⟨x, l, [V.ref e1, V.ref e2], rfl, S3.b, Box.ne S2.b nl, .inl upd_same, Nat.succ_pos _, by show 2 < 1000000; decide, fun j v HJ hj kJ bJ => ?_⟩
      have S4 := S3.but jx2 kJ bJ
      have sK : Same (offX x HG) HJ := fun c u e => kJ c u (offX_of e).1 (s3 _ _ (s2 _ _ (s1 _ _ (offX_of e).2)))
      have hc4 := Same.sqT sK hc4
      obtain ⟨tb, tl, rfl, htl, ltl⟩ : ∃ (tb : Addr) (tl : List Str), v = .ref tb ∧ HJ tb = some (.tup (tl.map V.str)) ∧ (tl = [] ∨ tl = [z]) := by
        rcases j with _ | _ | j
        · cases hj
          exact ⟨e1, [], rfl, kJ _ _ he1 (s3 _ _ h1), .inl rfl⟩
        · cases hj
          exact ⟨e2, [z], rfl, kJ _ _ he2 (s3 _ _ h2), .inr rfl⟩
        · cases hj
      have S := S4
      clear S1 S2 S3 S4 s1 s2 s3 h1 h2 he1 he2 ne1 ne2 nl hj kJ bJ sK
      have ltl2 : tl.length ≤ 1 := by
        rcases ltl with e | e <;> rw [e]
        · exact Nat.zero_le _
        · exact Nat.le_refl _
      have l4 : (vs.take at_ ++ z :: vs.drop at_).length = vs.length + 1 := by
        rw [List.length_append, List.length_cons, List.length_take, List.length_drop]
        omega
      refine catA_any hc4 (sqT_new htl) (by rw [List.length_map, List.length_map]; omega) fun HK sr sL hsr => ?_
      have S := S.same sL
      rw [← List.map_append] at hsr
      clear hc4 htl sL
      -- the strange row
      have ews : vs.take at_ ++ z :: vs.drop at_ ++ tl = vs.take at_ ++ z :: (vs.drop at_ ++ tl) := by rw [List.append_assoc]; rfl
      have lws : (vs.take at_ ++ z :: vs.drop at_ ++ tl).length ≤ 1000 := by rw [List.length_append, l4]; omega
      have nws : ∀ y ∈ vs.take at_ ++ z :: vs.drop at_ ++ tl, isName y = true := fun y hy => by
        rcases List.mem_append.mp hy with h | h
        · rcases List.mem_append.mp h with h | h
          · exact nvs y (List.mem_of_mem_take h)
          · rcases List.mem_cons.mp h with h | h
            · rw [h]
              exact hz
            · exact nvs y (List.mem_of_mem_drop h)
        · rcases ltl with e | e
          · rw [e] at h
            cases h
          · rw [e, List.mem_singleton] at h
            rw [h]
            exact hz
      have bws : bad ps (vs.take at_ ++ z :: vs.drop at_ ++ tl) = some at_ := by
        rw [ews, bad_at ndp (fun y hy => mv y (List.mem_of_mem_take hy)) fun p hp => hzd _ (List.mem_map.mpr ⟨p, hp, rfl⟩), List.length_take, Nat.min_eq_left (by omega)]
      generalize vs.take at_ ++ z :: vs.drop at_ ++ tl = ws at lws nws bws hsr
      clear ews l4 ltl ltl2
      obtain ⟨k0, hk0⟩ : ∃ k0, ks[0]? = some k0 := by
        cases hk : ks with
        | cons k0 _ => exact ⟨k0, rfl⟩
        | nil =>
          exfalso
          cases hp : ps with
          | nil =>
            rw [hp] at lps lds
            simp only [List.map_nil, List.length_nil] at lds
            omega
          | cons p0 _ =>
            have := (isd_mem isd p0.2.2).mpr (by rw [hp]; exact List.mem_cons_self)
            rw [hk] at this
            cases this
      have hk0V : (ks.map V.str)[0]? = some (.str k0) := by rw [List.getElem?_map, hk0]; rfl
      -- one desk's part, all parts
      refine ⟨2, rfl, by decide, by decide, fun D nD => ?_⟩
      rw [show Int.toNat 2 = 2 from rfl]
      refine lc_pure (walk_r0 (n := 2)) [.non, .non] rfl nD (fun _ _ => True.intro) (fun i2 y H0 H' hi2 h0 yy => ?_) (fun HL s1 e1 => ?_)
      · obtain ⟨rfl, rfl⟩ := yy
        have S := S.same h0.1
        refine ⟨rfl, .ref pr, rfl, .ref kd, rfl, kd, _, _, .str k0, rfl, rfl, sqL_new (S.s _ _ (sJ _ _ hKd)), atI_nat (j := 0) hk0V, .ref pu, rfl, .int (i2 : Nat), rfl, pr, pu, k0, i2, ps, us, ks, rfl, dlA (sJ.trans S.s), dok, isd, sqT_new (S.s _ _ hU), by omega, fun _ H5 s5 => ?_, fun i3 hi3 => by rw [bad_ok ndp mu] at hi3; cases hi3⟩
        refine h0.put nD s5 ?_ (by decide)
        match i2, hi2 with
        | 0, _ => rfl
        | 1, _ => rfl
      have S := S.same s1
      have hsr := Same.sqT s1 hsr
      refine ⟨smallE (by show 2 ≤ 1000000; decide), fun l nl => ?_⟩
      have e1 := same_new (o := .lst [V.non, V.non]) nl _ _ e1
      refine ⟨.list [.none, .none], .list [.none, .none], .lst (sqL_new e1) (.cons .non (.cons .non .nil)), .lst (sqL_new upd_same) (.cons .non (.cons .non .nil)), by decide +kernel, by decide +kernel, ?_⟩
      rw [eqv_sh (by decide +kernel)]
      refine ⟨_, rfl, iteF ?_⟩
      have hsr := Same.sqT (same_new (o := .lst [V.non, V.non]) nl) hsr
      have S := S.new (o := .lst [V.non, V.non]) nl
      generalize upd HL l (.lst [V.non, V.non]) = HM at S hsr
      clear e1 nl s1 nD
      refine ⟨2, rfl, by decide, by decide, fun D nD => ?_⟩
      rw [show Int.toNat 2 = 2 from rfl]
      refine lc_pure (walk_r0 (n := 2)) [.int (at_ : Nat), .int (at_ : Nat)] rfl nD (fun _ _ => True.intro) (fun i2 y H0 H' hi2 h0 yy => ?_) (fun HN s1 e1 => ?_)
      · obtain ⟨rfl, rfl⟩ := yy
        have S := S.same h0.1
        refine ⟨rfl, .ref pr, rfl, .ref kd, rfl, kd, _, _, .str k0, rfl, rfl, sqL_new (S.s _ _ (sJ _ _ hKd)), atI_nat (j := 0) hk0V, .ref sr, rfl, .int (i2 : Nat), rfl, pr, sr, k0, i2, ps, ws, ks, rfl, dlA (sJ.trans S.s), dok, isd, Same.sqT h0.1 hsr, by omega, fun hb => (by rw [bws] at hb; cases hb), fun i3 hi3 H5 s5 => ?_⟩
        rw [bws] at hi3
        cases hi3
        refine h0.put nD s5 ?_ (by show 2 ≤ _; decide)
        match i2, hi2 with
        | 0, _ => rfl
        | 1, _ => rfl
      have S := S.same s1
      have hsr := Same.sqT s1 hsr
      refine ⟨.int (at_ : Nat), rfl, .int (at_ : Nat), rfl, smallE (by show 2 ≤ 1000000; decide), fun l nl => ?_⟩
      have e1 := same_new (o := .lst [V.int (at_ : Nat), V.int (at_ : Nat)]) nl _ _ e1
      have sh2 : SeqAt.shaped (.list [.int (at_ : Nat), .int (at_ : Nat)]) = true := by
        refine shaped_of ?_ ?_
        · rw [PyData.canLay0, PyData.canLayAll0, PyData.canLayAll0, PyData.canLayAll0, PyData.canLay0]
          rfl
        · simp [PyData.depth, PyData.depthAll]
      refine ⟨.list [.int (at_ : Nat), .int (at_ : Nat)], .list [.int (at_ : Nat), .int (at_ : Nat)], .lst (sqL_new e1) (.cons (.int _) (.cons (.int _) .nil)), .lst (sqL_new upd_same) (.cons (.int _) (.cons (.int _) .nil)), sh2, sh2, ?_⟩
      rw [eqv_sh sh2]
      refine ⟨_, rfl, iteF ?_⟩
      have hsr := Same.sqT (same_new (o := .lst [V.int (at_ : Nat), V.int (at_ : Nat)]) nl) hsr
      have S := S.new (o := .lst [V.int (at_ : Nat), V.int (at_ : Nat)]) nl
      generalize upd HN l (.lst [V.int (at_ : Nat), V.int (at_ : Nat)]) = HO at S hsr
      clear e1 nl s1 nD sh2
      -- pairs of rows: what is told, what is due
      have rU : ∀ {Z : Hp}, Same J2 Z → SqT K Z pu (us.map V.str) := fun s => sqT_new (s _ _ hU)
      have rV : ∀ {Z : Hp}, Same J2 Z → SqT K Z pv (vs.map V.str) := fun s => sqT_new (s _ _ hV)
      have lu3 : us.length ≤ 1000 := by omega
      have lv3 : vs.length ≤ 1000 := by omega
      refine ⟨.ref pu, rfl, .ref pv, rfl, smallE (by show 2 ≤ 1000000; decide), fun t1 m1 => ?_⟩
      have s1 := same_new (o := .tup [V.ref pu, V.ref pv]) m1
      have S := S.new (o := .tup [V.ref pu, V.ref pv]) m1
      have o1 : Ok7 K (upd HO t1 (.tup [V.ref pu, V.ref pv])) t1 := ⟨pu, pv, us, vs, upd_same, ⟨rU S.s, lu3, nus⟩, rV S.s, lv3, nvs⟩
      have hsr := Same.sqT s1 hsr
      generalize upd HO t1 (.tup [V.ref pu, V.ref pv]) = Z1 at S o1 hsr
      clear s1 m1
      refine ⟨.ref pv, rfl, .ref pu, rfl, smallE (by show 2 ≤ 1000000; decide), fun t2 m2 => ?_⟩
      have s2 := same_new (o := .tup [V.ref pv, V.ref pu]) m2
      have S := S.new (o := .tup [V.ref pv, V.ref pu]) m2
      have o2 : Ok7 K (upd Z1 t2 (.tup [V.ref pv, V.ref pu])) t2 := ⟨pv, pu, vs, us, upd_same, ⟨rV S.s, lv3, nvs⟩, rU S.s, lu3, nus⟩
      have hsr := Same.sqT s2 hsr
      have o1 := o1.mono s2
      generalize upd Z1 t2 (.tup [V.ref pv, V.ref pu]) = Z2 at S o1 o2 hsr
      clear s2 m2
      refine ⟨.ref pu, rfl, .ref pu, rfl, smallE (by show 2 ≤ 1000000; decide), fun t3 m3 => ?_⟩
      have s3 := same_new (o := .tup [V.ref pu, V.ref pu]) m3
      have S := S.new (o := .tup [V.ref pu, V.ref pu]) m3
      have o3 : Ok7 K (upd Z2 t3 (.tup [V.ref pu, V.ref pu])) t3 := ⟨pu, pu, us, us, upd_same, ⟨rU S.s, lu3, nus⟩, rU S.s, lu3, nus⟩
      have hsr := Same.sqT s3 hsr
      have o1 := o1.mono s3
      have o2 := o2.mono s3
      generalize upd Z2 t3 (.tup [V.ref pu, V.ref pu]) = Z3 at S o1 o2 o3 hsr
      clear s3 m3
      refine ⟨.ref sr, rfl, .ref pu, rfl, smallE (by show 2 ≤ 1000000; decide), fun t4 m4 => ?_⟩
      have s4 := same_new (o := .tup [V.ref sr, V.ref pu]) m4
      have S := S.new (o := .tup [V.ref sr, V.ref pu]) m4
      have hsr := Same.sqT s4 hsr
      have o4 : Ok7 K (upd Z3 t4 (.tup [V.ref sr, V.ref pu])) t4 := ⟨sr, pu, ws, us, upd_same, ⟨hsr, lws, nws⟩, rU S.s, lu3, nus⟩
      have o1 := o1.mono s4
      have o2 := o2.mono s4
      have o3 := o3.mono s4
      generalize upd Z3 t4 (.tup [V.ref sr, V.ref pu]) = Z4 at S o1 o2 o3 o4 hsr
      clear s4 m4
      refine ⟨.ref pu, rfl, .ref sr, rfl, smallE (by show 2 ≤ 1000000; decide), fun t5 m5 => ?_⟩
      have s5 := same_new (o := .tup [V.ref pu, V.ref sr]) m5
      have S := S.new (o := .tup [V.ref pu, V.ref sr]) m5
      have hsr := Same.sqT s5 hsr
      have o5 : Ok7 K (upd Z4 t5 (.tup [V.ref pu, V.ref sr])) t5 := ⟨pu, sr, us, ws, upd_same, ⟨rU S.s, lu3, nus⟩, hsr, lws, nws⟩
      have o1 := o1.mono s5
      have o2 := o2.mono s5
      have o3 := o3.mono s5
      have o4 := o4.mono s5
      generalize upd Z4 t5 (.tup [V.ref pu, V.ref sr]) = Z5 at S o1 o2 o3 o4 o5 hsr
      clear s5 m5
      refine ⟨.ref pv, rfl, pv, _, rfl, rV S.s, fun vr nvr => ?_⟩
      have s6 := same_new (o := .tup (vs.map V.str).reverse) nvr
      have S := S.new (o := .tup (vs.map V.str).reverse) nvr
      have hsr := Same.sqT s6 hsr
      have evr : upd Z5 vr (.tup (vs.map V.str).reverse) vr = some (.tup (vs.reverse.map V.str)) := by rw [upd_same, List.map_reverse]
      have o1 := o1.mono s6
      have o2 := o2.mono s6
      have o3 := o3.mono s6
      have o4 := o4.mono s6
      have o5 := o5.mono s6
      generalize upd Z5 vr (.tup (vs.map V.str).reverse) = Z6 at S o1 o2 o3 o4 o5 hsr evr
      clear s6 nvr
      refine ⟨.ref pv, rfl, smallE (by show 2 ≤ 1000000; decide), fun t6 m6 => ?_⟩
      have s6 := same_new (o := .tup [V.ref vr, V.ref pv]) m6
      have S := S.new (o := .tup [V.ref vr, V.ref pv]) m6
      have hsr := Same.sqT s6 hsr
      have o6 : Ok7 K (upd Z6 t6 (.tup [V.ref vr, V.ref pv])) t6 := ⟨vr, pv, vs.reverse, vs, upd_same, ⟨sqT_new (s6 _ _ evr), by rw [List.length_reverse]; exact lv3, fun y hy => nvs y (List.mem_reverse.mp hy)⟩, rV S.s, lv3, nvs⟩
      have o1 := o1.mono s6
      have o2 := o2.mono s6
      have o3 := o3.mono s6
      have o4 := o4.mono s6
      have o5 := o5.mono s6
      generalize upd Z6 t6 (.tup [V.ref vr, V.ref pv]) = Z7 at S o1 o2 o3 o4 o5 o6 hsr
      clear s6 m6 evr
      have lw1 : 1 ≤ ws.length := by
        cases ws with
        | nil => cases bws
        | cons _ _ => exact Nat.succ_pos _
      refine ⟨.ref sr, rfl, .ref sr, rfl, 1, rfl, ?_⟩
      dsimp only [tNoPart]
      refine slA_suf (n := 1) (by rw [List.length_map]; exact lw1) hsr fun Z8 sw s8 hsw => ?_
      have S := S.same s8
      have hsr := Same.sqT s8 hsr
      have o1 := o1.mono s8
      have o2 := o2.mono s8
      have o3 := o3.mono s8
      have o4 := o4.mono s8
      have o5 := o5.mono s8
      have o6 := o6.mono s8
      rw [← List.map_drop] at hsw
      clear s8
      refine ⟨smallE (by show 2 ≤ 1000000; decide), fun t7 m7 => ?_⟩
      have s7 := same_new (o := .tup [V.ref sr, V.ref sw]) m7
      have S := S.new (o := .tup [V.ref sr, V.ref sw]) m7
      have o7 : Ok7 K (upd Z8 t7 (.tup [V.ref sr, V.ref sw])) t7 := ⟨sr, sw, ws, ws.drop 1, upd_same, ⟨Same.sqT s7 hsr, lws, nws⟩, Same.sqT s7 hsw, by rw [List.length_drop]; omega, fun y hy => nws y (List.mem_of_mem_drop hy)⟩
      have o1 := o1.mono s7
      have o2 := o2.mono s7
      have o3 := o3.mono s7
      have o4 := o4.mono s7
      have o5 := o5.mono s7
      have o6 := o6.mono s7
      generalize upd Z8 t7 (.tup [V.ref sr, V.ref sw]) = Z9 at S o1 o2 o3 o4 o5 o6 o7
      clear s7 m7 hsw hsr
      refine ⟨smallE (by show 7 ≤ 1000000; decide), fun l nl => ?_⟩
      have sl := same_new (o := .lst [V.ref t1, V.ref t2, V.ref t3, V.ref t4, V.ref t5, V.ref t6, V.ref t7]) nl
      have S := S.new (o := .lst [V.ref t1, V.ref t2, V.ref t3, V.ref t4, V.ref t5, V.ref t6, V.ref t7]) nl
      have el : upd Z9 l (.lst [V.ref t1, V.ref t2, V.ref t3, V.ref t4, V.ref t5, V.ref t6, V.ref t7]) l = _ := upd_same
      have all7 : ∀ (j : Nat) (y : V), [V.ref t1, V.ref t2, V.ref t3, V.ref t4, V.ref t5, V.ref t6, V.ref t7][j]? = some y → ∃ T, y = .ref T ∧ Ok7 K Z9 T := fun j y hj => by
        rcases j with _ | _ | _ | _ | _ | _ | _ | j
        · cases hj
          exact ⟨_, rfl, o1⟩
        · cases hj
          exact ⟨_, rfl, o2⟩
        · cases hj
          exact ⟨_, rfl, o3⟩
        · cases hj
          exact ⟨_, rfl, o4⟩
        · cases hj
          exact ⟨_, rfl, o5⟩
        · cases hj
          exact ⟨_, rfl, o6⟩
        · cases hj
          exact ⟨_, rfl, o7⟩
        · cases hj
      clear o1 o2 o3 o4 o5 o6 o7
      have all7 : ∀ (j : Nat) (y : V), [V.ref t1, V.ref t2, V.ref t3, V.ref t4, V.ref t5, V.ref t6, V.ref t7][j]? = some y → ∃ T, y = V.ref T ∧ Ok7 K (upd Z9 l (.lst [V.ref t1, V.ref t2, V.ref t3, V.ref t4, V.ref t5, V.ref t6, V.ref t7])) T := fun j y hj => let ⟨T, h1, h2⟩ := all7 j y hj; ⟨T, h1, h2.mono sl⟩
      generalize upd Z9 l (.lst [V.ref t1, V.ref t2, V.ref t3, V.ref t4, V.ref t5, V.ref t6, V.ref t7]) = ZA at S el all7
      clear sl nl
      refine ⟨l, rfl, ⟨_, sqL_new el⟩, ?_⟩
      refine for_it (D := { nx := _, rt := Q }) (walk_list (K := K) (a := l) (xs := [V.ref t1, V.ref t2, V.ref t3, V.ref t4, V.ref t5, V.ref t6, V.ref t7])) (fun _ σ Z => ∃ e11 e12 e13 e14 e15 e16 e17 e18 e19 e20, σ = [some (.ref a), some (.int (i : Nat)), some (.ref x), some (.ref pn), some (.ref da), some (.str z), some (.ref bk), some (.ref pl), some (.ref dl), some (.ref pr), some (.ref kd), e11, e12, e13, e14, e15, e16, e17, e18, e19, e20] ∧ Same ZA Z) ⟨_, _, _, _, _, _, _, _, _, _, rfl, fun _ _ e => e⟩ (fun _ σ Z _ h => ?_) (fun j y σ Z Z' hj h yy => ?_) (fun σ Z h => ?_)
      · obtain ⟨_, _, _, _, _, _, _, _, _, _, _, sZ⟩ := h
        exact sqL_new (sZ _ _ el)
      · obtain ⟨rfl, hy⟩ := yy
        obtain ⟨e11, e12, e13, e14, e15, e16, e17, e18, e19, e20, rfl, sZ⟩ := h
        obtain ⟨T, rfl, r1, r2, u1, z1, hT, ⟨g1, g2, g3⟩, g4, g5, g6⟩ := all7 j y hy
        have S := S.same sZ
        refine ⟨T, _, rfl, sqT_new (sZ _ _ hT), rfl, _, _, rfl, _, _, rfl, rfl, ?_⟩
        refine ⟨.ref dl, rfl, .ref pr, rfl, .ref r1, rfl, .ref r2, rfl, .ref dl, pr, r1, r2, ps, u1, z1, ks, rfl, dlA (sJ.trans S.s), dok, isd, knm, Same.sqT sZ g1, g2, g3, Same.sqT sZ g4, g5, g6, ans_of fun H5 p5 s5 e5 => ?_⟩
        have sZ5 := sZ.trans s5
        have S := S.same s5
        refine ⟨.ref dl, rfl, .ref kd, rfl, .ref r1, rfl, .ref r2, rfl, dl, kd, r1, r2, ps, u1, z1, ks, rfl, S.s _ _ (sJ _ _ hDl), dok, isd, S.s _ _ (sJ _ _ hKd), Same.sqT sZ5 g1, g2, g3, Same.sqT sZ5 g4, g5, g6, ans_of fun H6 p6 s6 e6 => ?_⟩
        have shA := ansD_sh ps u1 z1 ks
        refine ⟨_, _, ans_dp (s6 _ _ e5), ans_dp e6, shA, shA, ?_⟩
        rw [eqv_sh shA]
        refine ⟨_, rfl, iteF ?_⟩
        exact ⟨_, _, _, _, _, _, _, _, _, _, rfl, sZ5.trans s6⟩
      obtain ⟨e11, e12, e13, e14, e15, e16, e17, e18, e19, e20, rfl, sZ⟩ := h
      have S := S.same sZ
      clear all7 el sZ
      -- the desks of the deeds
      refine ⟨.ref pr, rfl, .str z, rfl, pr, ps, z, rfl, dlA (sJ.trans S.s), dok, fun HP sP => ?_⟩
      rw [deskOf_not fun p hp => hzd _ (List.mem_map.mpr ⟨p, hp, rfl⟩)]
      have S := S.same sP
      refine ⟨rfl, _, rfl, iteF ?_⟩
      have kind : ∀ {i2 : Nat} {d : Str}, (ps.map (·.2.1))[i2]? = some d → ∃ k, deskOf ps d = some k ∧ ((ps.map (·.2.2)).map V.str)[i2]? = some (.str k) := fun {i2 d} h => by
        cases hp : ps[i2]? with
        | none =>
          rw [List.getElem?_map, hp] at h
          cases h
        | some p =>
          rw [List.getElem?_map, hp] at h
          cases h
          exact ⟨p.2.2, deskOf_self ndp (List.mem_of_getElem? hp), by rw [List.getElem?_map, List.getElem?_map, hp]; rfl⟩
      have eda := S.s _ _ (sJ _ _ hDa)
      refine ⟨.ref da, rfl, da, rfl, ⟨_, sqL_new eda⟩, fun D nD => ?_⟩
      refine lc_pure (walk_list (K := K) (a := da) (xs := (ps.map (·.2.1)).map V.str)) ((ps.map (·.2.2)).map V.str) (by simp) nD (fun _ s => sqL_new (s _ _ eda)) (fun i2 y H0 H' hi2 h0 yy => ?_) (fun HQ s1 e1 => ?_)
      · obtain ⟨rfl, hy⟩ := yy
        obtain ⟨d, hd, rfl⟩ := get_map hy
        obtain ⟨k, hk, hv⟩ := kind hd
        have S := S.same h0.1
        refine ⟨rfl, .ref pr, rfl, .str d, rfl, pr, ps, d, rfl, dlA (sJ.trans S.s), dok, fun H5 s5 => ?_⟩
        rw [hk]
        exact h0.put nD s5 hv (by simp only [List.length_map]; omega)
      have S := S.same s1
      have eda := S.s _ _ (sJ _ _ hDa)
      clear nD s1 sP
      refine ⟨.ref da, rfl, da, rfl, ⟨_, sqL_new eda⟩, fun D2 nD2 => ?_⟩
      refine lc_pure (walk_list (K := K) (a := da) (xs := (ps.map (·.2.1)).map V.str)) ((ps.map (·.2.2)).map V.str) (by simp) nD2 (fun _ s => sqL_new (s _ _ eda)) (fun i2 y H0 H' hi2 h0 yy => ?_) (fun HR s2 e2 => ?_)
      · obtain ⟨rfl, hy⟩ := yy
        obtain ⟨d, hd, rfl⟩ := get_map hy
        obtain ⟨k, hk, hv⟩ := kind hd
        have S := S.same h0.1
        have g1 : DGet H' dl (.str d) (some (.str k)) := by
          have := DGet.k (k := Sum.inr d) (S.s _ _ (sJ _ _ hDl))
          rw [valV_by, hk] at this
          exact this
        refine ⟨rfl, .ref dl, rfl, .str d, rfl, dl, .str k, rfl, g1, ?_⟩
        exact h0.put nD2 (fun _ _ e => e) hv (by simp only [List.length_map]; omega)
      have S := S.same s2
      have shk : SeqAt.shaped (.list ((ps.map (·.2.2)).map PyData.str)) = true := strsD_sh fun y hy => by
        obtain ⟨q, hq, e⟩ := List.mem_map.mp hy
        rw [← e]
        exact (nps q hq).2
      refine ⟨_, _, .lst (sqL_new (s2 _ _ e1)) (dpRs _), .lst (sqL_new e2) (dpRs _), shk, shk, ?_⟩
      rw [eqv_sh shk]
      refine ⟨_, rfl, iteF ?_⟩
      clear e1 e2 s2 nD2 shk kind eda
      have hzl : z.length ≤ 5 := by
        unfold isName at hz
        rw [Bool.and_eq_true, Bool.and_eq_true] at hz
        exact of_decide_eq_true hz.1.2
      refine ⟨.ref pr, rfl, .str z, rfl, .str z, rfl, z, rfl, smallE (by omega), 5, _, rfl, rfl, _, rfl, Str.ofString "q", rfl, smallE (by decide +kernel), ?_⟩
      have hcq : (cutS (Str.ofString "q") none (some (5 - (z.length : Int)))).length ≤ 1 := Nat.le_trans (cutS_length _ _ _) (by decide +kernel)
      generalize ecq : cutS (Str.ofString "q") none (some (5 - (z.length : Int))) = cq at hcq ⊢
      refine ⟨z, cq, rfl, rfl, smallE (by omega), pr, ps, z ++ cq, rfl, dlA (sJ.trans S.s), dok, fun HS q5 s5 n5 e5 => ⟨Nat.zero_le _, fun t nt => ?_⟩⟩
      have S := (S.same s5).new (o := .tup []) nt
      have e5 := same_new (o := .tup []) nt _ _ e5
      have shd : SeqAt.shaped (Ka.rowD ((ps.filter fun p => decide (p.2.2 = z ++ cq)).map (·.2.1))) = true := shR fun y hy => by
        obtain ⟨q, hq, e⟩ := List.mem_map.mp hy
        rw [← e]
        exact (nps q (List.mem_filter.mp hq).1).1
      refine ⟨_, Ka.rowD [], dpR e5, .tup (sqT_new upd_same) .nil, shd, by decide +kernel, ?_⟩
      rw [eqR]
      refine ⟨_, rfl, ite2 (fun c => ?_) (fun c => ?_)⟩
      · have hin : inV (.str (z ++ cq)) (ks.map V.str) = true := by
          obtain ⟨q, hq, eq⟩ : ∃ q ∈ ps, q.2.2 = z ++ cq := by
            cases hf : ps.filter fun p => decide (p.2.2 = z ++ cq) with
            | nil =>
              rw [hf] at c
              cases c
            | cons q _ =>
              have hm := List.mem_filter.mp (show q ∈ ps.filter fun p => decide (p.2.2 = z ++ cq) by rw [hf]; exact List.mem_cons_self)
              exact ⟨q, hm.1, of_decide_eq_true hm.2⟩
          unfold inV
          refine List.any_eq_true.mpr ⟨.str (z ++ cq), List.mem_map.mpr ⟨z ++ cq, (isd_mem isd _).mpr (List.mem_map.mpr ⟨q, hq, eq⟩), rfl⟩, ?_⟩
          show (z ++ cq == z ++ cq) = true
          exact beq_self_eq_true _
        refine ⟨.str z, rfl, .str z, rfl, z, rfl, smallE (by omega), 5, _, rfl, rfl, _, rfl, Str.ofString "q", rfl, smallE (by decide +kernel), ?_⟩
        rw [ecq]
        refine ⟨z, cq, rfl, rfl, smallE (by omega), .ref kd, rfl, kd, _, rfl, .inl (sqL_new (S.s _ _ (sJ _ _ hKd))), rfl, by rw [List.all_map]; exact List.all_eq_true.mpr fun _ _ => rfl, ?_⟩
        rw [hin]
        refine ⟨_, rfl, iteF ?_⟩
        exact ⟨_, _, _, _, _, _, _, _, _, _, _, _, _, _, _, _, _, _, _, _, rfl, toJ.trans (sJ.trans S.s)⟩
      · refine iteF ?_
        exact ⟨_, _, _, _, _, _, _, _, _, _, _, _, _, _, _, _, _, _, _, _, rfl, toJ.trans (sJ.trans S.s)⟩
    · rintro σ H9 ⟨d1, d2, d3, d4, d5, d6, d7, d8, d9, d10, d11, d12, d13, d14, d15, d16, d17, d18, d19, d20, rfl, s00⟩
      refine ⟨by show 1 ≤ 1000; decide, fun e1 ne1 => ⟨e1, .int 0, rfl, upd_same, fun dx n1 n2 => ⟨rfl, ?_⟩⟩⟩
      refine ⟨e1, dx, [("at", .int 0)], .ref CR, .ref CR, false, rfl, upd_same, by rw [upd_ne n2]; exact upd_same, fun u h => h, kR, ?_⟩
      refine ⟨_, rfl, _, rfl, iteYes rfl ?_⟩
      refine ⟨by show 1 ≤ 1000; decide, fun e2 ne2 => ⟨e2, .int 0, rfl, upd_same, fun dx2 n3 n4 => ⟨rfl, ?_⟩⟩⟩
      refine ⟨e2, dx2, [("at", .int 0)], .ref CS, .ref CS, true, rfl, upd_same, by rw [upd_ne n4]; exact upd_same, fun u h => h, kS, ?_⟩
      exact q _
end
end Kb
namespace Kb
open PySem PySem.Spec PyProof.Rows L2
/-! ### the end: what the top has written -/
theorem all_mk {l : PySem.W.OpenLaw} {w : World} {K : PySem.W.Frag} {h : Heap} {mg : Str → Option Value} {fa CB CRw CDl DOd CSt : Addr} (X : K.In h) (G : h.Ns mainGlobals mg) (hfa : mg "law" = some (.ref fa))
    {fIi fIn fNt fNm fLt fIl fWi fCd fPo fOd fOw fDo fDa fDf fDd fCk fPa fPs fWb fSb fVa fCe fCt fIc fAe fAt fIs fDi fLe fBx fTk fPk fNn fLi fLp fLb fLk fLr fLz fLtd fLal fLf fLdu fLq fLpl fLa fBi fBd fIRw fIDl : Addr} {odIi anIi odIn anIn odNt anNt odNm anNm odLt anLt odIl anIl odWi anWi odCd anCd odPo anPo odOd anOd odOw anOw odDo anDo odDa anDa odDf anDf odDd anDd odCk anCk odPa anPa odPs anPs odWb anWb odSb anSb odVa anVa odCe anCe odCt anCt odIc anIc odAe anAe odAt anAt odIs anIs odDi anDi odLe anLe odBx anBx odTk anTk odPk anPk odNn anNn odLi anLi odLp anLp odLb anLb odLk anLk odLr anLr odLz anLz odLtd anLtd odLal anLal odLf anLf odLdu anLdu odLq anLq odLpl anLpl odLa anLa odBi anBi odBd anBd odIRw anIRw odIDl anIDl : Option Addr} {slIi slIn slNt slNm slLt slIl slWi slCd slPo slOd slOw slDo slDa slDf slDd slCk slPa slPs slWb slSb slVa slCe slCt slIc slAe slAt slIs slDi slLe slBx slTk slPk slNn slLi slLp slLb slLk slLr slLz slLtd slLal slLf slLdu slLq slLpl slLa slBi slBd slIRw slIDl : Array (Option Value)}
    {ocIi dcIi pmIi ctIi cdIi kVIi ocIn dcIn pmIn ctIn cdIn kVIn ocNt dcNt pmNt ctNt cdNt kVNt ocNm dcNm pmNm ctNm cdNm kVNm ocLt dcLt pmLt ctLt cdLt kVLt ocIl dcIl pmIl ctIl cdIl kVIl ocWi dcWi pmWi ctWi cdWi kVWi ocCd dcCd pmCd ctCd cdCd kVCd ocPo dcPo pmPo ctPo cdPo kVPo ocOd dcOd pmOd ctOd cdOd ocOw dcOw pmOw ctOw cdOw kVOw ocDo dcDo pmDo ctDo cdDo kVDo ocDa dcDa pmDa ctDa cdDa kVDa ocDf dcDf pmDf ctDf cdDf kVDf ocDd dcDd pmDd ctDd cdDd kVDd ocCk dcCk pmCk ctCk cdCk kVCk ocPa dcPa pmPa ctPa cdPa kVPa ocPs dcPs pmPs ctPs cdPs kVPs ocWb dcWb pmWb ctWb cdWb kVWb ocSb dcSb pmSb ctSb cdSb kVSb ocVa dcVa pmVa ctVa cdVa kVVa ocCe dcCe pmCe ctCe cdCe kVCe ocCt dcCt pmCt ctCt cdCt kVCt ocIc dcIc pmIc ctIc cdIc kVIc ocAe dcAe pmAe ctAe cdAe kVAe ocAt dcAt pmAt ctAt cdAt kVAt ocIs dcIs pmIs ctIs cdIs kVIs ocDi dcDi pmDi ctDi cdDi kVDi ocLe dcLe pmLe ctLe cdLe kVLe ocBx dcBx pmBx ctBx cdBx kVBx ocTk dcTk pmTk ctTk cdTk kVTk ocPk dcPk pmPk ctPk cdPk kVPk ocNn dcNn pmNn ctNn cdNn kVNn ocLi dcLi pmLi ctLi cdLi kVLi ocLp dcLp pmLp ctLp cdLp kVLp ocLb dcLb pmLb ctLb cdLb kVLb ocLk dcLk pmLk ctLk cdLk kVLk ocLr dcLr pmLr ctLr cdLr kVLr ocLz dcLz pmLz ctLz cdLz kVLz ocLtd dcLtd pmLtd ctLtd cdLtd kVLtd ocLal dcLal pmLal ctLal cdLal kVLal ocLf dcLf pmLf ctLf cdLf kVLf ocLdu dcLdu pmLdu ctLdu cdLdu kVLdu ocLq dcLq pmLq ctLq cdLq kVLq ocLpl dcLpl pmLpl ctLpl cdLpl kVLpl ocLa dcLa pmLa ctLa cdLa kVLa ocBi dcBi pmBi ctBi cdBi kVBi ocBd dcBd pmBd ctBd cdBd kVBd ocIRw dcIRw pmIRw ctIRw cdIRw kVIRw ocIDl dcIDl pmIDl ctIDl cdIDl kVIDl : Value} {t_LONGEST_NAME t_MOST_COURSES t_MOST_STAGES t_MOST_STAGES_TOGETHER t_MOST_DEEDS : Tok} {tkOd : Tok}
    (nIi : PySem.W.nsIn K mainGlobals "is_integer" = some (some (.ref fIi)))
    (lIi : K.lookup fIi = some ⟨ocIi, odIi, .func (PySem.W.fnOf "is_integer" "is_integer" (defArgs sIsInt) (defBody sIsInt) (defScope sIsInt) .none kVIi dcIi pmIi anIi cdIi ctIi), slIi⟩)
    (cIi : PySem.W.codeIn K cdIi "is_integer" = true) (kIi : PySem.W.keepIn K (.ref fIi) = true)
    (nIn : PySem.W.nsIn K mainGlobals "is_number" = some (some (.ref fIn)))
    (lIn : K.lookup fIn = some ⟨ocIn, odIn, .func (PySem.W.fnOf "is_number" "is_number" (defArgs sIsNum) (defBody sIsNum) (defScope sIsNum) .none kVIn dcIn pmIn anIn cdIn ctIn), slIn⟩)
    (cIn : PySem.W.codeIn K cdIn "is_number" = true) (kIn : PySem.W.keepIn K (.ref fIn) = true)
    (nNt : PySem.W.nsIn K mainGlobals "is_number_to" = some (some (.ref fNt)))
    (lNt : K.lookup fNt = some ⟨ocNt, odNt, .func (PySem.W.fnOf "is_number_to" "is_number_to" (defArgs sIsNumTo) (defBody sIsNumTo) (defScope sIsNumTo) .none kVNt dcNt pmNt anNt cdNt ctNt), slNt⟩)
    (cNt : PySem.W.codeIn K cdNt "is_number_to" = true) (kNt : PySem.W.keepIn K (.ref fNt) = true)
    (nNm : PySem.W.nsIn K mainGlobals "is_name" = some (some (.ref fNm)))
    (lNm : K.lookup fNm = some ⟨ocNm, odNm, .func (PySem.W.fnOf "is_name" "is_name" (defArgs sName) (defBody sName) (defScope sName) .none kVNm dcNm pmNm anNm cdNm ctNm), slNm⟩)
    (cNm : PySem.W.codeIn K cdNm "is_name" = true) (kNm : PySem.W.keepIn K (.ref fNm) = true)
    (nLt : PySem.W.nsIn K mainGlobals "is_letter" = some (some (.ref fLt)))
    (lLt : K.lookup fLt = some ⟨ocLt, odLt, .func (PySem.W.fnOf "is_letter" "is_letter" (defArgs sLetter) (defBody sLetter) (defScope sLetter) .none kVLt dcLt pmLt anLt cdLt ctLt), slLt⟩)
    (cLt : PySem.W.codeIn K cdLt "is_letter" = true) (kLt : PySem.W.keepIn K (.ref fLt) = true)
    (nIl : PySem.W.nsIn K mainGlobals "is_lot" = some (some (.ref fIl)))
    (lIl : K.lookup fIl = some ⟨ocIl, odIl, .func (PySem.W.fnOf "is_lot" "is_lot" (defArgs sIsLot) (defBody sIsLot) (defScope sIsLot) .none kVIl dcIl pmIl anIl cdIl ctIl), slIl⟩)
    (cIl : PySem.W.codeIn K cdIl "is_lot" = true) (kIl : PySem.W.keepIn K (.ref fIl) = true)
    (nWi : PySem.W.nsIn K mainGlobals "within" = some (some (.ref fWi)))
    (lWi : K.lookup fWi = some ⟨ocWi, odWi, .func (PySem.W.fnOf "within" "within" (defArgs sWithin) (defBody sWithin) (defScope sWithin) .none kVWi dcWi pmWi anWi cdWi ctWi), slWi⟩)
    (cWi : PySem.W.codeIn K cdWi "within" = true) (kWi : PySem.W.keepIn K (.ref fWi) = true)
    (nCd : PySem.W.nsIn K mainGlobals "check_dealing" = some (some (.ref fCd)))
    (lCd : K.lookup fCd = some ⟨ocCd, odCd, .func (PySem.W.fnOf "check_dealing" "check_dealing" (defArgs sChDeal) (defBody sChDeal) (defScope sChDeal) .none kVCd dcCd pmCd anCd cdCd ctCd), slCd⟩)
    (cCd : PySem.W.codeIn K cdCd "check_dealing" = true) (kCd : PySem.W.keepIn K (.ref fCd) = true)
    (nPo : PySem.W.nsIn K mainGlobals "is_pair_of" = some (some (.ref fPo)))
    (lPo : K.lookup fPo = some ⟨ocPo, odPo, .func (PySem.W.fnOf "is_pair_of" "is_pair_of" (defArgs sPairOf) (defBody sPairOf) (defScope sPairOf) .none kVPo dcPo pmPo anPo cdPo ctPo), slPo⟩)
    (cPo : PySem.W.codeIn K cdPo "is_pair_of" = true) (kPo : PySem.W.keepIn K (.ref fPo) = true)
    (nOd : PySem.W.nsIn K mainGlobals "one_desk" = some (some (.ref fOd)))
    (lOd : K.lookup fOd = some ⟨ocOd, odOd, .func (PySem.W.fnOf "one_desk" "one_desk" (defArgs sOneDesk) (defBody sOneDesk) (defScope sOneDesk) .none (.ref DOd) dcOd pmOd anOd cdOd ctOd), slOd⟩)
    (cOd : PySem.W.codeIn K cdOd "one_desk" = true) (kOd : PySem.W.keepIn K (.ref fOd) = true)
    (kdOd : PySem.W.nsIn K DOd "desk" = some (some (.str "one" tkOd)))
    (nOw : PySem.W.nsIn K mainGlobals "own_desks" = some (some (.ref fOw)))
    (lOw : K.lookup fOw = some ⟨ocOw, odOw, .func (PySem.W.fnOf "own_desks" "own_desks" (defArgs sOwnDesks) (defBody sOwnDesks) (defScope sOwnDesks) .none kVOw dcOw pmOw anOw cdOw ctOw), slOw⟩)
    (cOw : PySem.W.codeIn K cdOw "own_desks" = true) (kOw : PySem.W.keepIn K (.ref fOw) = true)
    (nDo : PySem.W.nsIn K mainGlobals "desks_of" = some (some (.ref fDo)))
    (lDo : K.lookup fDo = some ⟨ocDo, odDo, .func (PySem.W.fnOf "desks_of" "desks_of" (defArgs sDesksOf) (defBody sDesksOf) (defScope sDesksOf) .none kVDo dcDo pmDo anDo cdDo ctDo), slDo⟩)
    (cDo : PySem.W.codeIn K cdDo "desks_of" = true) (kDo : PySem.W.keepIn K (.ref fDo) = true)
    (nDa : PySem.W.nsIn K mainGlobals "deeds_at" = some (some (.ref fDa)))
    (lDa : K.lookup fDa = some ⟨ocDa, odDa, .func (PySem.W.fnOf "deeds_at" "deeds_at" (defArgs sDeedsAt) (defBody sDeedsAt) (defScope sDeedsAt) .none kVDa dcDa pmDa anDa cdDa ctDa), slDa⟩)
    (cDa : PySem.W.codeIn K cdDa "deeds_at" = true) (kDa : PySem.W.keepIn K (.ref fDa) = true)
    (nDf : PySem.W.nsIn K mainGlobals "desk_of" = some (some (.ref fDf)))
    (lDf : K.lookup fDf = some ⟨ocDf, odDf, .func (PySem.W.fnOf "desk_of" "desk_of" (defArgs sDeskOf) (defBody sDeskOf) (defScope sDeskOf) .none kVDf dcDf pmDf anDf cdDf ctDf), slDf⟩)
    (cDf : PySem.W.codeIn K cdDf "desk_of" = true) (kDf : PySem.W.keepIn K (.ref fDf) = true)
    (nDd : PySem.W.nsIn K mainGlobals "desks_by_deed" = some (some (.ref fDd)))
    (lDd : K.lookup fDd = some ⟨ocDd, odDd, .func (PySem.W.fnOf "desks_by_deed" "desks_by_deed" (defArgs sByDeed) (defBody sByDeed) (defScope sByDeed) .none kVDd dcDd pmDd anDd cdDd ctDd), slDd⟩)
    (cDd : PySem.W.codeIn K cdDd "desks_by_deed" = true) (kDd : PySem.W.keepIn K (.ref fDd) = true)
    (nCk : PySem.W.nsIn K mainGlobals "check_deeds" = some (some (.ref fCk)))
    (lCk : K.lookup fCk = some ⟨ocCk, odCk, .func (PySem.W.fnOf "check_deeds" "check_deeds" (defArgs sChDeeds) (defBody sChDeeds) (defScope sChDeeds) .none kVCk dcCk pmCk anCk cdCk ctCk), slCk⟩)
    (cCk : PySem.W.codeIn K cdCk "check_deeds" = true) (kCk : PySem.W.keepIn K (.ref fCk) = true)
    (nPa : PySem.W.nsIn K mainGlobals "part" = some (some (.ref fPa)))
    (lPa : K.lookup fPa = some ⟨ocPa, odPa, .func (PySem.W.fnOf "part" "part" (defArgs sPart) (defBody sPart) (defScope sPart) .none kVPa dcPa pmPa anPa cdPa ctPa), slPa⟩)
    (cPa : PySem.W.codeIn K cdPa "part" = true) (kPa : PySem.W.keepIn K (.ref fPa) = true)
    (nPs : PySem.W.nsIn K mainGlobals "parts" = some (some (.ref fPs)))
    (lPs : K.lookup fPs = some ⟨ocPs, odPs, .func (PySem.W.fnOf "parts" "parts" (defArgs sParts) (defBody sParts) (defScope sParts) .none kVPs dcPs pmPs anPs cdPs ctPs), slPs⟩)
    (cPs : PySem.W.codeIn K cdPs "parts" = true) (kPs : PySem.W.keepIn K (.ref fPs) = true)
    (nWb : PySem.W.nsIn K mainGlobals "within_by" = some (some (.ref fWb)))
    (lWb : K.lookup fWb = some ⟨ocWb, odWb, .func (PySem.W.fnOf "within_by" "within_by" (defArgs sWithinBy) (defBody sWithinBy) (defScope sWithinBy) .none kVWb dcWb pmWb anWb cdWb ctWb), slWb⟩)
    (cWb : PySem.W.codeIn K cdWb "within_by" = true) (kWb : PySem.W.keepIn K (.ref fWb) = true)
    (nSb : PySem.W.nsIn K mainGlobals "same_by" = some (some (.ref fSb)))
    (lSb : K.lookup fSb = some ⟨ocSb, odSb, .func (PySem.W.fnOf "same_by" "same_by" (defArgs sSameBy) (defBody sSameBy) (defScope sSameBy) .none kVSb dcSb pmSb anSb cdSb ctSb), slSb⟩)
    (cSb : PySem.W.codeIn K cdSb "same_by" = true) (kSb : PySem.W.keepIn K (.ref fSb) = true)
    (nVa : PySem.W.nsIn K mainGlobals "view_at" = some (some (.ref fVa)))
    (lVa : K.lookup fVa = some ⟨ocVa, odVa, .func (PySem.W.fnOf "view_at" "view_at" (defArgs sViewAt) (defBody sViewAt) (defScope sViewAt) .none kVVa dcVa pmVa anVa cdVa ctVa), slVa⟩)
    (cVa : PySem.W.codeIn K cdVa "view_at" = true) (kVa : PySem.W.keepIn K (.ref fVa) = true)
    (nCe : PySem.W.nsIn K mainGlobals "check_each" = some (some (.ref fCe)))
    (lCe : K.lookup fCe = some ⟨ocCe, odCe, .func (PySem.W.fnOf "check_each" "check_each" (defArgs sChEach) (defBody sChEach) (defScope sChEach) .none kVCe dcCe pmCe anCe cdCe ctCe), slCe⟩)
    (cCe : PySem.W.codeIn K cdCe "check_each" = true) (kCe : PySem.W.keepIn K (.ref fCe) = true)
    (nCt : PySem.W.nsIn K mainGlobals "check_together" = some (some (.ref fCt)))
    (lCt : K.lookup fCt = some ⟨ocCt, odCt, .func (PySem.W.fnOf "check_together" "check_together" (defArgs sChTog) (defBody sChTog) (defScope sChTog) .none kVCt dcCt pmCt anCt cdCt ctCt), slCt⟩)
    (cCt : PySem.W.codeIn K cdCt "check_together" = true) (kCt : PySem.W.keepIn K (.ref fCt) = true)
    (nIc : PySem.W.nsIn K mainGlobals "is_course" = some (some (.ref fIc)))
    (lIc : K.lookup fIc = some ⟨ocIc, odIc, .func (PySem.W.fnOf "is_course" "is_course" (defArgs sIsCourse) (defBody sIsCourse) (defScope sIsCourse) .none kVIc dcIc pmIc anIc cdIc ctIc), slIc⟩)
    (cIc : PySem.W.codeIn K cdIc "is_course" = true) (kIc : PySem.W.keepIn K (.ref fIc) = true)
    (nAe : PySem.W.nsIn K mainGlobals "are_ends" = some (some (.ref fAe)))
    (lAe : K.lookup fAe = some ⟨ocAe, odAe, .func (PySem.W.fnOf "are_ends" "are_ends" (defArgs sAreEnds) (defBody sAreEnds) (defScope sAreEnds) .none kVAe dcAe pmAe anAe cdAe ctAe), slAe⟩)
    (cAe : PySem.W.codeIn K cdAe "are_ends" = true) (kAe : PySem.W.keepIn K (.ref fAe) = true)
    (nAt : PySem.W.nsIn K mainGlobals "are_steps" = some (some (.ref fAt)))
    (lAt : K.lookup fAt = some ⟨ocAt, odAt, .func (PySem.W.fnOf "are_steps" "are_steps" (defArgs sAreSteps) (defBody sAreSteps) (defScope sAreSteps) .none kVAt dcAt pmAt anAt cdAt ctAt), slAt⟩)
    (cAt : PySem.W.codeIn K cdAt "are_steps" = true) (kAt : PySem.W.keepIn K (.ref fAt) = true)
    (nIs : PySem.W.nsIn K mainGlobals "is_step" = some (some (.ref fIs)))
    (lIs : K.lookup fIs = some ⟨ocIs, odIs, .func (PySem.W.fnOf "is_step" "is_step" (defArgs sIsStep) (defBody sIsStep) (defScope sIsStep) .none kVIs dcIs pmIs anIs cdIs ctIs), slIs⟩)
    (cIs : PySem.W.codeIn K cdIs "is_step" = true) (kIs : PySem.W.keepIn K (.ref fIs) = true)
    (nDi : PySem.W.nsIn K mainGlobals "deeds_in" = some (some (.ref fDi)))
    (lDi : K.lookup fDi = some ⟨ocDi, odDi, .func (PySem.W.fnOf "deeds_in" "deeds_in" (defArgs sDeedsIn) (defBody sDeedsIn) (defScope sDeedsIn) .none kVDi dcDi pmDi anDi cdDi ctDi), slDi⟩)
    (cDi : PySem.W.codeIn K cdDi "deeds_in" = true) (kDi : PySem.W.keepIn K (.ref fDi) = true)
    (nLe : PySem.W.nsIn K mainGlobals "leaving_of" = some (some (.ref fLe)))
    (lLe : K.lookup fLe = some ⟨ocLe, odLe, .func (PySem.W.fnOf "leaving_of" "leaving_of" (defArgs sLeaving) (defBody sLeaving) (defScope sLeaving) .none kVLe dcLe pmLe anLe cdLe ctLe), slLe⟩)
    (cLe : PySem.W.codeIn K cdLe "leaving_of" = true) (kLe : PySem.W.keepIn K (.ref fLe) = true)
    (nBx : PySem.W.nsIn K mainGlobals "_law_box" = some (some (.ref fBx)))
    (lBx : K.lookup fBx = some ⟨ocBx, odBx, .func (PySem.W.fnOf "_law_box" "_law_box" (defArgs sBox) (defBody sBox) (defScope sBox) .none kVBx dcBx pmBx anBx cdBx ctBx), slBx⟩)
    (cBx : PySem.W.codeIn K cdBx "_law_box" = true) (kBx : PySem.W.keepIn K (.ref fBx) = true)
    (nTk : PySem.W.nsIn K mainGlobals "_law_take" = some (some (.ref fTk)))
    (lTk : K.lookup fTk = some ⟨ocTk, odTk, .func (PySem.W.fnOf "_law_take" "_law_take" (defArgs sTake) (defBody sTake) (defScope sTake) .none kVTk dcTk pmTk anTk cdTk ctTk), slTk⟩)
    (cTk : PySem.W.codeIn K cdTk "_law_take" = true) (kTk : PySem.W.keepIn K (.ref fTk) = true)
    (nPk : PySem.W.nsIn K mainGlobals "_law_pick" = some (some (.ref fPk)))
    (lPk : K.lookup fPk = some ⟨ocPk, odPk, .func (PySem.W.fnOf "_law_pick" "_law_pick" (defArgs sPick) (defBody sPick) (defScope sPick) .none kVPk dcPk pmPk anPk cdPk ctPk), slPk⟩)
    (cPk : PySem.W.codeIn K cdPk "_law_pick" = true) (kPk : PySem.W.keepIn K (.ref fPk) = true)
    (nNn : PySem.W.nsIn K mainGlobals "_law_names" = some (some (.ref fNn)))
    (lNn : K.lookup fNn = some ⟨ocNn, odNn, .func (PySem.W.fnOf "_law_names" "_law_names" (defArgs sNames) (defBody sNames) (defScope sNames) .none kVNn dcNn pmNn anNn cdNn ctNn), slNn⟩)
    (cNn : PySem.W.codeIn K cdNn "_law_names" = true) (kNn : PySem.W.keepIn K (.ref fNn) = true)
    (nLi : PySem.W.nsIn K mainGlobals "_law_in" = some (some (.ref fLi)))
    (lLi : K.lookup fLi = some ⟨ocLi, odLi, .func (PySem.W.fnOf "_law_in" "_law_in" (defArgs sLawIn) (defBody sLawIn) (defScope sLawIn) .none kVLi dcLi pmLi anLi cdLi ctLi), slLi⟩)
    (cLi : PySem.W.codeIn K cdLi "_law_in" = true) (kLi : PySem.W.keepIn K (.ref fLi) = true)
    (nLp : PySem.W.nsIn K mainGlobals "_law_part" = some (some (.ref fLp)))
    (lLp : K.lookup fLp = some ⟨ocLp, odLp, .func (PySem.W.fnOf "_law_part" "_law_part" (defArgs sLawPart) (defBody sLawPart) (defScope sLawPart) .none kVLp dcLp pmLp anLp cdLp ctLp), slLp⟩)
    (cLp : PySem.W.codeIn K cdLp "_law_part" = true) (kLp : PySem.W.keepIn K (.ref fLp) = true)
    (nLb : PySem.W.nsIn K mainGlobals "_law_by" = some (some (.ref fLb)))
    (lLb : K.lookup fLb = some ⟨ocLb, odLb, .func (PySem.W.fnOf "_law_by" "_law_by" (defArgs sLawBy) (defBody sLawBy) (defScope sLawBy) .none kVLb dcLb pmLb anLb cdLb ctLb), slLb⟩)
    (cLb : PySem.W.codeIn K cdLb "_law_by" = true) (kLb : PySem.W.keepIn K (.ref fLb) = true)
    (nLk : PySem.W.nsIn K mainGlobals "_law_book" = some (some (.ref fLk)))
    (lLk : K.lookup fLk = some ⟨ocLk, odLk, .func (PySem.W.fnOf "_law_book" "_law_book" (defArgs sLawBook) (defBody sLawBook) (defScope sLawBook) .none kVLk dcLk pmLk anLk cdLk ctLk), slLk⟩)
    (cLk : PySem.W.codeIn K cdLk "_law_book" = true) (kLk : PySem.W.keepIn K (.ref fLk) = true)
    (nLr : PySem.W.nsIn K mainGlobals "_law_row" = some (some (.ref fLr)))
    (lLr : K.lookup fLr = some ⟨ocLr, odLr, .func (PySem.W.fnOf "_law_row" "_law_row" (defArgs sLawRow) (defBody sLawRow) (defScope sLawRow) .none kVLr dcLr pmLr anLr cdLr ctLr), slLr⟩)
    (cLr : PySem.W.codeIn K cdLr "_law_row" = true) (kLr : PySem.W.keepIn K (.ref fLr) = true)
    (nLz : PySem.W.nsIn K mainGlobals "_law_spoilt" = some (some (.ref fLz)))
    (lLz : K.lookup fLz = some ⟨ocLz, odLz, .func (PySem.W.fnOf "_law_spoilt" "_law_spoilt" (defArgs sSpoilt) (defBody sSpoilt) (defScope sSpoilt) .none kVLz dcLz pmLz anLz cdLz ctLz), slLz⟩)
    (cLz : PySem.W.codeIn K cdLz "_law_spoilt" = true) (kLz : PySem.W.keepIn K (.ref fLz) = true)
    (nLtd : PySem.W.nsIn K mainGlobals "_law_told" = some (some (.ref fLtd)))
    (lLtd : K.lookup fLtd = some ⟨ocLtd, odLtd, .func (PySem.W.fnOf "_law_told" "_law_told" (defArgs sTold) (defBody sTold) (defScope sTold) .none kVLtd dcLtd pmLtd anLtd cdLtd ctLtd), slLtd⟩)
    (cLtd : PySem.W.codeIn K cdLtd "_law_told" = true) (kLtd : PySem.W.keepIn K (.ref fLtd) = true)
    (nLal : PySem.W.nsIn K mainGlobals "_law_alone" = some (some (.ref fLal)))
    (lLal : K.lookup fLal = some ⟨ocLal, odLal, .func (PySem.W.fnOf "_law_alone" "_law_alone" (defArgs sAlone) (defBody sAlone) (defScope sAlone) .none kVLal dcLal pmLal anLal cdLal ctLal), slLal⟩)
    (cLal : PySem.W.codeIn K cdLal "_law_alone" = true) (kLal : PySem.W.keepIn K (.ref fLal) = true)
    (nLf : PySem.W.nsIn K mainGlobals "_law_refused" = some (some (.ref fLf)))
    (lLf : K.lookup fLf = some ⟨ocLf, odLf, .func (PySem.W.fnOf "_law_refused" "_law_refused" (defArgs sRefused) (defBody sRefused) (defScope sRefused) .none kVLf dcLf pmLf anLf cdLf ctLf), slLf⟩)
    (cLf : PySem.W.codeIn K cdLf "_law_refused" = true) (kLf : PySem.W.keepIn K (.ref fLf) = true)
    (nLdu : PySem.W.nsIn K mainGlobals "_law_due" = some (some (.ref fLdu)))
    (lLdu : K.lookup fLdu = some ⟨ocLdu, odLdu, .func (PySem.W.fnOf "_law_due" "_law_due" (defArgs sDue) (defBody sDue) (defScope sDue) .none kVLdu dcLdu pmLdu anLdu cdLdu ctLdu), slLdu⟩)
    (cLdu : PySem.W.codeIn K cdLdu "_law_due" = true) (kLdu : PySem.W.keepIn K (.ref fLdu) = true)
    (nLq : PySem.W.nsIn K mainGlobals "_law_parts" = some (some (.ref fLq)))
    (lLq : K.lookup fLq = some ⟨ocLq, odLq, .func (PySem.W.fnOf "_law_parts" "_law_parts" (defArgs sLawParts) (defBody sLawParts) (defScope sLawParts) .none kVLq dcLq pmLq anLq cdLq ctLq), slLq⟩)
    (cLq : PySem.W.codeIn K cdLq "_law_parts" = true) (kLq : PySem.W.keepIn K (.ref fLq) = true)
    (nLpl : PySem.W.nsIn K mainGlobals "_law_plain" = some (some (.ref fLpl)))
    (lLpl : K.lookup fLpl = some ⟨ocLpl, odLpl, .func (PySem.W.fnOf "_law_plain" "_law_plain" (defArgs sPlain) (defBody sPlain) (defScope sPlain) .none kVLpl dcLpl pmLpl anLpl cdLpl ctLpl), slLpl⟩)
    (cLpl : PySem.W.codeIn K cdLpl "_law_plain" = true) (kLpl : PySem.W.keepIn K (.ref fLpl) = true)
    (nLa : PySem.W.nsIn K mainGlobals "law" = some (some (.ref fLa)))
    (lLa : K.lookup fLa = some ⟨ocLa, odLa, .func (PySem.W.fnOf "law" "law" (defArgs sLaw) (defBody sLaw) (defScope sLaw) .none kVLa dcLa pmLa anLa cdLa ctLa), slLa⟩)
    (cLa : PySem.W.codeIn K cdLa "law" = true) (kLa : PySem.W.keepIn K (.ref fLa) = true)
    (aCB : PySem.W.nsIn K mainGlobals "Book" = some (some (.ref CB))) (pgB : PySem.W.plainGet K CB Str.empty = true) (hdB : PySem.W.hasDictIn K CB = true) (poB : PySem.W.plainOver K CB = true) (saB : PySem.W.findIn K (.ref CB) "__setattr__" = some (some (.builtin "object.__setattr__"))) (mkB : PySem.W.makesIn K CB = true) (kcB : PySem.W.keepIn K (.ref CB) = true)
    (aBi : PySem.W.findIn K (.ref CB) "__init__" = some (some (.ref fBi))) (iBi : PySem.W.isFn K (.ref fBi) = true)
    (lBi : K.lookup fBi = some ⟨ocBi, odBi, .func (PySem.W.fnOf "__init__" "Book.__init__" (defArgs sBkInit) (defBody sBkInit) (defScope sBkInit) .none kVBi dcBi pmBi anBi cdBi ctBi), slBi⟩)
    (cBi : PySem.W.codeIn K cdBi "Book.__init__" = true) (kBi : PySem.W.keepIn K (.ref fBi) = true)
    (aBd : PySem.W.findIn K (.ref CB) "deeds" = some (some (.ref fBd))) (iBd : PySem.W.isFn K (.ref fBd) = true)
    (lBd : K.lookup fBd = some ⟨ocBd, odBd, .func (PySem.W.fnOf "deeds" "Book.deeds" (defArgs sBkDeeds) (defBody sBkDeeds) (defScope sBkDeeds) .none kVBd dcBd pmBd anBd cdBd ctBd), slBd⟩)
    (cBd : PySem.W.codeIn K cdBd "Book.deeds" = true) (kBd : PySem.W.keepIn K (.ref fBd) = true)
    (naB0 : PySem.W.findIn K (.ref CB) "courses" = some none)
    (naB1 : PySem.W.findIn K (.ref CB) "_places" = some none)
    (naB2 : PySem.W.findIn K (.ref CB) "_stages" = some none)
    (naB3 : PySem.W.findIn K (.ref CB) "_ends" = some none)
    (naB4 : PySem.W.findIn K (.ref CB) "_leaving" = some none)
    {nmRw qRw : Str} {NnRw : Addr} {bsRw bmRw : List Value} {snRw : List Str} {subRw : List Value} {abRw : Bool} {colRw : Option Bool} {ddRw : Option Addr} {m0Rw m1Rw m2Rw m3Rw m5Rw : Option Value}
    (aCRw : PySem.W.nsIn K mainGlobals "InvalidRow" = some (some (.ref CRw)))
    (xLRw : K.lookup CRw = some (excClassObj nmRw qRw CRw NnRw bsRw bmRw true snRw subRw abRw colRw ddRw m0Rw m1Rw m2Rw m3Rw m5Rw "ValueError.__new__")) (hbRw : PySem.HandSPX.refsVE bmRw = true)
    (saRw : PySem.W.findIn K (.ref CRw) "__setattr__" = some (some (.builtin "object.__setattr__"))) (gaRw : PySem.W.findIn K (.ref CRw) "__getattribute__" = some (some (.builtin "BaseException.__getattribute__"))) (ggRw : PySem.W.findIn K (.ref CRw) "__getattr__" = some none) (noRw : PySem.W.findIn K (.ref CRw) "at" = some none)
    (aIRw : PySem.W.findIn K (.ref CRw) "__init__" = some (some (.ref fIRw))) (tIRw : PySem.W.typeIn K (.ref fIRw) = some (.type "function"))
    (lIRw : K.lookup fIRw = some ⟨ocIRw, odIRw, .func (PySem.W.fnOf "__init__" "InvalidRow.__init__" (defArgs sRowInit) (defBody sRowInit) (defScope sRowInit) .none kVIRw dcIRw pmIRw anIRw cdIRw ctIRw), slIRw⟩)
    (cIRw : PySem.W.codeIn K cdIRw "InvalidRow.__init__" = true) (kIRw : PySem.W.keepIn K (.ref fIRw) = true)
    (kXRw : PySem.W.keepIn K (.ref CRw) = true) (eXRw : PySem.W.subIn K (.ref CRw) (.type "BaseException") = some true) (tXRw : PySem.W.typeIn K (.ref CRw) = some (.type "type")) (hXRw : PySem.W.hasDictIn K CRw = true) (iXRw : PySem.W.isClsIn K CRw = true) (sXRw : PySem.W.subIn K (.ref CRw) (.ref CRw) = some true)
    (xcRw : PySem.W.findIn K (.ref CRw) "__class__" = some (some (.builtin "object.__class__"))) (xmRw : PySem.W.mroIn K CRw (.type "object") = some true)
    {nmDl qDl : Str} {NnDl : Addr} {bsDl bmDl : List Value} {snDl : List Str} {subDl : List Value} {abDl : Bool} {colDl : Option Bool} {ddDl : Option Addr} {m0Dl m1Dl m2Dl m3Dl m5Dl : Option Value}
    (aCDl : PySem.W.nsIn K mainGlobals "InvalidDealing" = some (some (.ref CDl)))
    (xLDl : K.lookup CDl = some (excClassObj nmDl qDl CDl NnDl bsDl bmDl true snDl subDl abDl colDl ddDl m0Dl m1Dl m2Dl m3Dl m5Dl "ValueError.__new__")) (hbDl : PySem.HandSPX.refsVE bmDl = true)
    (saDl : PySem.W.findIn K (.ref CDl) "__setattr__" = some (some (.builtin "object.__setattr__"))) (gaDl : PySem.W.findIn K (.ref CDl) "__getattribute__" = some (some (.builtin "BaseException.__getattribute__"))) (ggDl : PySem.W.findIn K (.ref CDl) "__getattr__" = some none) (noDl : PySem.W.findIn K (.ref CDl) "at" = some none)
    (aIDl : PySem.W.findIn K (.ref CDl) "__init__" = some (some (.ref fIDl))) (tIDl : PySem.W.typeIn K (.ref fIDl) = some (.type "function"))
    (lIDl : K.lookup fIDl = some ⟨ocIDl, odIDl, .func (PySem.W.fnOf "__init__" "InvalidDealing.__init__" (defArgs sDealInit) (defBody sDealInit) (defScope sDealInit) .none kVIDl dcIDl pmIDl anIDl cdIDl ctIDl), slIDl⟩)
    (cIDl : PySem.W.codeIn K cdIDl "InvalidDealing.__init__" = true) (kIDl : PySem.W.keepIn K (.ref fIDl) = true)
    (kXDl : PySem.W.keepIn K (.ref CDl) = true) (eXDl : PySem.W.subIn K (.ref CDl) (.type "BaseException") = some true) (tXDl : PySem.W.typeIn K (.ref CDl) = some (.type "type")) (hXDl : PySem.W.hasDictIn K CDl = true) (iXDl : PySem.W.isClsIn K CDl = true) (sXDl : PySem.W.subIn K (.ref CDl) (.ref CDl) = some true)
    (xcDl : PySem.W.findIn K (.ref CDl) "__class__" = some (some (.builtin "object.__class__"))) (xmDl : PySem.W.mroIn K CDl (.type "object") = some true)
    (xn : PySem.W.specialIn K (.builtin "object.__class__") "__get__" = some (some (.builtin "getset_descriptor.__get__"))) (xt : PySem.W.takesIn K (.builtin "object.__class__") = some true)
    (v_LONGEST_NAME : PySem.W.nsIn K mainGlobals "LONGEST_NAME" = some (some (.int 5 t_LONGEST_NAME)))
    (v_MOST_COURSES : PySem.W.nsIn K mainGlobals "MOST_COURSES" = some (some (.int 8 t_MOST_COURSES)))
    (v_MOST_STAGES : PySem.W.nsIn K mainGlobals "MOST_STAGES" = some (some (.int 20 t_MOST_STAGES)))
    (v_MOST_STAGES_TOGETHER : PySem.W.nsIn K mainGlobals "MOST_STAGES_TOGETHER" = some (some (.int 60 t_MOST_STAGES_TOGETHER)))
    (v_MOST_DEEDS : PySem.W.nsIn K mainGlobals "MOST_DEEDS" = some (some (.int 12 t_MOST_DEEDS)))
    (aSt : PySem.W.nsIn K mainGlobals "StillError" = some (some (.ref CSt)))
    (kRw : PySem.W.kitOne K (.ref CDl) (.ref CRw) = some false)
    (kSt : PySem.W.kitOne K (.ref CDl) (.ref CSt) = some true)
    (z_len : PySem.W.nsIn K mainGlobals "len" = some none) (z_range : PySem.W.nsIn K mainGlobals "range" = some none) (z_iter : PySem.W.nsIn K mainGlobals "iter" = some none) (z_enumerate : PySem.W.nsIn K mainGlobals "enumerate" = some none) (z_reversed : PySem.W.nsIn K mainGlobals "reversed" = some none) (z_tuple : PySem.W.nsIn K mainGlobals "tuple" = some none) (z_list : PySem.W.nsIn K mainGlobals "list" = some none) (z_sorted : PySem.W.nsIn K mainGlobals "sorted" = some none) (z_any : PySem.W.nsIn K mainGlobals "any" = some none) (z_all : PySem.W.nsIn K mainGlobals "all" = some none) (z_int : PySem.W.nsIn K mainGlobals "int" = some none) (z_str : PySem.W.nsIn K mainGlobals "str" = some none) (z_bool : PySem.W.nsIn K mainGlobals "bool" = some none) (z_abs : PySem.W.nsIn K mainGlobals "abs" = some none) (z_min : PySem.W.nsIn K mainGlobals "min" = some none) (z_max : PySem.W.nsIn K mainGlobals "max" = some none) (z_sum : PySem.W.nsIn K mainGlobals "sum" = some none) (z_isinstance : PySem.W.nsIn K mainGlobals "isinstance" = some none) (z_ValueError : PySem.W.nsIn K mainGlobals "ValueError" = some none) (z_dict : PySem.W.nsIn K mainGlobals "dict" = some none) (z_set : PySem.W.nsIn K mainGlobals "set" = some none) :
    LamX.LawAtS l w K CX0 11 63 "script" mg fa h := by
  have e := hfa.symm.trans (PySem.W.mg_of X G nLa)
  cases e
  have m_len := PySem.W.mg_none_of X G z_len
  have m_range := PySem.W.mg_none_of X G z_range
  have m_iter := PySem.W.mg_none_of X G z_iter
  have m_enumerate := PySem.W.mg_none_of X G z_enumerate
  have m_reversed := PySem.W.mg_none_of X G z_reversed
  have m_tuple := PySem.W.mg_none_of X G z_tuple
  have m_list := PySem.W.mg_none_of X G z_list
  have m_sorted := PySem.W.mg_none_of X G z_sorted
  have m_any := PySem.W.mg_none_of X G z_any
  have m_all := PySem.W.mg_none_of X G z_all
  have m_int := PySem.W.mg_none_of X G z_int
  have m_str := PySem.W.mg_none_of X G z_str
  have m_bool := PySem.W.mg_none_of X G z_bool
  have m_abs := PySem.W.mg_none_of X G z_abs
  have m_min := PySem.W.mg_none_of X G z_min
  have m_max := PySem.W.mg_none_of X G z_max
  have m_sum := PySem.W.mg_none_of X G z_sum
  have m_isinstance := PySem.W.mg_none_of X G z_isinstance
  have m_ValueError := PySem.W.mg_none_of X G z_ValueError
  have m_dict := PySem.W.mg_none_of X G z_dict
  have m_set := PySem.W.mg_none_of X G z_set
  have N : Nones mg := ⟨m_len, m_range, m_iter, m_enumerate, m_reversed, m_tuple, m_list, m_sorted, m_any, m_all, m_int, m_str, m_bool, m_abs, m_min, m_max, m_sum, m_isinstance, m_ValueError⟩
  have FIi := fun_mk (st := sIsInt) lIi cIi kIi
  have bIi := FIi.binds (ps := ["value"]) fun _ _ _ _ _ _ us hl => match us, hl with | [_], _ => rfl
  have gIi := PySem.W.mg_of X G nIi
  have CIi : CallC K mg "is_integer" ["value"] fIi _ := ⟨gIi, kIi, bIi⟩
  have FIn := fun_mk (st := sIsNum) lIn cIn kIn
  have bIn := FIn.binds (ps := ["value"]) fun _ _ _ _ _ _ us hl => match us, hl with | [_], _ => rfl
  have gIn := PySem.W.mg_of X G nIn
  have CIn : CallC K mg "is_number" ["value"] fIn _ := ⟨gIn, kIn, bIn⟩
  have FNt := fun_mk (st := sIsNumTo) lNt cNt kNt
  have bNt := FNt.binds (ps := ["value", "most"]) fun _ _ _ _ _ _ us hl => match us, hl with | [_, _], _ => rfl
  have gNt := PySem.W.mg_of X G nNt
  have CNt : CallC K mg "is_number_to" ["value", "most"] fNt _ := ⟨gNt, kNt, bNt⟩
  have FNm := fun_mk (st := sName) lNm cNm kNm
  have bNm := FNm.binds (ps := ["value"]) fun _ _ _ _ _ _ us hl => match us, hl with | [_], _ => rfl
  have gNm := PySem.W.mg_of X G nNm
  have CNm : CallC K mg "is_name" ["value"] fNm _ := ⟨gNm, kNm, bNm⟩
  have FLt := fun_mk (st := sLetter) lLt cLt kLt
  have bLt := FLt.binds (ps := ["sign"]) fun _ _ _ _ _ _ us hl => match us, hl with | [_], _ => rfl
  have gLt := PySem.W.mg_of X G nLt
  have CLt : CallC K mg "is_letter" ["sign"] fLt _ := ⟨gLt, kLt, bLt⟩
  have FIl := fun_mk (st := sIsLot) lIl cIl kIl
  have bIl := FIl.binds (ps := ["values"]) fun _ _ _ _ _ _ us hl => match us, hl with | [_], _ => rfl
  have gIl := PySem.W.mg_of X G nIl
  have CIl : CallC K mg "is_lot" ["values"] fIl _ := ⟨gIl, kIl, bIl⟩
  have FWi := fun_mk (st := sWithin) lWi cWi kWi
  have bWi := FWi.binds (ps := ["u", "v"]) fun _ _ _ _ _ _ us hl => match us, hl with | [_, _], _ => rfl
  have gWi := PySem.W.mg_of X G nWi
  have CWi : CallC K mg "within" ["u", "v"] fWi _ := ⟨gWi, kWi, bWi⟩
  have FCd := fun_mk (st := sChDeal) lCd cCd kCd
  have bCd := FCd.binds (ps := ["book", "dealing"]) fun _ _ _ _ _ _ us hl => match us, hl with | [_, _], _ => rfl
  have gCd := PySem.W.mg_of X G nCd
  have CCd : CallC K mg "check_dealing" ["book", "dealing"] fCd _ := ⟨gCd, kCd, bCd⟩
  have FPo := fun_mk (st := sPairOf) lPo cPo kPo
  have bPo := FPo.binds (ps := ["value", "deed"]) fun _ _ _ _ _ _ us hl => match us, hl with | [_, _], _ => rfl
  have gPo := PySem.W.mg_of X G nPo
  have CPo : CallC K mg "is_pair_of" ["value", "deed"] fPo _ := ⟨gPo, kPo, bPo⟩
  have FOd : FunD K "one_desk" "one_desk" (defArgs sOneDesk) (defBody sOneDesk) (defScope sOneDesk) [] [("desk", V.str "one")] fOd _ := ⟨⟨_, _, _, _, _, _, _, _, _, _, rfl, lOd, cOd, .inl ⟨rfl, rfl⟩, .inr ⟨DOd, rfl, fun q hq => by rw [List.mem_singleton.mp hq]; exact ⟨_, kdOd, ⟨_, rfl⟩⟩⟩⟩, kOd⟩
  have gOd := PySem.W.mg_of X G nOd
  have FOw := fun_mk (st := sOwnDesks) lOw cOw kOw
  have bOw := FOw.binds (ps := ["book"]) fun _ _ _ _ _ _ us hl => match us, hl with | [_], _ => rfl
  have gOw := PySem.W.mg_of X G nOw
  have COw : CallC K mg "own_desks" ["book"] fOw _ := ⟨gOw, kOw, bOw⟩
  have FDo := fun_mk (st := sDesksOf) lDo cDo kDo
  have bDo := FDo.binds (ps := ["dealing"]) fun _ _ _ _ _ _ us hl => match us, hl with | [_], _ => rfl
  have gDo := PySem.W.mg_of X G nDo
  have CDo : CallC K mg "desks_of" ["dealing"] fDo _ := ⟨gDo, kDo, bDo⟩
  have FDa := fun_mk (st := sDeedsAt) lDa cDa kDa
  have bDa := FDa.binds (ps := ["dealing", "desk"]) fun _ _ _ _ _ _ us hl => match us, hl with | [_, _], _ => rfl
  have gDa := PySem.W.mg_of X G nDa
  have CDa : CallC K mg "deeds_at" ["dealing", "desk"] fDa _ := ⟨gDa, kDa, bDa⟩
  have FDf := fun_mk (st := sDeskOf) lDf cDf kDf
  have bDf := FDf.binds (ps := ["dealing", "deed"]) fun _ _ _ _ _ _ us hl => match us, hl with | [_, _], _ => rfl
  have gDf := PySem.W.mg_of X G nDf
  have CDf : CallC K mg "desk_of" ["dealing", "deed"] fDf _ := ⟨gDf, kDf, bDf⟩
  have FDd := fun_mk (st := sByDeed) lDd cDd kDd
  have bDd := FDd.binds (ps := ["dealing"]) fun _ _ _ _ _ _ us hl => match us, hl with | [_], _ => rfl
  have gDd := PySem.W.mg_of X G nDd
  have CDd : CallC K mg "desks_by_deed" ["dealing"] fDd _ := ⟨gDd, kDd, bDd⟩
  have FCk := fun_mk (st := sChDeeds) lCk cCk kCk
  have bCk := FCk.binds (ps := ["desks", "row"]) fun _ _ _ _ _ _ us hl => match us, hl with | [_, _], _ => rfl
  have gCk := PySem.W.mg_of X G nCk
  have CCk : CallC K mg "check_deeds" ["desks", "row"] fCk _ := ⟨gCk, kCk, bCk⟩
  have FPa := fun_mk (st := sPart) lPa cPa kPa
  have bPa := FPa.binds (ps := ["dealing", "desk", "row"]) fun _ _ _ _ _ _ us hl => match us, hl with | [_, _, _], _ => rfl
  have gPa := PySem.W.mg_of X G nPa
  have CPa : CallC K mg "part" ["dealing", "desk", "row"] fPa _ := ⟨gPa, kPa, bPa⟩
  have FPs := fun_mk (st := sParts) lPs cPs kPs
  have bPs := FPs.binds (ps := ["dealing", "row"]) fun _ _ _ _ _ _ us hl => match us, hl with | [_, _], _ => rfl
  have gPs := PySem.W.mg_of X G nPs
  have CPs : CallC K mg "parts" ["dealing", "row"] fPs _ := ⟨gPs, kPs, bPs⟩
  have FWb := fun_mk (st := sWithinBy) lWb cWb kWb
  have bWb := FWb.binds (ps := ["dealing", "u", "v"]) fun _ _ _ _ _ _ us hl => match us, hl with | [_, _, _], _ => rfl
  have gWb := PySem.W.mg_of X G nWb
  have CWb : CallC K mg "within_by" ["dealing", "u", "v"] fWb _ := ⟨gWb, kWb, bWb⟩
  have FSb := fun_mk (st := sSameBy) lSb cSb kSb
  have bSb := FSb.binds (ps := ["dealing", "u", "v"]) fun _ _ _ _ _ _ us hl => match us, hl with | [_, _, _], _ => rfl
  have gSb := PySem.W.mg_of X G nSb
  have CSb : CallC K mg "same_by" ["dealing", "u", "v"] fSb _ := ⟨gSb, kSb, bSb⟩
  have FVa := fun_mk (st := sViewAt) lVa cVa kVa
  have bVa := FVa.binds (ps := ["dealing", "desk"]) fun _ _ _ _ _ _ us hl => match us, hl with | [_, _], _ => rfl
  have gVa := PySem.W.mg_of X G nVa
  have CVa : CallC K mg "view_at" ["dealing", "desk"] fVa _ := ⟨gVa, kVa, bVa⟩
  have FCe := fun_mk (st := sChEach) lCe cCe kCe
  have bCe := FCe.binds (ps := ["courses"]) fun _ _ _ _ _ _ us hl => match us, hl with | [_], _ => rfl
  have gCe := PySem.W.mg_of X G nCe
  have CCe : CallC K mg "check_each" ["courses"] fCe _ := ⟨gCe, kCe, bCe⟩
  have FCt := fun_mk (st := sChTog) lCt cCt kCt
  have bCt := FCt.binds (ps := ["courses"]) fun _ _ _ _ _ _ us hl => match us, hl with | [_], _ => rfl
  have gCt := PySem.W.mg_of X G nCt
  have CCt : CallC K mg "check_together" ["courses"] fCt _ := ⟨gCt, kCt, bCt⟩
  have FIc := fun_mk (st := sIsCourse) lIc cIc kIc
  have bIc := FIc.binds (ps := ["value"]) fun _ _ _ _ _ _ us hl => match us, hl with | [_], _ => rfl
  have gIc := PySem.W.mg_of X G nIc
  have CIc : CallC K mg "is_course" ["value"] fIc _ := ⟨gIc, kIc, bIc⟩
  have FAe := fun_mk (st := sAreEnds) lAe cAe kAe
  have bAe := FAe.binds (ps := ["ends", "stages"]) fun _ _ _ _ _ _ us hl => match us, hl with | [_, _], _ => rfl
  have gAe := PySem.W.mg_of X G nAe
  have CAe : CallC K mg "are_ends" ["ends", "stages"] fAe _ := ⟨gAe, kAe, bAe⟩
  have FAt := fun_mk (st := sAreSteps) lAt cAt kAt
  have bAt := FAt.binds (ps := ["steps", "stages"]) fun _ _ _ _ _ _ us hl => match us, hl with | [_, _], _ => rfl
  have gAt := PySem.W.mg_of X G nAt
  have CAt : CallC K mg "are_steps" ["steps", "stages"] fAt _ := ⟨gAt, kAt, bAt⟩
  have FIs := fun_mk (st := sIsStep) lIs cIs kIs
  have bIs := FIs.binds (ps := ["value", "stages"]) fun _ _ _ _ _ _ us hl => match us, hl with | [_, _], _ => rfl
  have gIs := PySem.W.mg_of X G nIs
  have CIs : CallC K mg "is_step" ["value", "stages"] fIs _ := ⟨gIs, kIs, bIs⟩
  have FDi := fun_mk (st := sDeedsIn) lDi cDi kDi
  have bDi := FDi.binds (ps := ["courses"]) fun _ _ _ _ _ _ us hl => match us, hl with | [_], _ => rfl
  have gDi := PySem.W.mg_of X G nDi
  have CDi : CallC K mg "deeds_in" ["courses"] fDi _ := ⟨gDi, kDi, bDi⟩
  have FLe := fun_mk (st := sLeaving) lLe cLe kLe
  have bLe := FLe.binds (ps := ["courses"]) fun _ _ _ _ _ _ us hl => match us, hl with | [_], _ => rfl
  have gLe := PySem.W.mg_of X G nLe
  have CLe : CallC K mg "leaving_of" ["courses"] fLe _ := ⟨gLe, kLe, bLe⟩
  have FBx := fun_mk (st := sBox) lBx cBx kBx
  have bBx := FBx.binds (ps := ["script", "k"]) fun _ _ _ _ _ _ us hl => match us, hl with | [_, _], _ => rfl
  have gBx := PySem.W.mg_of X G nBx
  have CBx : CallC K mg "_law_box" ["script", "k"] fBx _ := ⟨gBx, kBx, bBx⟩
  have FTk := fun_mk (st := sTake) lTk cTk kTk
  have bTk := FTk.binds (ps := ["box", "many"]) fun _ _ _ _ _ _ us hl => match us, hl with | [_, _], _ => rfl
  have gTk := PySem.W.mg_of X G nTk
  have CTk : CallC K mg "_law_take" ["box", "many"] fTk _ := ⟨gTk, kTk, bTk⟩
  have FPk := fun_mk (st := sPick) lPk cPk kPk
  have bPk := FPk.binds (ps := ["box", "some"]) fun _ _ _ _ _ _ us hl => match us, hl with | [_, _], _ => rfl
  have gPk := PySem.W.mg_of X G nPk
  have CPk : CallC K mg "_law_pick" ["box", "some"] fPk _ := ⟨gPk, kPk, bPk⟩
  have FNn := fun_mk (st := sNames) lNn cNn kNn
  have bNn := FNn.binds (ps := ["box", "many"]) fun _ _ _ _ _ _ us hl => match us, hl with | [_, _], _ => rfl
  have gNn := PySem.W.mg_of X G nNn
  have CNn : CallC K mg "_law_names" ["box", "many"] fNn _ := ⟨gNn, kNn, bNn⟩
  have FLi := fun_mk (st := sLawIn) lLi cLi kLi
  have bLi := FLi.binds (ps := ["u", "v"]) fun _ _ _ _ _ _ us hl => match us, hl with | [_, _], _ => rfl
  have gLi := PySem.W.mg_of X G nLi
  have CLi : CallC K mg "_law_in" ["u", "v"] fLi _ := ⟨gLi, kLi, bLi⟩
  have FLp := fun_mk (st := sLawPart) lLp cLp kLp
  have bLp := FLp.binds (ps := ["deal", "desk", "row"]) fun _ _ _ _ _ _ us hl => match us, hl with | [_, _, _], _ => rfl
  have gLp := PySem.W.mg_of X G nLp
  have CLp : CallC K mg "_law_part" ["deal", "desk", "row"] fLp _ := ⟨gLp, kLp, bLp⟩
  have FLb := fun_mk (st := sLawBy) lLb cLb kLb
  have bLb := FLb.binds (ps := ["deal", "u", "v"]) fun _ _ _ _ _ _ us hl => match us, hl with | [_, _, _], _ => rfl
  have gLb := PySem.W.mg_of X G nLb
  have CLb : CallC K mg "_law_by" ["deal", "u", "v"] fLb _ := ⟨gLb, kLb, bLb⟩
  have FLk := fun_mk (st := sLawBook) lLk cLk kLk
  have bLk := FLk.binds (ps := ["name", "deeds"]) fun _ _ _ _ _ _ us hl => match us, hl with | [_, _], _ => rfl
  have gLk := PySem.W.mg_of X G nLk
  have CLk : CallC K mg "_law_book" ["name", "deeds"] fLk _ := ⟨gLk, kLk, bLk⟩
  have FLr := fun_mk (st := sLawRow) lLr cLr kLr
  have bLr := FLr.binds (ps := ["box", "deeds", "most"]) fun _ _ _ _ _ _ us hl => match us, hl with | [_, _, _], _ => rfl
  have gLr := PySem.W.mg_of X G nLr
  have CLr : CallC K mg "_law_row" ["box", "deeds", "most"] fLr _ := ⟨gLr, kLr, bLr⟩
  have FLz := fun_mk (st := sSpoilt) lLz cLz kLz
  have bLz := FLz.binds (ps := ["box", "pairs", "stranger"]) fun _ _ _ _ _ _ us hl => match us, hl with | [_, _, _], _ => rfl
  have gLz := PySem.W.mg_of X G nLz
  have CLz : CallC K mg "_law_spoilt" ["box", "pairs", "stranger"] fLz _ := ⟨gLz, kLz, bLz⟩
  have FLtd := fun_mk (st := sTold) lLtd cLtd kLtd
  have bLtd := FLtd.binds (ps := ["book", "value"]) fun _ _ _ _ _ _ us hl => match us, hl with | [_, _], _ => rfl
  have gLtd := PySem.W.mg_of X G nLtd
  have CLtd : CallC K mg "_law_told" ["book", "value"] fLtd _ := ⟨gLtd, kLtd, bLtd⟩
  have FLal := fun_mk (st := sAlone) lLal cLal kLal
  have bLal := FLal.binds (ps := ["pairs", "desk", "row", "turn"]) fun _ _ _ _ _ _ us hl => match us, hl with | [_, _, _, _], _ => rfl
  have gLal := PySem.W.mg_of X G nLal
  have CLal : CallC K mg "_law_alone" ["pairs", "desk", "row", "turn"] fLal _ := ⟨gLal, kLal, bLal⟩
  have FLf := fun_mk (st := sRefused) lLf cLf kLf
  have bLf := FLf.binds (ps := ["deal", "pairs", "u", "v"]) fun _ _ _ _ _ _ us hl => match us, hl with | [_, _, _, _], _ => rfl
  have gLf := PySem.W.mg_of X G nLf
  have CLf : CallC K mg "_law_refused" ["deal", "pairs", "u", "v"] fLf _ := ⟨gLf, kLf, bLf⟩
  have FLdu := fun_mk (st := sDue) lLdu cLdu kLdu
  have bLdu := FLdu.binds (ps := ["deal", "desks", "u", "v"]) fun _ _ _ _ _ _ us hl => match us, hl with | [_, _, _, _], _ => rfl
  have gLdu := PySem.W.mg_of X G nLdu
  have CLdu : CallC K mg "_law_due" ["deal", "desks", "u", "v"] fLdu _ := ⟨gLdu, kLdu, bLdu⟩
  have FLq := fun_mk (st := sLawParts) lLq cLq kLq
  have bLq := FLq.binds (ps := ["pairs", "deal", "desks", "row"]) fun _ _ _ _ _ _ us hl => match us, hl with | [_, _, _, _], _ => rfl
  have gLq := PySem.W.mg_of X G nLq
  have CLq : CallC K mg "_law_parts" ["pairs", "deal", "desks", "row"] fLq _ := ⟨gLq, kLq, bLq⟩
  have FLpl := fun_mk (st := sPlain) lLpl cLpl kLpl
  have bLpl := FLpl.binds (ps := ["book", "deeds", "word"]) fun _ _ _ _ _ _ us hl => match us, hl with | [_, _, _], _ => rfl
  have gLpl := PySem.W.mg_of X G nLpl
  have CLpl : CallC K mg "_law_plain" ["book", "deeds", "word"] fLpl _ := ⟨gLpl, kLpl, bLpl⟩
  have FLa := fun_mk (st := sLaw) lLa cLa kLa
  have bLa := FLa.binds (ps := ["script"]) fun _ _ _ _ _ _ us hl => match us, hl with | [_], _ => rfl
  have FBi := fun_mk (st := sBkInit) lBi cBi kBi
  have bBi := FBi.binds (ps := ["self", "courses"]) fun _ _ _ _ _ _ us hl => match us, hl with | [_, _], _ => rfl
  have FBd := fun_mk (st := sBkDeeds) lBd cBd kBd
  have bBd := FBd.binds (ps := ["self"]) fun _ _ _ _ _ _ us hl => match us, hl with | [_], _ => rfl
  have FIRw := fun_mk (st := sRowInit) lIRw cIRw kIRw
  have bIRw := FIRw.binds (ps := ["self", "at"]) fun _ _ _ _ _ _ us hl => match us, hl with | [_, _], _ => rfl
  have FIDl := fun_mk (st := sDealInit) lIDl cIDl kIDl
  have bIDl := FIDl.binds (ps := ["self", "at"]) fun _ _ _ _ _ _ us hl => match us, hl with | [_, _], _ => rfl
  have gCB := PySem.W.mg_of X G aCB
  have MkB : Mk K CB fBi := ⟨mkB, aBi, iBi, kcB⟩
  have MBd : Meth K CB "deeds" fBd := ⟨aBd, iBd, kBd⟩
  have gCRw := PySem.W.mg_of X G aCRw
  have oexRw : OexC K CRw := ⟨⟨nmRw, qRw, NnRw, bsRw, bmRw, snRw, subRw, abRw, colRw, ddRw, m0Rw, m1Rw, m2Rw, m3Rw, m5Rw, xLRw, hbRw⟩, saRw, eXRw, tXRw, kXRw⟩
  have gCDl := PySem.W.mg_of X G aCDl
  have oexDl : OexC K CDl := ⟨⟨nmDl, qDl, NnDl, bsDl, bmDl, snDl, subDl, abDl, colDl, ddDl, m0Dl, m1Dl, m2Dl, m3Dl, m5Dl, xLDl, hbDl⟩, saDl, eXDl, tXDl, kXDl⟩
  have g_LONGEST_NAME := PySem.W.mg_of X G v_LONGEST_NAME
  have g_MOST_COURSES := PySem.W.mg_of X G v_MOST_COURSES
  have g_MOST_STAGES := PySem.W.mg_of X G v_MOST_STAGES
  have g_MOST_STAGES_TOGETHER := PySem.W.mg_of X G v_MOST_STAGES_TOGETHER
  have g_MOST_DEEDS := PySem.W.mg_of X G v_MOST_DEEDS
  refine ⟨PySem.W.fnOf "law" "law" (defArgs sLaw) (defBody sLaw) (defScope sLaw) .none kVLa dcLa pmLa anLa cdLa ctLa, [], spLaw K, (fun p hp => by cases hp), (fun p hp => by cases hp), (fun p hp => by cases hp), fun s u => BindsTo.of_eq rfl, fun H a ns hl hb hP hS => ?_, fun base hb hg hTB => ?_⟩
  · exact ⟨a, ns, rfl, hS, fun H' => rfl⟩
  · skip
    have B : BkC K mg CB := ⟨⟨pgB, hdB, poB, saB⟩, naB0, naB1, naB2, naB3, naB4, gCB⟩
    have R1 : RowC K mg CRw fIRw _ := ⟨oexRw, aIRw, tIRw, noRw, gCRw, FIRw, bIRw⟩
    have R2 : DelC K mg CDl fIDl _ := ⟨oexDl, aIDl, tIDl, noDl, gCDl, FIDl, bIDl⟩
    have Z1 : CatchC K CRw := ⟨PySem.W.exm_ref eXRw hXRw tXRw sXRw, ⟨gaRw, ggRw, eXRw, hXRw⟩⟩
    have Z2 : CatchC K CDl := ⟨PySem.W.exm_ref eXDl hXDl tXDl sXDl, ⟨gaDl, ggDl, eXDl, hXDl⟩⟩
    have X2 : ExcC K CDl := ⟨gaDl, ggDl, eXDl, hXDl, xcDl, xn, xt, xmDl⟩
    obtain ⟨dOd, vOd, bOd⟩ := FOd.binds0 (ps := ["book", "desk"]) 1 (by simp) rfl (fun D doc pm an cdv ct us ks h1 h2 => match us, ks, h1, h2 with | [_], [_], _, _ => ⟨_, _, _, _, _, _, rfl, rfl, rfl⟩)
    obtain ⟨d1, rfl⟩ : ∃ d1, dOd = [d1] := by
      cases vOd with
      | cons _ r =>
        cases r with
        | nil => exact ⟨_, rfl⟩
    have kbOd : KBinds K _ ["book", "desk"] ["desk"] apG apG := kb_ap (fd := PySem.W.fnOf "one_desk" "one_desk" (defArgs sOneDesk) (defBody sOneDesk) (defScope sOneDesk) .none (.ref DOd) dcOd pmOd anOd cdOd ctOd) fun x y => rfl
    have kbCd : KBinds K _ ["book", "dealing"] ["dealing", "book"] Ka.swG Ka.swG := Ka.kb_swap (fd := PySem.W.fnOf "check_dealing" "check_dealing" (defArgs sChDeal) (defBody sChDeal) (defScope sChDeal) .none kVCd dcCd pmCd anCd cdCd ctCd) fun x y => rfl
    have kbPa : KBinds K _ ["dealing", "desk", "row"] ["desk", "row", "dealing"] Ka.roG Ka.roG := Ka.kb_rot3 (fd := PySem.W.fnOf "part" "part" (defArgs sPart) (defBody sPart) (defScope sPart) .none kVPa dcPa pmPa anPa cdPa ctPa) fun x y z => rfl
    have kbPs : KBinds K _ ["dealing", "row"] ["row", "dealing"] Ka.swG Ka.swG := Ka.kb_swap (fd := PySem.W.fnOf "parts" "parts" (defArgs sParts) (defBody sParts) (defScope sParts) .none kVPs dcPs pmPs anPs cdPs ctPs) fun x y => rfl
    have kbWb : KBinds K _ ["dealing", "u", "v"] ["v", "u", "dealing"] Ka.rvG Ka.rvG := Ka.kb_rev3 (fd := PySem.W.fnOf "within_by" "within_by" (defArgs sWithinBy) (defBody sWithinBy) (defScope sWithinBy) .none kVWb dcWb pmWb anWb cdWb ctWb) fun x y z => rfl
    have kbSb : KBinds K _ ["dealing", "u", "v"] ["dealing", "u", "v"] Ka.inG Ka.inG := Ka.kb_in3 (fd := PySem.W.fnOf "same_by" "same_by" (defArgs sSameBy) (defBody sSameBy) (defScope sSameBy) .none kVSb dcSb pmSb anSb cdSb ctSb) fun x y z => rfl
    have kbVa : KBinds K _ ["dealing", "desk"] ["desk", "dealing"] Ka.swG Ka.swG := Ka.kb_swap (fd := PySem.W.fnOf "view_at" "view_at" (defArgs sViewAt) (defBody sViewAt) (defScope sViewAt) .none kVVa dcVa pmVa anVa cdVa ctVa) fun x y => rfl
    have GIi := ok_isint (P := l.prog) (w := w) (base := base) (mg := mg) FIi N
    have GIn := ok_isnum FIn N GIi CIi
    have GNt := ok_isnumto FNt GIn CIn
    have GNm := ok_name (P := l.prog) (w := w) (base := base) (mg := mg) FNm FLt bLt gLt g_LONGEST_NAME N.isinstance N.str N.len N.all
    have GIl := ok_islot (P := l.prog) (w := w) (base := base) (mg := mg) FIl N
    have GWi := ok_within (P := l.prog) (w := w) (base := base) (mg := mg) FWi N.iter
    have GIs := ok_isstep FIs N GNt CNt GNm CNm
    have GAe := ok_areends FAe N GNt CNt GIl CIl
    have GAt := ok_aresteps FAt N GIs CIs
    have GIc := ok_iscourse FIc N g_MOST_STAGES GNt CNt GNm CNm GAe CAe GAt CAt
    have GDi := ok_deedsin (P := l.prog) (w := w) (base := base) (mg := mg) FDi
    have GCe := ok_cheach FCe N g_MOST_COURSES GIc CIc
    have GCt := ok_chtog FCt N g_MOST_STAGES_TOGETHER g_MOST_DEEDS GDi CDi
    have GLe := ok_leaving (P := l.prog) (w := w) (base := base) (mg := mg) FLe N
    have GBi := ok_bkinit FBi N B GCe CCe GCt CCt GLe CLe
    have GBd := ok_bkdeeds FBd N B GDi CDi
    have GPo := ok_pairof FPo N GNm CNm
    have GCd := ok_chdeal R2 B FCd N GBd bBd MBd GPo CPo
    have GOd := ok_onedesk B FOd N GBd bBd MBd
    have GOw := ok_owndesks B FOw N GBd bBd MBd
    have GDo := ok_desksof (P := l.prog) (w := w) (base := base) (mg := mg) FDo N
    have GDa := ok_deedsat (P := l.prog) (w := w) (base := base) (mg := mg) FDa N
    have GDd := ok_bydeed (P := l.prog) (w := w) (base := base) (mg := mg) FDd
    have GDf := ok_deskof FDf N GDd CDd
    have GCk := ok_chdeeds (P := l.prog) (w := w) (base := base) (mg := mg) R1 FCk N
    have GPa := ok_part (fE := fDd) (fdE := PySem.W.fnOf "desks_by_deed" "desks_by_deed" (defArgs sByDeed) (defBody sByDeed) (defScope sByDeed) .none kVDd dcDd pmDd anDd cdDd ctDd) FPa N GDd CDd GCk CCk
    have GPs := ok_parts FPs N GDd CDd GCk CCk GDo CDo
    have GWb := ok_withinby FWb N GPs CPs GWi CWi
    have GSb := ok_sameby FSb GPs CPs
    have GVa := ok_viewat (P := l.prog) (w := w) (base := base) (mg := mg) FVa
    have GBx := ok_box (P := l.prog) (w := w) (base := base) (mg := mg) FBx N.int N.len N.abs
    have GTk := ok_take (P := l.prog) (w := w) (base := base) (mg := mg) FTk N.int
    have GPk := ok_pick (P := l.prog) (w := w) (base := base) (mg := mg) FPk FTk bTk gTk N.int N.len
    have GNn := ok_names FNn N GTk CTk GPk CPk
    have GLi := ok_lawin (P := l.prog) (w := w) (base := base) (mg := mg) FLi N
    have GLp := ok_lawpart (P := l.prog) (w := w) (base := base) (mg := mg) FLp N
    have GLb := ok_lawby FLb N GLi CLi GLp CLp
    have GLk := ok_lawbook FLk N B MkB GBi bBi
    have GLr := ok_lawrow FLr N GTk CTk GPk CPk
    have GLz := ok_spoilt FLz N m_dict GTk CTk GPk CPk
    have GLtd := ok_told R2 Z2 FLtd GCd CCd kbCd
    have GLal := ok_alone R1 Z1 FLal GPa CPa kbPa GPs CPs kbPs
    have GLf := ok_refused R1 Z1 FLf GWb CWb kbWb GSb CSb kbSb
    have GLdu := ok_due FLdu N GLb CLb GLp CLp
    have GLq := ok_lawparts FLq N GLp CLp GPa CPa GPs CPs GVa CVa kbVa GDa CDa GDo CDo
    have GLpl := ok_plain FLpl N GOd gOd kOd bOd vOd kbOd GOw COw
    exact ok_law FLa N m_dict m_set R2 X2 iXDl gCRw (PySem.W.mg_of X G aSt) kRw kSt GBx CBx GTk CTk GPk CPk GNn CNn GLk CLk GLtd CLtd GLpl CLpl GLz CLz GLr CLr GLq CLq GLal CLal GLf CLf GLdu CLdu GDf CDf GDa CDa
end Kb
open PySem PySem.W PyProof.Rows in
set_option maxHeartbeats 0 in
theorem PySem.Challenge.cw_stillowed_k32_dealings_and_parts_holds : PySem.Challenge.rw_stillowed_k32_dealings_and_parts.Holds := by
  w_on; o_law; k_head; (case hw => w_witness2)
  k_fill
  refine LamX.walk_ofTs (l := PySem.Challenge.rw_stillowed_k32_dealings_and_parts) (n := 63) (k := 11) (x := "script") (CX := fun _ => L2.CX0) rfl (by decide) rfl ⟨rfl, by decide, by decide⟩ (fun w h Y => PySem.W.kIn_of Y) ?F (fun _ _ _ _ _ z => z)
  case F =>
    intro w mg fa h Y KX G hmg
    refine' Kb.all_mk KX G hmg ?nIi ?lIi ?cIi ?kIi ?nIn ?lIn ?cIn ?kIn ?nNt ?lNt ?cNt ?kNt ?nNm ?lNm ?cNm ?kNm ?nLt ?lLt ?cLt ?kLt ?nIl ?lIl ?cIl ?kIl ?nWi ?lWi ?cWi ?kWi ?nCd ?lCd ?cCd ?kCd ?nPo ?lPo ?cPo ?kPo ?nOd ?lOd ?cOd ?kOd ?kdOd ?nOw ?lOw ?cOw ?kOw ?nDo ?lDo ?cDo ?kDo ?nDa ?lDa ?cDa ?kDa ?nDf ?lDf ?cDf ?kDf ?nDd ?lDd ?cDd ?kDd ?nCk ?lCk ?cCk ?kCk ?nPa ?lPa ?cPa ?kPa ?nPs ?lPs ?cPs ?kPs ?nWb ?lWb ?cWb ?kWb ?nSb ?lSb ?cSb ?kSb ?nVa ?lVa ?cVa ?kVa ?nCe ?lCe ?cCe ?kCe ?nCt ?lCt ?cCt ?kCt ?nIc ?lIc ?cIc ?kIc ?nAe ?lAe ?cAe ?kAe ?nAt ?lAt ?cAt ?kAt ?nIs ?lIs ?cIs ?kIs ?nDi ?lDi ?cDi ?kDi ?nLe ?lLe ?cLe ?kLe ?nBx ?lBx ?cBx ?kBx ?nTk ?lTk ?cTk ?kTk ?nPk ?lPk ?cPk ?kPk ?nNn ?lNn ?cNn ?kNn ?nLi ?lLi ?cLi ?kLi ?nLp ?lLp ?cLp ?kLp ?nLb ?lLb ?cLb ?kLb ?nLk ?lLk ?cLk ?kLk ?nLr ?lLr ?cLr ?kLr ?nLz ?lLz ?cLz ?kLz ?nLtd ?lLtd ?cLtd ?kLtd ?nLal ?lLal ?cLal ?kLal ?nLf ?lLf ?cLf ?kLf ?nLdu ?lLdu ?cLdu ?kLdu ?nLq ?lLq ?cLq ?kLq ?nLpl ?lLpl ?cLpl ?kLpl ?nLa ?lLa ?cLa ?kLa ?aCB ?pgB ?hdB ?poB ?saB ?mkB ?kcB ?aBi ?iBi ?lBi ?cBi ?kBi ?aBd ?iBd ?lBd ?cBd ?kBd ?naB0 ?naB1 ?naB2 ?naB3 ?naB4 ?aCRw ?xLRw ?hbRw ?saRw ?gaRw ?ggRw ?noRw ?aIRw ?tIRw ?lIRw ?cIRw ?kIRw ?kXRw ?eXRw ?tXRw ?hXRw ?iXRw ?sXRw ?xcRw ?xmRw ?aCDl ?xLDl ?hbDl ?saDl ?gaDl ?ggDl ?noDl ?aIDl ?tIDl ?lIDl ?cIDl ?kIDl ?kXDl ?eXDl ?tXDl ?hXDl ?iXDl ?sXDl ?xcDl ?xmDl ?xn ?xt ?v_LONGEST_NAME ?v_MOST_COURSES ?v_MOST_STAGES ?v_MOST_STAGES_TOGETHER ?v_MOST_DEEDS ?aSt ?kRw ?kSt ?z_len ?z_range ?z_iter ?z_enumerate ?z_reversed ?z_tuple ?z_list ?z_sorted ?z_any ?z_all ?z_int ?z_str ?z_bool ?z_abs ?z_min ?z_max ?z_sum ?z_isinstance ?z_ValueError ?z_dict ?z_set
    (case nIi => k_is)
    (case lIi => k_is)
    (case cIi => k_is)
    (case kIi => k_is)
    (case nIn => k_is)
    (case lIn => k_is)
    (case cIn => k_is)
    (case kIn => k_is)
    (case nNt => k_is)
    (case lNt => k_is)
    (case cNt => k_is)
    (case kNt => k_is)
    (case nNm => k_is)
    (case lNm => k_is)
    (case cNm => k_is)
    (case kNm => k_is)
    (case nLt => k_is)
    (case lLt => k_is)
    (case cLt => k_is)
    (case kLt => k_is)
    (case nIl => k_is)
    (case lIl => k_is)
    (case cIl => k_is)
    (case kIl => k_is)
    (case nWi => k_is)
    (case lWi => k_is)
    (case cWi => k_is)
    (case kWi => k_is)
    (case nCd => k_is)
    (case lCd => k_is)
    (case cCd => k_is)
    (case kCd => k_is)
    (case nPo => k_is)
    (case lPo => k_is)
    (case cPo => k_is)
    (case kPo => k_is)
    (case nOd => k_is)
    (case lOd => k_is)
    (case cOd => k_is)
    (case kOd => k_is)
    (case kdOd => k_is)
    (case nOw => k_is)
    (case lOw => k_is)
    (case cOw => k_is)
    (case kOw => k_is)
    (case nDo => k_is)
    (case lDo => k_is)
    (case cDo => k_is)
    (case kDo => k_is)
    (case nDa => k_is)
    (case lDa => k_is)
    (case cDa => k_is)
    (case kDa => k_is)
    (case nDf => k_is)
    (case lDf => k_is)
    (case cDf => k_is)
    (case kDf => k_is)
    (case nDd => k_is)
    (case lDd => k_is)
    (case cDd => k_is)
    (case kDd => k_is)
    (case nCk => k_is)
    (case lCk => k_is)
    (case cCk => k_is)
    (case kCk => k_is)
    (case nPa => k_is)
    (case lPa => k_is)
    (case cPa => k_is)
    (case kPa => k_is)
    (case nPs => k_is)
    (case lPs => k_is)
    (case cPs => k_is)
    (case kPs => k_is)
    (case nWb => k_is)
    (case lWb => k_is)
    (case cWb => k_is)
    (case kWb => k_is)
    (case nSb => k_is)
    (case lSb => k_is)
    (case cSb => k_is)
    (case kSb => k_is)
    (case nVa => k_is)
    (case lVa => k_is)
    (case cVa => k_is)
    (case kVa => k_is)
    (case nCe => k_is)
    (case lCe => k_is)
    (case cCe => k_is)
    (case kCe => k_is)
    (case nCt => k_is)
    (case lCt => k_is)
    (case cCt => k_is)
    (case kCt => k_is)
    (case nIc => k_is)
    (case lIc => k_is)
    (case cIc => k_is)
    (case kIc => k_is)
    (case nAe => k_is)
    (case lAe => k_is)
    (case cAe => k_is)
    (case kAe => k_is)
    (case nAt => k_is)
    (case lAt => k_is)
    (case cAt => k_is)
    (case kAt => k_is)
    (case nIs => k_is)
    (case lIs => k_is)
    (case cIs => k_is)
    (case kIs => k_is)
    (case nDi => k_is)
    (case lDi => k_is)
    (case cDi => k_is)
    (case kDi => k_is)
    (case nLe => k_is)
    (case lLe => k_is)
    (case cLe => k_is)
    (case kLe => k_is)
    (case nBx => k_is)
    (case lBx => k_is)
    (case cBx => k_is)
    (case kBx => k_is)
    (case nTk => k_is)
    (case lTk => k_is)
    (case cTk => k_is)
    (case kTk => k_is)
    (case nPk => k_is)
    (case lPk => k_is)
    (case cPk => k_is)
    (case kPk => k_is)
    (case nNn => k_is)
    (case lNn => k_is)
    (case cNn => k_is)
    (case kNn => k_is)
    (case nLi => k_is)
    (case lLi => k_is)
    (case cLi => k_is)
    (case kLi => k_is)
    (case nLp => k_is)
    (case lLp => k_is)
    (case cLp => k_is)
    (case kLp => k_is)
    (case nLb => k_is)
    (case lLb => k_is)
    (case cLb => k_is)
    (case kLb => k_is)
    (case nLk => k_is)
    (case lLk => k_is)
    (case cLk => k_is)
    (case kLk => k_is)
    (case nLr => k_is)
    (case lLr => k_is)
    (case cLr => k_is)
    (case kLr => k_is)
    (case nLz => k_is)
    (case lLz => k_is)
    (case cLz => k_is)
    (case kLz => k_is)
    (case nLtd => k_is)
    (case lLtd => k_is)
    (case cLtd => k_is)
    (case kLtd => k_is)
    (case nLal => k_is)
    (case lLal => k_is)
    (case cLal => k_is)
    (case kLal => k_is)
    (case nLf => k_is)
    (case lLf => k_is)
    (case cLf => k_is)
    (case kLf => k_is)
    (case nLdu => k_is)
    (case lLdu => k_is)
    (case cLdu => k_is)
    (case kLdu => k_is)
    (case nLq => k_is)
    (case lLq => k_is)
    (case cLq => k_is)
    (case kLq => k_is)
    (case nLpl => k_is)
    (case lLpl => k_is)
    (case cLpl => k_is)
    (case kLpl => k_is)
    (case nLa => k_is)
    (case lLa => k_is)
    (case cLa => k_is)
    (case kLa => k_is)
    (case aCB => k_is)
    (case pgB => k_is)
    (case hdB => k_is)
    (case poB => k_is)
    (case saB => k_is)
    (case mkB => k_is)
    (case kcB => k_is)
    (case aBi => k_is)
    (case iBi => k_is)
    (case lBi => k_is)
    (case cBi => k_is)
    (case kBi => k_is)
    (case aBd => k_is)
    (case iBd => k_is)
    (case lBd => k_is)
    (case cBd => k_is)
    (case kBd => k_is)
    (case naB0 => k_is)
    (case naB1 => k_is)
    (case naB2 => k_is)
    (case naB3 => k_is)
    (case naB4 => k_is)
    (case aCRw => k_is)
    (case xLRw => k_is)
    (case hbRw => first | decide +kernel | rfl | k_is)
    (case saRw => k_is)
    (case gaRw => k_is)
    (case ggRw => k_is)
    (case noRw => k_is)
    (case aIRw => k_is)
    (case tIRw => k_is)
    (case lIRw => k_is)
    (case cIRw => k_is)
    (case kIRw => k_is)
    (case kXRw => k_is)
    (case eXRw => k_is)
    (case tXRw => k_is)
    (case hXRw => k_is)
    (case iXRw => k_is)
    (case sXRw => first | rfl | k_is)
    (case xcRw => k_is)
    (case xmRw => k_is)
    (case aCDl => k_is)
    (case xLDl => k_is)
    (case hbDl => first | decide +kernel | rfl | k_is)
    (case saDl => k_is)
    (case gaDl => k_is)
    (case ggDl => k_is)
    (case noDl => k_is)
    (case aIDl => k_is)
    (case tIDl => k_is)
    (case lIDl => k_is)
    (case cIDl => k_is)
    (case kIDl => k_is)
    (case kXDl => k_is)
    (case eXDl => k_is)
    (case tXDl => k_is)
    (case hXDl => k_is)
    (case iXDl => k_is)
    (case sXDl => first | rfl | k_is)
    (case xcDl => k_is)
    (case xmDl => k_is)
    (case xn => k_is)
    (case xt => k_is)
    (case v_LONGEST_NAME => k_is)
    (case v_MOST_COURSES => k_is)
    (case v_MOST_STAGES => k_is)
    (case v_MOST_STAGES_TOGETHER => k_is)
    (case v_MOST_DEEDS => k_is)
    (case aSt => k_is)
    (case kRw => first | k_is | rfl | decide +kernel)
    (case kSt => first | k_is | rfl | decide +kernel)
    (case z_len => k_is)
    (case z_range => k_is)
    (case z_iter => k_is)
    (case z_enumerate => k_is)
    (case z_reversed => k_is)
    (case z_tuple => k_is)
    (case z_list => k_is)
    (case z_sorted => k_is)
    (case z_any => k_is)
    (case z_all => k_is)
    (case z_int => k_is)
    (case z_str => k_is)
    (case z_bool => k_is)
    (case z_abs => k_is)
    (case z_min => k_is)
    (case z_max => k_is)
    (case z_sum => k_is)
    (case z_isinstance => k_is)
    (case z_ValueError => k_is)
    (case z_dict => k_is)
    (case z_set => k_is)
