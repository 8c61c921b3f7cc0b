import PyProof.Rows.All
import Wide.All
import OpenK.AllK
import Wide.FinOn
import PyProof.TupleIter
import PyProof.WalksMore
import HandS.ForMost
import HandS.IterNext
import HandS.IterVal
import KE.GoesMore
import PyProof.EnumMake
import HandS.Style
import KE.SortKeyHeap
import KE.KLam
import KE.KDictCopyH
import HandS.SortKw
import HandS.Lambda
import HandS.DictComp
import HandS.Walk
import HandS.Gcd
import KE.SortData
import KE.DataMinMax
import PyProof.DictUpdate
import PySem.Challenge.RW_stillowed_k34_looks_by_a_dealing
import HandS.Zip
import HandS.Rev
import HandS.Evl
import HandS.Wide
import HandS.TupLe
import HandS.Deep
import HandS.TupAny
import HandS.IsInst
import PyProof.P3Eq
import HandS.TupLen
import HandS.More
import HandS.ForExc
import HandS.ExcInit
import HandS.Codes
import HandS.StrMore
import HandS.SetFor
import HandS.Strs
import HandS.ListItems
import HandS.DictTup
import KE.KDictList
import HandS.Conv
import KE.KEqDict
import PyProof.DictFindH
import KE.KDictPairs
import HandS.Dict
import HandS.List
import KE.KDictKeyed
import HandS.Text
import HandS.EndTab
import KE.KNestM
set_option Elab.async false
set_option linter.all false
set_option maxRecDepth 100000
set_option maxHeartbeats 32000000
/-! The mathematics of fits (own text; no part of the kit). -/
namespace Ka

variable {α : Type} [DecidableEq α]

/-- may the place stand behind the fit so far -/
def okAfter (fit : List Nat) (at_ : Nat) : Bool :=
  match fit.getLast? with
  | none => true
  | some l => decide (l < at_)

/-- the places by which a fit is lengthened -/
def nexts (v : List α) (x : α) (fit : List Nat) : List Nat :=
  (List.range v.length).filter fun i => decide (v[i]? = some x) && okAfter fit i

def growAll (v : List α) (x : α) (found : List (List Nat)) : List (List Nat) :=
  found.flatMap fun fit => (nexts v x fit).map fun i => fit ++ [i]

/-- all fits, as a loop over u finds them -/
def allFrom (v : List α) : List α → List (List Nat) → List (List Nat)
  | [], found => found
  | x :: u, found => allFrom v u (growAll v x found)

def allFits (u v : List α) : List (List Nat) := allFrom v u [[]]

theorem allFrom_append (v : List α) : ∀ (u w : List α) (found : List (List Nat)), allFrom v (u ++ w) found = allFrom v w (allFrom v u found)
  | [], _, _ => rfl
  | x :: u, w, found => allFrom_append v u w (growAll v x found)

theorem allFits_snoc (u : List α) (x : α) (v : List α) : allFits (u ++ [x]) v = growAll v x (allFits u v) := by
  unfold allFits
  rw [allFrom_append]
  rfl

/-! ### what a fit is -/
structure IsFit (u v : List α) (g : List Nat) : Prop where
  len : g.length = u.length
  asc : ∀ i j a b : Nat, i < j → g[i]? = some a → g[j]? = some b → a < b
  hit : ∀ i a : Nat, g[i]? = some a → v[a]? = u[i]?

theorem okAfter_iff (fit : List Nat) (i : Nat) : okAfter fit i = true ↔ ∀ l, fit.getLast? = some l → l < i := by
  unfold okAfter
  cases h : fit.getLast? with
  | none => simp
  | some l => simp

theorem mem_growAll {v : List α} {x : α} {found : List (List Nat)} {g : List Nat} :
    g ∈ growAll v x found ↔ ∃ fit i, fit ∈ found ∧ g = fit ++ [i] ∧ v[i]? = some x ∧ okAfter fit i = true := by
  unfold growAll nexts
  simp only [List.mem_flatMap, List.mem_map, List.mem_filter, List.mem_range, Bool.and_eq_true, decide_eq_true_eq]
  constructor
  · rintro ⟨fit, hf, i, ⟨hi, hx, ho⟩, rfl⟩
    exact ⟨fit, i, hf, rfl, hx, ho⟩
  · rintro ⟨fit, i, hf, rfl, hx, ho⟩
    refine ⟨fit, hf, i, ⟨?_, hx, ho⟩, rfl⟩
    exact (List.getElem?_eq_some_iff.mp hx).1

theorem snoc_get {β : Type} (l : List β) (x : β) (i : Nat) : (l ++ [x])[i]? = if i < l.length then l[i]? else if i = l.length then some x else none := by
  rw [List.getElem?_append]
  split
  · rfl
  · split
    · rename_i h1 h2
      subst h2
      simp
    · rename_i h1 h2
      have : 1 ≤ i - l.length := by omega
      rw [List.getElem?_eq_none]
      simpa using this

theorem isFit_snoc {u v : List α} {x : α} {fit : List Nat} {i : Nat} :
    IsFit (u ++ [x]) v (fit ++ [i]) ↔ IsFit u v fit ∧ v[i]? = some x ∧ okAfter fit i = true := by
  constructor
  · intro h
    have hl : fit.length = u.length := by
      have := h.len
      simp at this
      exact this
    refine ⟨⟨hl, fun a b p q hab hp hq => ?_, fun a p hp => ?_⟩, ?_, ?_⟩
    · have h1 := (List.getElem?_eq_some_iff.mp hp).1
      have h2 := (List.getElem?_eq_some_iff.mp hq).1
      refine h.asc a b p q hab ?_ ?_
      · rw [snoc_get, if_pos h1]; exact hp
      · rw [snoc_get, if_pos h2]; exact hq
    · have h1 := (List.getElem?_eq_some_iff.mp hp).1
      have := h.hit a p (by rw [snoc_get, if_pos h1]; exact hp)
      rw [this, snoc_get, if_pos (by omega)]
    · have := h.hit fit.length i (by rw [snoc_get, if_neg (Nat.lt_irrefl _), if_pos rfl])
      rw [this, snoc_get, if_neg (by omega), if_pos (by omega)]
    · rw [okAfter_iff]
      intro l hl'
      rw [List.getLast?_eq_getElem?] at hl'
      have h1 := (List.getElem?_eq_some_iff.mp hl').1
      exact h.asc (fit.length - 1) fit.length l i (by omega) (by rw [snoc_get, if_pos h1]; exact hl') (by rw [snoc_get, if_neg (Nat.lt_irrefl _), if_pos rfl])
  · rintro ⟨h, hx, ho⟩
    rw [okAfter_iff] at ho
    have hl := h.len
    refine ⟨by simp [hl], fun a b p q hab hp hq => ?_, fun a p hp => ?_⟩
    · rw [snoc_get] at hp hq
      split at hq
      · rename_i hb
        rw [if_pos (by omega)] at hp
        exact h.asc a b p q hab hp hq
      · split at hq
        · rename_i hb hb2
          cases hq
          rw [if_pos (by omega)] at hp
          have hlast : ∃ l, fit.getLast? = some l := by
            cases e : fit.getLast? with
            | none =>
              rw [List.getLast?_eq_none_iff] at e
              subst e
              simp at hb2
              omega
            | some l => exact ⟨l, rfl⟩
          obtain ⟨l, el⟩ := hlast
          have h1 := ho l el
          by_cases e : a = fit.length - 1
          · rw [List.getLast?_eq_getElem?, ← e, hp] at el
            cases el
            exact h1
          · rw [List.getLast?_eq_getElem?] at el
            have h2 : a < fit.length := by omega
            exact Nat.lt_trans (h.asc a (fit.length - 1) p l (by omega) hp el) h1
        · cases hq
    · rw [snoc_get] at hp
      split at hp
      · rename_i h1
        rw [h.hit a p hp, snoc_get, if_pos (by omega)]
      · split at hp
        · rename_i h1 h2
          cases hp
          rw [hx, snoc_get, if_neg (by omega), if_pos (by omega)]
        · cases hp

theorem isFit_nil {v : List α} {g : List Nat} : IsFit ([] : List α) v g ↔ g = [] := by
  constructor
  · intro h
    have := h.len
    simpa using this
  · rintro rfl
    exact ⟨rfl, fun i j a b _ h => by simp at h, fun i a h => by simp at h⟩

theorem snoc_ind {β : Type} {P : List β → Prop} (h0 : P []) (h1 : ∀ l x, P l → P (l ++ [x])) : ∀ l, P l := by
  intro l
  have : ∀ r : List β, P r.reverse := by
    intro r
    induction r with
    | nil => exact h0
    | cons x r ih => rw [List.reverse_cons]; exact h1 _ _ ih
  simpa using this l.reverse

theorem mem_allFits (v : List α) : ∀ (u : List α) (g : List Nat), g ∈ allFits u v ↔ IsFit u v g := by
  refine snoc_ind (fun g => ?_) fun u x ih g => ?_
  · rw [isFit_nil]
    simp [allFits, allFrom]
  · rw [allFits_snoc, mem_growAll]
    constructor
    · rintro ⟨fit, i, hf, rfl, hx, ho⟩
      exact isFit_snoc.mpr ⟨(ih fit).mp hf, hx, ho⟩
    · intro h
      have hl := h.len
      obtain ⟨fit, i, rfl⟩ : ∃ fit i, g = fit ++ [i] := by
        rcases List.eq_nil_or_concat g with e | ⟨fit, i, e⟩
        · subst e
          simp at hl
        · exact ⟨fit, i, by rw [e]; simp⟩
      obtain ⟨h1, h2, h3⟩ := isFit_snoc.mp h
      exact ⟨fit, i, (ih fit).mpr h1, rfl, h2, h3⟩

/-! ### how many fits there are -/
def cnt (u v : List α) : Nat := (allFits u v).length

theorem cnt_nil (v : List α) : cnt ([] : List α) v = 1 := rfl

theorem growAll_nil (x : α) (found : List (List Nat)) : growAll ([] : List α) x found = [] := by
  unfold growAll nexts
  simp

theorem cnt_snoc_nil (u : List α) (x : α) : cnt (u ++ [x]) ([] : List α) = 0 := by
  unfold cnt
  rw [allFits_snoc, growAll_nil]
  rfl

def low (n : Nat) (g : List Nat) : Bool := g.all fun i => decide (i < n)

theorem filter_map_comm {β γ : Type} (f : β → γ) (p : γ → Bool) (l : List β) : (l.map f).filter p = (l.filter (p ∘ f)).map f := List.filter_map

theorem nexts_snoc (v : List α) (d x : α) (fit : List Nat) :
    nexts (v ++ [d]) x fit = nexts v x fit ++ (if d = x ∧ okAfter fit v.length = true then [v.length] else []) := by
  unfold nexts
  rw [List.length_append, List.length_singleton, List.range_succ, List.filter_append]
  congr 1
  · apply List.filter_congr
    intro i hi
    have hi' : i < v.length := List.mem_range.mp hi
    rw [snoc_get, if_pos hi']
  · rw [List.filter_cons, List.filter_nil]
    rw [snoc_get, if_neg (Nat.lt_irrefl _), if_pos rfl]
    by_cases e : d = x
    · subst e
      simp
    · simp [e]

theorem nexts_lt {v : List α} {x : α} {fit : List Nat} {i : Nat} (h : i ∈ nexts v x fit) : i < v.length := by
  unfold nexts at h
  exact List.mem_range.mp (List.mem_filter.mp h).1

theorem low_snoc (n : Nat) (fit : List Nat) (i : Nat) : low n (fit ++ [i]) = (low n fit && decide (i < n)) := by
  unfold low
  simp

theorem last_high {v : List α} {fit : List Nat} {g : List Nat} {x : α} (h : fit.getLast? = some g.length) : True := trivial

/-- the fits in v ++ [d] that lie in v are those in v, in the same order -/
theorem filter_low (v : List α) (d : α) : ∀ u : List α, (∀ g ∈ allFits u (v ++ [d]), low v.length g = true ∨ g.getLast? = some v.length) ∧ (allFits u (v ++ [d])).filter (low v.length) = allFits u v := by
  refine snoc_ind ⟨fun g hg => ?_, ?_⟩ fun u x ih => ?_
  · have : g = [] := by simpa [allFits, allFrom] using hg
    subst this
    exact .inl rfl
  · rfl
  · obtain ⟨ih1, ih2⟩ := ih
    refine ⟨fun g hg => ?_, ?_⟩
    · rw [allFits_snoc, mem_growAll] at hg
      obtain ⟨fit, i, hf, rfl, hx, ho⟩ := hg
      have hi : i < (v ++ [d]).length := (List.getElem?_eq_some_iff.mp hx).1
      simp at hi
      rcases ih1 fit hf with h | h
      · by_cases e : i < v.length
        · left
          rw [low_snoc, h, decide_eq_true e]
          rfl
        · right
          have : i = v.length := by omega
          simp [this]
      · rw [okAfter_iff] at ho
        have := ho _ h
        omega
    · rw [allFits_snoc, allFits_snoc, ← ih2]
      unfold growAll
      generalize allFits u (v ++ [d]) = L at ih1
      clear ih2
      induction L with
      | nil => rfl
      | cons fit L ihL =>
        have ih1' : ∀ g ∈ L, low v.length g = true ∨ g.getLast? = some v.length := fun g hg => ih1 g (List.mem_cons_of_mem _ hg)
        rw [List.flatMap_cons, List.filter_append, ihL ih1', List.filter_cons]
        have hsplit : ((nexts (v ++ [d]) x fit).map fun i => fit ++ [i]).filter (low v.length) = if low v.length fit = true then (nexts v x fit).map fun i => fit ++ [i] else [] := by
          rw [List.filter_map, nexts_snoc, List.filter_append]
          have h2 : ((if d = x ∧ okAfter fit v.length = true then [v.length] else []).filter (low v.length ∘ fun i => fit ++ [i])) = [] := by
            split
            · simp [low_snoc]
            · rfl
          rw [h2, List.append_nil]
          by_cases hl : low v.length fit = true
          · rw [if_pos hl]
            congr 1
            rw [List.filter_eq_self]
            intro i hi
            have := nexts_lt hi
            simp [low_snoc, hl, this]
          · rw [if_neg hl]
            have : (nexts v x fit).filter (low v.length ∘ fun i => fit ++ [i]) = [] := by
              rw [List.filter_eq_nil_iff]
              intro i hi
              simp [low_snoc, hl]
            rw [this]
            rfl
        rw [hsplit]
        by_cases hl : low v.length fit = true
        · rw [if_pos hl, if_pos hl, List.flatMap_cons]
        · rw [if_neg hl, if_neg hl, List.nil_append]

theorem sum_nexts (v : List α) (x : α) (found : List (List Nat)) : (growAll v x found).length = (found.map fun fit => (nexts v x fit).length).sum := by
  unfold growAll
  rw [List.length_flatMap]
  congr 1
  apply List.map_congr_left
  intro fit _
  rw [List.length_map]

/-- the one recurrence -/
theorem cnt_snoc_snoc (u : List α) (x : α) (v : List α) (d : α) : cnt (u ++ [x]) (v ++ [d]) = cnt (u ++ [x]) v + (if d = x then cnt u v else 0) := by
  unfold cnt
  rw [allFits_snoc, allFits_snoc, sum_nexts, sum_nexts]
  obtain ⟨h1, h2⟩ := filter_low v d u
  rw [← h2]
  generalize allFits u (v ++ [d]) = L at h1
  clear h2
  induction L with
  | nil => simp
  | cons fit L ih =>
    have h1' : ∀ g ∈ L, low v.length g = true ∨ g.getLast? = some v.length := fun g hg => h1 g (List.mem_cons_of_mem _ hg)
    rw [List.map_cons, List.sum_cons, ih h1', List.filter_cons, nexts_snoc, List.length_append]
    rcases h1 fit (List.mem_cons_self) with h | h
    · rw [if_pos h, List.map_cons, List.sum_cons, List.length_cons]
      have ho : okAfter fit v.length = true := by
        rw [okAfter_iff]
        intro l hl
        have hm : l ∈ fit := List.mem_of_getLast? hl
        unfold low at h
        have := (List.all_eq_true.mp h) l hm
        simpa using this
      by_cases e : d = x
      · simp [e, ho]
        omega
      · simp [e]
        try omega
    · have hn : ¬ low v.length fit = true := by
        intro hl
        have hm : v.length ∈ fit := List.mem_of_getLast? h
        unfold low at hl
        have := (List.all_eq_true.mp hl) _ hm
        simp at this
      have ho : okAfter fit v.length = false := by
        unfold okAfter
        rw [h]
        simp
      have h0 : nexts v x fit = [] := by
        unfold nexts
        rw [List.filter_eq_nil_iff]
        intro i hi
        have hi' := List.mem_range.mp hi
        have : okAfter fit i = false := by
          unfold okAfter
          rw [h]
          simp
          omega
        simp [this]
      rw [if_neg hn, h0, ho]
      simp

end Ka
/-! iter(t) of a tuple of texts, and x in it. -/
namespace Ka
open PySem PySem.Spec PyProof.Rows L2

theorem entry_ci : entryFor table "proto.contains_iter" = some Builtin.«proto.contains_iter» := entryFor_of_fast (by kernel_rfl)
theorem tu_nocontains : typeLookup (.type "tuple_iterator") "__contains__" = pure none := by rw [typeLookup_type, builtinLookup_eq_fast]; kernel_rfl

section
variable {prog : Program} {w : World} {A : Around} {E : Value → Shared → Prop} {s : Shared}

/-- what has become of the iterator: the text was found at j, or it is used up -/
def Went (it t : Addr) (zs : List Str) (z : Str) (i : Nat) (h h' : Heap) (b : Bool) : Prop :=
  (b = true ∧ ∃ j, i ≤ j ∧ zs[j]? = some z ∧ (∀ k, i ≤ k → k < j → zs[k]? ≠ some z) ∧ h'.IsTupleIter it t (j + 1) ∧ Heap.ExtBut it h h') ∨
  (b = false ∧ (∀ k, i ≤ k → zs[k]? ≠ some z) ∧ Heap.ExtBut it h h')

theorem ci_loop {it t : Addr} {items : Array Value} {zs : List Str} {z : Str} {tk : Tok} {R : Result → Shared → Prop} (hne : t ≠ it) (hh : A.handled = none)
    (hs : Vals (zs.map V.str) items.toList) : ∀ (n i : Nat) (s : Shared), zs.length - i = n → s.heap.IsTupleIter it t i → s.heap.IsTuple t items →
      (∀ h' b, Went it t zs z i s.heap h' b → R (.ok (.ret (.bool b))) { s with heap := h' }) → codeAny (model prog w) A (.builtin "proto.contains_iter" ⟨[.ref it, .str z tk], []⟩) R s := by
  intro n
  induction n with
  | zero =>
    intro i s hn hit ht q
    have hx : items[i]? = none := by
      have hl := hs.length
      simp only [List.length_map, Array.length_toList] at hl
      rw [Array.getElem?_eq_none_iff]
      omega
    refine codeAny_builtin entry_ci ?_
    show wpAny _ _ (pyNext (.ref it) >>= _) _ _ s
    refine wpAny_bind (wpAny_pyNext_tuple_end hh hit ht hx fun h' e => ?_)
    refine wpAny_bind (wpAny_rule (wpAny_pure ?_))
    exact q h' false (.inr ⟨rfl, fun k hk hz => by
      have := (List.getElem?_eq_some_iff.mp hz).1
      omega, e⟩)
  | succ n ih =>
    intro i s hn hit ht q
    have hi : i < zs.length := by omega
    have hz : (zs.map V.str)[i]? = some (.str zs[i]) := by
      rw [List.getElem?_map, List.getElem?_eq_getElem hi]
      rfl
    obtain ⟨u, hu, ru⟩ := hs.get hz
    obtain ⟨t1, rfl⟩ := ru
    have hx : items[i]? = some (.str zs[i] t1) := by rw [← Array.getElem?_toList]; exact hu
    refine codeAny_builtin entry_ci ?_
    show wpAny _ _ (pyNext (.ref it) >>= _) _ _ s
    refine wpAny_bind (wpAny_pyNext_tuple_item hit ht hx fun h' hit' sb => ?_)
    show wpAny _ _ (eqBool (.str zs[i] t1) (.str z tk) >>= _) _ _ _
    refine wpAny_bind (wpAny_eqBool_str ?_)
    by_cases e : zs[i] = z
    · rw [decide_eq_true e]
      refine wpAny_bind (wpAny_rule (wpAny_pure ?_))
      exact q h' true (.inl ⟨rfl, i, Nat.le_refl _, by rw [List.getElem?_eq_getElem hi, e], fun k h1 h2 => by omega, hit', sb.extBut⟩)
    · rw [decide_eq_false e]
      refine wpAny_pure ⟨Code.quiet_builtin _ (by decide +kernel), ?_⟩
      refine ih (i + 1) { s with heap := h' } (by omega) hit' (by
        obtain ⟨o, ho, r⟩ := ht
        exact ⟨o, (sb.2 t hne).trans ho, r⟩) fun h2 b g => ?_
      refine q h2 b ?_
      have lift : ∀ k, i ≤ k → k ≠ i → i + 1 ≤ k := fun k h1 h2 => by omega
      have hzi : zs[i]? ≠ some z := by
        rw [List.getElem?_eq_getElem hi]
        exact fun w => e (Option.some.inj w)
      rcases g with ⟨rfl, j, h1, h3, h4, h5, h6⟩ | ⟨rfl, h1, h3⟩
      · refine .inl ⟨rfl, j, by omega, h3, fun k a c => ?_, h5, sb.extBut.trans h6⟩
        by_cases ek : k = i
        · rw [ek]; exact hzi
        · exact h4 k (lift k a ek) c
      · refine .inr ⟨rfl, fun k a => ?_, sb.extBut.trans h3⟩
        by_cases ek : k = i
        · rw [ek]; exact hzi
        · exact h1 k (lift k a ek)

theorem contains_ti {it t : Addr} {items : Array Value} {zs : List Str} {z : Str} {tk : Tok} {i : Nat} {Q : Bool → Shared → Prop} (hne : t ≠ it) (hh : A.handled = none)
    (hs : Vals (zs.map V.str) items.toList) (hit : s.heap.IsTupleIter it t i) (ht : s.heap.IsTuple t items)
    (q : ∀ h' b, Went it t zs z i s.heap h' b → Q b { s with heap := h' }) : wpAny (model prog w) A (contains (.ref it) (.str z tk)) Q E s := by
  unfold contains
  refine wpAny_holding ?_
  show wpAny _ _ (specialOf (.ref it) "__contains__" >>= _) _ _ s
  refine wpAny_bind (wpAny_specialOf hit.typeIs tu_nocontains ?_)
  refine wpAny_ite_split (fun hab => absurd hab (by decide)) (fun _ => ?_)
  refine wpAny_bind (wpAny_callSpecialUnlessNone?_none hit.typeIs tu_nocontains ?_)
  refine wpAny_bind (wpAny_rule ?_)
  refine wpAny_bind (wpAny_tryCatch (wpAny_mono (wpAny_pyIter_tupleiter (E := fun _ _ => False) hit (Q := fun v s' => v = .ref it ∧ s' = s) ⟨rfl, rfl⟩) (fun v s' hv => ?_) fun _ _ x => x.elim))
  obtain ⟨rfl, rfl⟩ := hv
  refine wpAny_bind (wpAny_runValue (ci_loop hne hh hs _ i _ rfl hit ht fun h' b g => ?_))
  exact wpAny_pure (q h' b g)

theorem call_iter_tuple {t : Addr} {items : Array Value} {Q : Value → Shared → Prop} (ht : s.heap.IsTuple t items)
    (h : Q (.ref s.heap.objs.size) { s with heap := s.heap.push { cls := .type "tuple_iterator", data := .fields #[.ref t, .int 0 0] } }) : wpAny (model prog w) A (call (.builtin "iter") [.ref t]) Q E s := by
  refine Calls.call_function_entry (by decide +kernel) (by decide +kernel) PySem.W.kdk_entry_iter (PySem.W.kdk_args_iter _) ?_
  unfold Builtin.«iter»
  refine wpAny_bind (m := someArgs "iter" 1 2 _) (wpAny_of_eq (a := [Value.ref t]) (by first | rfl | kernel_rfl!) ?_)
  show wpAny _ _ (pyIter (.ref t) >>= _) _ _ _
  refine wpAny_bind (wpAny_pyIter_tuple ht ?_)
  exact wpAny_pure ⟨_, rfl, h⟩
end

/-- at it an iterator over the tuple at t, the next place is i -/
def TupI (t it : Addr) (i : Nat) : HO := .ext fun h => h.IsTupleIter it t i
section
variable {X : Cx}
theorem ti_ok {P : Program} {w : World} {H : Hp} {h : Heap} {t it : Addr} {i : Nat} (e : h.IsTupleIter it t i) : ObjOk P w H h it (TupI t it i) :=
  ⟨e, let ⟨o, ho, _⟩ := e; ⟨o, ho⟩, fun h1 h2 q k => let ⟨o, ho, r⟩ := q; ⟨o, k _ ho, r⟩⟩

def rIterT (K : PySem.W.Frag) (n : Nat) : List V → Hp → VK → Prop := fun xs H Q => ∃ (t : Addr) (zs : List V), xs = [.ref t] ∧ SqT K H t zs ∧ ∀ it, H it = none → n ≤ it → Q (.ref it) (upd H it (TupI t it 0))
theorem call_iterT : CallR X (.builtin "iter") (rIterT X.K X.s_0.heap.objs.size) := by
  intro pins s σ H xs us Q I r h
  obtain ⟨l, zs, rfl, hq, q⟩ := h
  obtain rfl := Vals.ref1 r
  obtain ⟨its, rv, pl, hz⟩ := I.tuple hq
  refine call_iter_tuple pl ?_
  exact ⟨.ref s.heap.objs.size, _, I.laid (t' := s.toks) (fun b u e => Heap.get?_push_of_some _ e) (Nat.le_refl _) (ti_ok ⟨_, Heap.get?_push_size _ rfl, rfl, rfl⟩), rfl, q _ (I.hok.fresh (Nat.le_refl _)) I.sz⟩

/-- x in it; where it is used up, it is forgotten -/
def rInTI (K : PySem.W.Frag) (n : Nat) : R2 := fun x y H Q => ∃ (z : Str) (it t : Addr) (zs : List Str) (i : Nat), x = .str z ∧ y = .ref it ∧ n ≤ it ∧ H it = some (TupI t it i) ∧ SqT K H t (zs.map V.str) ∧
  ((∃ j, i ≤ j ∧ zs[j]? = some z ∧ (∀ k, i ≤ k → k < j → zs[k]? ≠ some z) ∧ Q (.bl true) (upd H it (TupI t it (j + 1)))) ∨ ((∀ k, i ≤ k → zs[k]? ≠ some z) ∧ Q (.bl false) (ItX.dropH H it)))
theorem op_inTI (hc : X.calm = true) : OpR X (compareOp .In) (rInTI X.K X.s_0.heap.objs.size) := by
  intro pins s σ H x y v u Q I rx ry h
  obtain ⟨z, it, t, zs, i, rfl, rfl, hn, hit, hq, q⟩ := h
  obtain ⟨tk, rfl⟩ := rx
  cases ry
  obtain ⟨its, rv, pl, hz⟩ := I.tuple hq
  have hI : s.heap.IsTupleIter it t i := (I.hok it _ hit).1
  have hne : t ≠ it := by
    intro e
    subst e
    obtain ⟨o, ho, hc, _⟩ := hI
    obtain ⟨o', ho', hc', _⟩ := pl
    rw [ho] at ho'
    cases ho'
    rw [hc] at hc'
    revert hc'
    simp
  have mu : Mut (H it) := by rw [hit]; exact True.intro
  show wpAny _ _ (contains (.ref it) (.str z tk) >>= fun b => pure (Value.bool b)) _ _ s
  refine wpAny_bind (contains_ti hne (I.ok.hd hc) (by simpa using rv) hI pl fun h' b g => wpAny_pure ?_)
  rcases g with ⟨rfl, j, h1, h3, h4, h5, h6⟩ | ⟨rfl, h1, h3⟩
  · rcases q with ⟨j', a1, a3, a4, q⟩ | ⟨a1, _⟩
    · have e : j' = j := by
        rcases Nat.lt_trichotomy j j' with l | l | l
        · exact absurd h3 (a4 j h1 l)
        · exact l.symm
        · exact absurd a3 (h4 j' a1 l)
      subst e
      exact ⟨.bl true, _, I.write (x := it) (e := it) (t' := s.toks) mu (.inl rfl) (fun b o nb e => h6 b o nb e) (let ⟨o, ho, _⟩ := h5; ⟨o, ho⟩) (ti_ok h5), rfl, q⟩
    · exact absurd h3 (a1 j h1)
  · rcases q with ⟨j', a1, a3, a4, q⟩ | ⟨a1, q⟩
    · exact absurd a3 (h1 j' a1)
    · have I2 := ItX.inv_drop I hit
      obtain ⟨f0, f1, f2, f3, f4, f5⟩ := ItX.inv_fp I hit hn
      exact ⟨.bl false, _, I2.turned (t' := s.toks) (fun b o nb e => h3 b o nb e) f0 f1 f3 f4 f5, rfl, q⟩
end
end Ka
/-! enumerate(t) of a tuple; xs[i] op= e of a list. -/
namespace Ka
open PySem PySem.Spec PyProof.Rows L2
open AutoSeq1 (wpAny_loadPart')

theorem meets_enumerate_newT (l : Addr) (items : Array Value) (o : Obj) (ho : o.cls = .type "tuple") (hd : ∃ n, o.data = .seq items n) :
    Meets (Builtin.«enumerate.__new__» ⟨[.type "enumerate", .ref l], []⟩) (fun _ R s => s.heap.get? l = some o ∧
      R (.ok (.ret (.ref (s.heap.push { cls := .type "tuple_iterator", data := .fields #[.ref l, .int 0 0] }).objs.size)))
        { s with heap := (s.heap.push { cls := .type "tuple_iterator", data := .fields #[.ref l, .int 0 0] }).push { cls := .type "enumerate", data := .fields #[.none, .bool false, .ref s.heap.objs.size, rawInt 0, .none, .none] } }) :=
  .of_wp fun prog w A R s h => by
    obtain ⟨hp, g, d, tk, os⟩ := s; obtain ⟨hl, h⟩ := h
    obtain ⟨c, dct, dt, sl⟩ := o
    obtain ⟨n, hd⟩ := hd
    replace ho : c = .type "tuple" := ho
    replace hd : dt = .seq items n := hd
    subst ho hd
    have hsub := sub_enumerate
    have hL : Heap.IsTuple (Shared.heap ⟨hp, g, d, tk, os⟩) l items := ⟨_, hl, rfl, n, rfl⟩
    wp_walk using wpAny_loadPart' hl
    refine wpAny_stack_any fun st => wpAny_pure ?_
    split
    · rename_i c _ _ _ _ _
      cases (c == Value.type "enumerate")
      · wp_walk using wpAny_loadPart' hl, wpAny_pyIter_tuple hL
        exact ⟨_, rfl, h⟩
      · wp_walk using wpAny_loadPart' hl, wpAny_pyIter_tuple hL
        exact ⟨_, rfl, h⟩
    · wp_walk using wpAny_loadPart' hl, wpAny_pyIter_tuple hL
      exact ⟨_, rfl, h⟩

section
variable {prog : Program} {w : World} {A : Around} {E : Value → Shared → Prop} {s : Shared}
theorem call_enumerate_tuple {l : Addr} {items : Array Value} {Q : Value → Shared → Prop} (hL : s.heap.IsTuple l items)
    (h : ∀ h', IsEnum h' (s.heap.objs.size + 1) s.heap.objs.size 0 .none → h'.IsTupleIter s.heap.objs.size l 0 → h'.objs.size = s.heap.objs.size + 2 →
      (∀ b o, s.heap.get? b = some o → h'.get? b = some o) → Q (.ref (s.heap.objs.size + 1)) { s with heap := h' }) :
    wpAny (model prog w) A (call (.type "enumerate") [.ref l]) Q E s := by
  obtain ⟨o, hl, hc, hd⟩ := hL
  refine callType_new F.called_enumerate (by decide) (F.typeCall_enumerate_1 _) (F.newCall_enumerate_1 _) (fun obj => F.args_object_init_2 obj _) F.entry_enumerate_new
    (meets_enumerate_newT l items o hc hd) ⟨hl, ?_⟩
  have hz : (s.heap.push { cls := .type "tuple_iterator", data := .fields #[.ref l, .int 0 0] }).objs.size = s.heap.objs.size + 1 := Heap.size_push ..
  show _ ∧ _
  rw [hz]
  have he : IsEnum ((s.heap.push { cls := .type "tuple_iterator", data := .fields #[.ref l, .int 0 0] }).push
      { cls := .type "enumerate", data := .fields #[.none, .bool false, .ref s.heap.objs.size, rawInt 0, .none, .none] }) (s.heap.objs.size + 1) s.heap.objs.size 0 .none := by
    have := Heap.get?_push_size (s.heap.push { cls := .type "tuple_iterator", data := .fields #[.ref l, .int 0 0] })
      (o := { cls := .type "enumerate", data := .fields #[.none, .bool false, .ref s.heap.objs.size, rawInt 0, .none, .none] }) rfl
    rw [hz] at this; exact this
  refine ⟨⟨_, he, rfl⟩, h _ he ⟨_, Heap.get?_push_of_some _ (Heap.get?_push_size _ rfl), rfl, rfl⟩ (by rw [Heap.size_push, hz]) fun b o x => Heap.get?_push_of_some _ (Heap.get?_push_of_some _ x)⟩
end

/-- the tuple at a, each item in a new pair -/
def Iet (K : PySem.W.Frag) (a : Addr) : It :=
  ⟨fun i H => ∃ (xs : List V) (x : V), SqT K H a xs ∧ xs[i]? = some x, fun i H v H' => ∃ T x, v = .ref T ∧ H T = none ∧ H' = upd H T (.tup [.int (i : Nat), x]) ∧ ∀ xs, SqT K H a xs → xs[i]? = some x, fun i H => ∃ xs : List V, SqT K H a xs ∧ xs.length ≤ i⟩
theorem turn_enumT {P : Program} {w : World} {K : PySem.W.Frag} {elts : List Expr} {kk : Nat} {tpos : Pos} (a e it : Addr) (hae : a ≠ e) (hai : a ≠ it) (len : Nat) :
    Turn P w K (.Tuple elts kk tpos) (Iet K a) [e, it] e (fun i h => (∃ old, IsEnum h e it ((i : Nat) : Int) old) ∧ h.IsTupleIter it a i ∧ e ≠ it) where
  mem := by simp
  obj := fun i h st b hb => by
    obtain ⟨⟨old, he⟩, ⟨o, ho, hc, hd⟩, _⟩ := st
    have e' : b = e ∨ b = it := by simpa using hb
    rcases e' with z | z
    · rw [z]; exact ⟨_, he, fun v q => nomatch q⟩
    · rw [z]; exact ⟨o, ho, fun v q => by rw [hd] at q; cases q⟩
  keep := fun i h h' st k => let ⟨⟨old, he⟩, hi, hne⟩ := st; ⟨⟨old, k e (by simp) _ he⟩, hi.at fun o q => k it (by simp) o q, hne⟩
  item := by
    intro X hP hw hK hc i pins s σ H E I hf st hg
    subst hP hw hK
    obtain ⟨⟨old, he⟩, hit, hne⟩ := st
    obtain ⟨xs, x, hq, hx⟩ := hg
    obtain ⟨its, rv, p, hz⟩ := I.tuple hq
    obtain ⟨u, hu, ru⟩ := rv.get hx
    have hel : e < s.heap.objs.size := Heap.lt_size he
    have hil : it < s.heap.objs.size := by obtain ⟨_, q, _⟩ := hit; exact Heap.lt_size q
    have hit0 : i < its.toArray.size := by
      have := (List.getElem?_eq_some_iff.mp hu).1
      simpa using this
    refine wpAny_pyNext_enum_itemD (Draws.tuple (A := X.A.in1) (by first | exact I.ok.hd hc | (show X.A.handled = none; exact I.ok.hd hc)) it a hai its.toArray) he ⟨hit, p⟩ hit0 hne (by simp [hne, Ne.symm hae]) fun x' h' tk hx' ho hst hT hsz hk => ?_
    have ex : x' = u := by
      have h2 : its.toArray[i]? = some u := by simpa using hu
      rw [h2] at hx'
      exact (Option.some.inj hx').symm
    subst ex
    refine ⟨_, rfl, wpAny_letOwnedTupleGo_enum (s := { s with heap := h', toks := tk + 1 }) ho fun h'' he' sb => ?_⟩
    have hT2 : h''.get? s.heap.objs.size = some { cls := .type "tuple", data := .seq #[.int i tk, x'] } := (sb.2 _ (Nat.ne_of_gt hel)).trans hT
    have new : ObjOk X.prog X.w (upd H s.heap.objs.size (.tup [.int (i : Nat), x])) h'' s.heap.objs.size (.tup [.int (i : Nat), x]) :=
      ⟨by show 2 ≤ sizeLine; decide, [.int i tk, x'], .cons ⟨_, rfl⟩ (.cons ru .nil), ⟨_, hT2, rfl, _, rfl⟩⟩
    have I1 : Inv X pins σ (upd H s.heap.objs.size (.tup [.int (i : Nat), x])) { s with heap := h'', toks := tk + 1 } :=
      I.turnedNew (ch := [e, it]) (fun b ob hb q => (sb.2 b (fun z => hb (by simp [z]))).trans (hk b ob (fun z => hb (by simp [z])) (fun z => hb (by simp [z])) q)) hf (Nat.le_refl _) new
    refine ⟨.ref s.heap.objs.size, _, I1, rfl, ⟨_, x, rfl, I.hok.fresh (Nat.le_refl _), rfl, fun ys hy => by rw [I.tuple_inj hy hq]; exact hx⟩, ⟨⟨x', ?_⟩, hst.1.at fun o q => (sb.2 it (Ne.symm hne)).trans q, hne⟩, fun b hb => ?_⟩
    · have e1 : ((i + 1 : Nat) : Int) = (i : Int) + 1 := by omega
      rw [e1]; exact he'
    · have hb' : b < s.heap.objs.size := by
        have e' : b = e ∨ b = it := by simpa using hb
        rcases e' with z | z
        · rw [z]; exact hel
        · rw [z]; exact hil
      rw [upd_ne (Nat.ne_of_lt hb')]
      exact (hf b hb).1
  done := by
    intro X hP hw hK hc i pins s σ H E I hf st hg
    subst hP hw hK
    obtain ⟨⟨old, he⟩, hit, hne⟩ := st
    obtain ⟨xs, hq, hx⟩ := hg
    obtain ⟨its, rv, p, hz⟩ := I.tuple hq
    obtain ⟨f0, f1, f2, f3, f4, f5⟩ := hf it (by simp)
    have hl := rv.length
    have hT : s.TypeIs (.ref e) "enumerate" := ⟨_, he, rfl⟩
    unfold pyNext
    refine wpAny_bind (wpAny_attempt (wpAny_callSpecial?_slot (name := Str.ofString "__next__") hT F.slot_enumerate_next
      (wpAny_call_entry F.slot_enumerate_next hT F.entry_enumerate_next ?_ (F.args_enumerate_next_1 _))))
    show wpAny _ _ (field (.ref e) 2 >>= _) _ _ _
    refine wpAny_bind (wpAny_field he rfl (x := .ref it) rfl ?_)
    refine wpAny_bind (wpAny_nextOf_tuple_end (by first | exact I.ok.hd hc | (show X.A.handled = none; exact I.ok.hd hc)) hit p (by rw [Array.getElem?_eq_none_iff]; simp; omega) fun h' x he' hx' => ?_)
    obtain ⟨o, ho, hc'⟩ := hx'
    refine wpAny_bind (wpAny_isInstance (T := "StopIteration") (b := true) ⟨o, ho, hc'⟩ isSubtype_stop ?_)
    exact wpAny_pure ⟨rfl, I.turned (t' := s.toks) (fun b o hb q => he' b o hb q) f0 f1 f3 f4 f5⟩
  self := fun A i s Q E st h => let ⟨⟨_, he⟩, _⟩ := st; wpAny_pyIter_enum he h
def iEnumT (K : PySem.W.Frag) (ta : TA) : TI := fun σ H R => ta σ H fun vs H1 => ∃ a xs, vs = [.ref a] ∧ SqT K H1 a xs ∧ R (Iet K a) H1
theorem pi_enumT {X : Cx} {e : Expr} {ta : TA} {p pos tpos : Pos} {elts : List Expr} {kk : Nat} (hg : Gl X "enumerate") (hm : X.mg "enumerate" = none) (ha : PA X [e] ta) (hs : starEach [e] X.env = [(false, eval e X.env)] := by rfl) :
    PI X (.Tuple elts kk tpos) (.Call (.Name "enumerate" p) [e] [] pos) (iEnumT X.K ta) := by
  refine ⟨fun pins s σ H R I h => ?_⟩
  refine Call_ (ld_blt I hg hm boot_enumerate (PyProof.Rows.callWith_type1 (thn (ha.run pos pins s σ H _ I h) fun us s1 ⟨vs, H1, I1, r1, q1⟩ => ?_) hs rfl))
  obtain ⟨a, xs, ex, hq, q⟩ := q1
  subst ex
  cases r1 with
  | cons r rr =>
    cases rr
    cases r
    obtain ⟨its, rv, p', hz⟩ := I1.tuple hq
    have hal : a < s1.heap.objs.size := by obtain ⟨_, z, _⟩ := p'; exact Heap.lt_size z
    refine call_enumerate_tuple p' fun h' he hit hsz hk => wpAny_pyIter_enum he ?_
    have I2 : Inv X pins σ H1 { s1 with heap := h' } := I1.kept (t' := s1.toks) hk
    refine ⟨s1.heap.objs.size + 1, [s1.heap.objs.size + 1, s1.heap.objs.size], _, _, H1, rfl, I2, turn_enumT a (s1.heap.objs.size + 1) s1.heap.objs.size (Nat.ne_of_lt (Nat.lt_succ_of_lt hal)) (Nat.ne_of_lt hal) 0, ⟨⟨.none, he⟩, hit, Nat.succ_ne_self _⟩, fun b hb => ?_, q⟩
    have e' : b = s1.heap.objs.size + 1 ∨ b = s1.heap.objs.size := by simpa using hb
    have hle : s1.heap.objs.size ≤ b := by
      rcases e' with z | z
      · rw [z]; exact Nat.le_add_right _ _
      · rw [z]; exact Nat.le_refl _
    exact I1.fpOk hle (I1.hok.fresh hle)

/-- a loop over enumerate(t), by one word a turn -/
theorem for_enumT {K : PySem.W.Frag} {a : Addr} {xs : List V} {g : TG} {tb : TS} {D : Ends} {σ : L2.St} {H : Hp} (Pv : Nat → L2.St → Hp → Prop) (h0 : Pv 0 σ H) (hl : ∀ i σ H, Pv i σ H → SqT K H a xs)
    (hs : ∀ i x T σ H, xs[i]? = some x → Pv i σ H → H T = none → g (.ref T) σ (upd H T (.tup [.int (i : Nat), x])) fun σ2 H2 => tb { D with nx := Pv (i + 1), ct := Pv (i + 1), bk := D.nx } σ2 H2)
    (hd : ∀ σ H, Pv xs.length σ H → D.nx σ H) :
    ∃ W : Nat → Nat → L2.St → Hp → Prop, (∃ m, W 0 m σ H) ∧ ∀ i m σ H, W i m σ H →
      ((Iet K a).stop i H ∧ D.nx σ H) ∨ ((Iet K a).go i H ∧ ∃ N : L2.St → Hp → Prop, (∀ σ' H', N σ' H' → ∃ m', m' < m ∧ W (i + 1) m' σ' H') ∧ ∀ x H', (Iet K a).yld i H x H' → g x σ H' fun σ2 H2 => tb { D with nx := N, ct := N, bk := D.nx } σ2 H2) := by
  refine ⟨fun i m σ H => m = xs.length - i ∧ i ≤ xs.length ∧ Pv i σ H, ⟨_, rfl, Nat.zero_le _, h0⟩, ?_⟩
  rintro i m σ H ⟨rfl, hi, p⟩
  have q := hl i σ H p
  by_cases hlt : i < xs.length
  · refine .inr ⟨⟨xs, xs[i], q, List.getElem?_eq_getElem hlt⟩, Pv (i + 1), fun σ' H' p' => ⟨xs.length - (i + 1), by omega, rfl, hlt, p'⟩, fun x H' y => ?_⟩
    obtain ⟨T, z, rfl, nT, rfl, hz⟩ := y
    exact hs i z T σ H (hz xs q) p nT
  · have e : i = xs.length := by omega
    refine .inl ⟨⟨xs, q, Nat.le_of_eq e.symm⟩, hd σ H ?_⟩
    rw [← e]
    exact p

/-! ### xs[i] op= e -/
def gtL (K : PySem.W.Frag) : V → V → Hp → VK → Prop := fun x y H Q => ∃ p xs j v, x = .ref p ∧ y = .int ((j : Nat) : Int) ∧ SqL K H p xs ∧ j < 2 ^ 62 ∧ xs[j]? = some v ∧ Q v H
theorem get_list {X : Cx} : PGet X (gtL X.K) := by
  intro pins s σ H o i ov iv Q I ro ri h
  obtain ⟨p, xs, j, v, rfl, rfl, hq, hj, hv, q⟩ := h
  cases ro
  obtain ⟨t, rfl⟩ := ri
  obtain ⟨its, r, pl, hz⟩ := I.list hq
  obtain ⟨u, hu, ru⟩ := r.get hv
  exact wpAny_getItem_list pl.isList (by omega) (by omega) (by simpa using hu) ⟨v, H, I, ru, q⟩
end Ka
/-! t[::-1] of a tuple. -/
namespace Ka
open PySem PySem.Spec PyProof.Rows L2 HT

theorem back_places (n : Nat) : Builtin.Slice.slicePlaces ((n : Int) - 1) (-1) (-1) = n := by
  unfold Builtin.Slice.slicePlaces
  rw [if_neg (by decide)]
  by_cases h : n = 0
  · subst h
    rfl
  · rw [if_pos (by omega)]
    have e : ((n : Int) - 1 - -1 - 1) / (- -1) + 1 = n := by
      rw [show (-(-1 : Int)) = 1 by decide, Int.ediv_one]
      omega
    rw [e]
    exact Int.toNat_natCast n

theorem back_some (xs : Array Value) (f : Nat → Option Value) (hf : ∀ k, k < xs.size → f k = xs.toList.reverse[k]?) : ∀ l : List Nat, (∀ k ∈ l, k < xs.size) → l.filterMap f = l.map fun k => xs.toList.reverse[k]?.getD .none
  | [], _ => rfl
  | k :: l, h => by
    have hk : k < xs.size := h k List.mem_cons_self
    have h2 : k < xs.toList.reverse.length := by simpa using hk
    rw [List.filterMap_cons, hf k hk, List.map_cons, back_some xs f hf l fun j hj => h j (List.mem_cons_of_mem _ hj), List.getElem?_eq_getElem h2]
    rfl
theorem back_items (xs : Array Value) : ((List.range xs.size).filterMap fun (k : Nat) => xs[((xs.size : Int) - 1 + (k : Int) * -1).toNat]?) = xs.toList.reverse := by
  rw [back_some xs _ (fun k hk => ?_) _ fun k hk => List.mem_range.mp hk]
  · apply List.ext_getElem?
    intro i
    rw [List.getElem?_map]
    by_cases hi : i < xs.size
    · have h2 : i < xs.toList.reverse.length := by simpa using hi
      rw [List.getElem?_range hi, Option.map_some, List.getElem?_eq_getElem h2]
      rfl
    · rw [List.getElem?_eq_none (by simpa using hi), List.getElem?_eq_none (by simpa using hi)]
      rfl
  · have e : ((xs.size : Int) - 1 + (k : Int) * -1).toNat = xs.size - 1 - k := by omega
    rw [e, List.getElem?_reverse (by simpa using hk), Array.length_toList, Array.getElem?_toList]

section
variable {prog : Program} {w : World} {A : Around} {E : Value → Shared → Prop} {s : Shared}
theorem applied_back {sl : Addr} {vl vu vs : Value} {n : Nat} {Q : Int × Int × Nat → Shared → Prop} (hs : s.heap.IsSliceOf sl vl vu vs) (pl : IsPart vl none) (pu : IsPart vu none) (ps : IsPart vs (some (-1)))
    (h : Q ((n : Int) - 1, -1, n) s) : wpAny (model prog w) A (Builtin.Slice.sliceApplied (.ref sl) (pure (n : Int))) Q E s := by
  obtain ⟨o, ho, _, hd⟩ := hs
  unfold Builtin.Slice.sliceApplied Builtin.Slice.sliceFields
  refine wpAny_bind (wpAny_bind (wpAny_field ho hd (x := vl) rfl (wpAny_bind (wpAny_field ho hd (x := vu) rfl (wpAny_bind (wpAny_field ho hd (x := vs) rfl (wpAny_pure ?_)))))))
  refine wpAny_bind (slicePart_ ps ?_)
  refine wpAny_ite_split (fun z => absurd z (by decide)) fun _ => ?_
  refine wpAny_bind (slicePart_ pl (wpAny_bind (slicePart_ pu (wpAny_bind (wpAny_pure (wpAny_pure ?_))))))
  have e : Builtin.Slice.slicePlaces ((n : Int) - 1) (-1) (-1) = n := back_places n
  show Q ((n : Int) - 1, -1, Builtin.Slice.slicePlaces ((n : Int) - 1) (-1) (-1)) s
  rw [e]
  exact h

theorem getItem_back {t sl : Addr} {items : Array Value} {vl vu vs : Value} {Q : Value → Shared → Prop} (ht : IsTup s.heap t items) (hs : s.heap.IsSliceOf sl vl vu vs) (pl : IsPart vl none) (pu : IsPart vu none) (ps : IsPart vs (some (-1)))
    (hz : items.size ≤ sizeLine) (h : Q (.ref s.heap.objs.size) { s with heap := s.heap.push { cls := .type "tuple", data := .seq items.toList.reverse.toArray } }) : wpAny (model prog w) A (getItem (.ref t) (.ref sl)) Q E s := by
  have hT : s.TypeIs (.ref sl) "slice" := let ⟨o, ho, hc, _⟩ := hs; ⟨o, ho, hc⟩
  have hok : sizeOk (.seq items.toList.reverse.toArray) := by
    show items.toList.reverse.toArray.size ≤ sizeLine
    simpa using hz
  unfold getItem
  try with_reducible refine wpAny_holding ?_
  first | refine wpAny_bind (wpAny_pure ?_) | skip
  refine wpAny_bind (wpAny_sequenceKey ht.typeIs (by decide) ?_)
  refine wpAny_bind (wpAny_callSpecial?_slot (name := Str.ofString "__getitem__") ht.typeIs PyProof.Rows.slot_tuple_getitem
    (wpAny_call_entry PyProof.Rows.slot_tuple_getitem ht.typeIs entry_tuple_getitem ?_ (args_tuple_getitem _ _)))
  show wpAny _ _ (Builtin.Tuple.tupleItemsOf (.ref t) >>= _) _ _ s
  refine wpAny_bind (tupleItemsOf_ ht (wpAny_bind (wpAny_typeOf hT ?_)))
  rw [if_pos (by decide)]
  refine wpAny_bind (applied_back hs pl pu ps ?_)
  refine wpAny_ite_split (fun z => ?_) fun _ => ?_
  · exfalso
    simp at z
  · rw [back_items]
    first
      | exact wpAny_bind (m := Builtin.Tuple.tupleExact _) (wpAny_newObj_type (wpAny_pure ⟨_, rfl, wpAny_pure h⟩) hok)
      | exact wpAny_bind (m := Builtin.Tuple.tupleExact _) (wpAny_newObj_type (wpAny_bind (wpAny_pure (wpAny_pure ⟨_, rfl, wpAny_pure h⟩))) hok)
      | exact wpAny_bind (wpAny_bind (m := Builtin.Tuple.tupleExact _) (wpAny_newObj_type (wpAny_pure (wpAny_pure ⟨_, rfl, wpAny_pure h⟩)) hok))
      | exact wpAny_bind (wpAny_bind (m := Builtin.Tuple.tupleExact _) (wpAny_newObj_type (wpAny_pure ⟨_, rfl, wpAny_pure h⟩) hok))
end

def tRevT (K : PySem.W.Frag) (te : TE) : TE := fun σ H Q => te σ H fun x H1 => ∃ a xs, x = .ref a ∧ SqT K H1 a xs ∧ ∀ p, H1 p = none → Q (.ref p) (upd H1 p (.tup xs.reverse))
theorem pe_revT {X : Cx} {e : Expr} {te : TE} {k : Nat} {p1 p2 p3 pos : Pos} (he : PE X e te) : PE X (.Subscript e (.Slice none none (some (.UnaryOp .USub (.Constant (.int 1) k p1) p2)) p3) pos) (tRevT X.K te) := by
  refine ⟨fun pins s σ H Q I h => Subscript_ (thn (he.run pins s σ H _ I h) fun v s1 ⟨x, H1, I1, r1, a, xs, ex, hx, q⟩ => ?_)⟩
  subst ex
  cases r1
  have hm : PO X (some (.UnaryOp .USub (.Constant (.int 1) k p1) p2)) (tPart (tUn (rU fun i => .int (-i)) (tC (.int 1)))) := po_some (pe_un un_neg pe_int)
  refine wpAny_Slice (thn (po_none.run pins s1 σ H1 (fun o H2 => o = none ∧ H2 = H1) I1 ⟨rfl, rfl⟩) fun vl s2 ⟨l, H2, I2, pl, el, e2⟩ => ?_)
  subst el e2
  refine thn (po_none.run pins s2 σ H2 (fun o H3 => o = none ∧ H3 = H2) I2 ⟨rfl, rfl⟩) fun vu s3 ⟨u, H3, I3, pu, eu, e3⟩ => ?_
  subst eu e3
  refine thn (hm.run pins s3 σ H3 (fun o H4 => o = some (-1) ∧ H4 = H3) I3 ⟨1, rfl, -1, rfl, rfl, rfl⟩) fun vs s4 ⟨o, H4, I4, ps, eo, e4⟩ => ?_
  subst eo e4
  have I5 : Inv X pins σ H4 { s4 with heap := s4.heap.push { cls := .type "slice", data := .fields #[vl, vu, vs] } } := I4.kept (t' := s4.toks) fun b ob z => Heap.get?_push_of_some _ z
  obtain ⟨its, r, ht, hz⟩ := I5.tuple hx
  have hl := r.length
  show wpAny (model X.prog X.w) X.A (subscriptTail e (.Slice none none (some (.UnaryOp .USub (.Constant (.int 1) k p1) p2)) p3) (.ref a) (.ref s4.heap.objs.size)) (EP X pins σ Q) X.xe { s4 with heap := s4.heap.push { cls := .type "slice", data := .fields #[vl, vu, vs] } }
  refine tail_any (ops := [.ref a, .ref s4.heap.objs.size]) ht.typeIs PyProof.Rows.slot_tuple_getitem.lookup ?_ (by with_unfolding_all rfl)
  refine getItem_back ht (Heap.IsSliceOf.new _ vl vu vs) pl pu ps (by rw [List.size_toArray]; omega) ?_
  refine ⟨.ref _, _, I5.laid (t' := s4.toks) (o := .tup xs.reverse) (fun b ob z => Heap.get?_push_of_some _ z) (Nat.le_refl _) ?_, rfl, q _ (I5.hok.fresh (Nat.le_refl _))⟩
  exact ⟨by rw [List.length_reverse]; exact hz, _, r.reverse, IsTup.new _ _⟩
end Ka
/-! sorted(rows, key=f), f(row) = (len(row), row), rows of texts. -/
namespace Ka
open PySem PySem.Spec PyProof.Rows L2 PySem.W

/-- a row of texts as data, and its key -/
def rowD (r : List Str) : PyData := .tuple (r.map .str)
def keyOf (r : List Str) : PyData := .tuple [.int r.length, rowD r]
/-- the order of rows -/
def rowLe : List Str → List Str → Bool := dataLe false keyOf

theorem reads_strs {h : Heap} : ∀ {zs : List Str} {us : List Value}, Vals (zs.map V.str) us → ReadsAll h us (zs.map .str) []
  | [], [], _ => .nil
  | z :: zs, u :: us, r => by
    cases r with
    | cons a b =>
      obtain ⟨t, rfl⟩ := a
      exact ReadsAll.cons (as := []) (bs := []) (.str z t) (reads_strs b)
  | [], _ :: _, r => nomatch r
  | _ :: _, [], r => nomatch r

theorem alike_strs : ∀ (a b : List Str), alikeAll (a.map PyData.str) (b.map PyData.str) = true
  | [], _ => by simp [alikeAll]
  | _ :: _, [] => by simp [alikeAll]
  | x :: a, y :: b => by
    rw [List.map_cons, List.map_cons, alikeAll, alike_strs a b]
    simp [alike]
theorem alike_keys (a b : List Str) : alike (keyOf a) (keyOf b) = true := by
  unfold keyOf rowD
  simp [alike, alikeAll, alike_strs]
theorem depth_strs : ∀ a : List Str, PyData.depthAll (a.map PyData.str) ≤ 1
  | [] => by simp [PyData.depthAll]
  | x :: a => by
    have := depth_strs a
    rw [List.map_cons]
    simp only [PyData.depthAll, PyData.depth]
    omega
theorem depth_key (a : List Str) : (keyOf a).depth ≤ 3 := by
  have := depth_strs a
  unfold keyOf rowD
  simp only [PyData.depth, PyData.depthAll]
  omega

section
variable {prog : Program} {w : World} {A : Around} {E : Value → Shared → Prop} {s : Shared}
/-- what the tuple (len(x), x) is worth, where x holds a row -/
theorem key_expr {env : Env} {a : Addr} {zs : List Str} {its : List Value} {x : Str} {p1 p2 p3 p4 p5 : Pos} {k : Nat} (hsx : starEach [.Name x p2] env = [(false, eval (.Name x p2) env)])
    (hst : starEach [.Call (.Name "len" p1) [.Name x p2] [] p3, .Name x p4] env = [(false, eval (.Call (.Name "len" p1) [.Name x p2] [] p3) env), (false, eval (.Name x p4) env)])
    (hrow : ∀ (p : Pos) (Q : Value → Shared → Prop) (tk : Nat), Q (.ref a) { s with toks := tk } → wpAny (model prog w) A (eval (.Name x p) env) Q E { s with toks := tk })
    (hlen : ∀ (Q : Value → Shared → Prop), Q (.builtin "len") s → wpAny (model prog w) A (eval (.Name "len" p1) env) Q E s)
    (rv : Vals (zs.map V.str) its) (ht : IsTup s.heap a its.toArray) (hz : zs.length ≤ sizeLine) : wpAny (model prog w) A (eval (.Tuple [.Call (.Name "len" p1) [.Name x p2] [] p3, .Name x p4] k p5) env) (KeyPure (keyOf zs) s) E s := by
  have hl := rv.length
  have hs : sizeLine = 16777216 := sizeLine_eq
  rw [List.length_map] at hl
  refine wpAny_Tuple_spliced ?_
  rw [hst]
  refine Calls.spliced_cons (wpAny_Call_Name_kw (hlen _ (PyProof.Rows.callWith_builtin1 ?_ (by rw [hsx]; rfl) rfl)))
  rw [hsx]
  refine Calls.spliced_cons (hrow p2 _ s.toks (Calls.spliced_nil ?_))
  refine len_tuple ht (by rw [List.size_toArray]; omega) ?_
  refine Calls.spliced_cons (hrow p4 _ _ (Calls.spliced_nil ⟨by show 2 ≤ sizeLine; rw [hs]; decide, ?_⟩))
  refine ⟨_, _, rfl, fun b o e => Heap.get?_push_of_some _ e, ?_⟩
  refine Reads.tuple (Heap.get?_push_size _ rfl) rfl rfl (ReadsAll.cons (as := []) (bs := []) ?_ (ReadsAll.cons (as := []) (bs := []) ?_ .nil))
  · have e : ((its.toArray.size : Nat) : Int) = zs.length := by rw [List.size_toArray, hl]
    rw [e]
    exact .int _ _
  · obtain ⟨o, ho, hc, n, hd⟩ := ht
    exact Reads.keeps (fun b o e => Heap.get?_push_of_some _ e) (Reads.tuple ho hc hd (reads_strs rv))

/-- the frame of such a def: where its names are found -/
theorem key_frame {scope : Scope} {qual x : Str} {f a : Addr} {cd : Value} {clos : List (Str × Addr)} {mg mb : Str → Option Value} {zs : List Str} {its : List Value} {p1 p2 p3 p4 p5 : Pos} {k : Nat} {h₁ : Heap} {tk : Nat}
    (hk : scope.kind = .function) (hx : scope.names.lookup x = some .local) (hl : scope.names.lookup ("len" : Str) = some .globalImplicit) (hdx : (x == ("__debug__" : Str)) = false)
    (hg : s.heap.Ns mainGlobals mg) (hm : mg ("len" : Str) = none) (hb : s.heap.Ns builtinsNs mb) (hv : mb ("len" : Str) = some (.builtin "len"))
    (hns : h₁.Ns s.heap.objs.size fun y => [(x, Value.ref a)].reverse.lookup y) (kp : ∀ b o, s.heap.get? b = some o → h₁.get? b = some o) (rv : Vals (zs.map V.str) its) (ht : IsTup s.heap a its.toArray) (hz : zs.length ≤ sizeLine) :
    wpAny (model prog w) A (eval (.Tuple [.Call (.Name "len" p1) [.Name x p2] [] p3, .Name x p4] k p5) (newEnv scope s.heap.objs.size mainGlobals clos qual (some f) cd none builtinsNs)) (KeyPure (keyOf zs) s) E { s with heap := h₁, toks := tk } := by
  have nsk : ∀ {b : Addr} {m : Str → Option Value}, s.heap.Ns b m → h₁.Ns b m := fun ⟨o, es, ep, e, r⟩ => ⟨o, es, ep, kp _ _ e, r⟩
  have hrow : ∀ (p : Pos) (Q : Value → Shared → Prop) (tk' : Nat), Q (.ref a) { s with heap := h₁, toks := tk' } → wpAny (model prog w) A (eval (.Name x p) (newEnv scope s.heap.objs.size mainGlobals clos qual (some f) cd none builtinsNs)) Q E { s with heap := h₁, toks := tk' } :=
    fun p Q tk' q => wpAny_Name (wpAny_loadName_local (m := fun y => [(x, Value.ref a)].reverse.lookup y) hk hx hns (by simp) q) hdx
  have hlen : ∀ (Q : Value → Shared → Prop), Q (.builtin "len") { s with heap := h₁, toks := tk } → wpAny (model prog w) A (eval (.Name "len" p1) (newEnv scope s.heap.objs.size mainGlobals clos qual (some f) cd none builtinsNs)) Q E { s with heap := h₁, toks := tk } :=
    fun Q q => Calls.Name_function_global hk hl (Calls.loadGlobal_builtin (nsk hg) hm (nsk hb) hv q) (by decide)
  have ht' : IsTup h₁ a its.toArray := let ⟨o, ho, r⟩ := ht; ⟨o, kp _ _ ho, r⟩
  refine wpAny_mono (key_expr (s := { s with heap := h₁, toks := tk }) (by rfl) (by rfl) hrow hlen rv ht' hz) (fun v s' q => ?_) fun _ _ e => e
  obtain ⟨h', tk', rfl, k', r⟩ := q
  exact ⟨h', tk', rfl, fun b o e => k' b o (kp b o e), r⟩

/-- def f(x): return (len(x), x) -/
theorem call_keyDef {name qual : Str} {params : Arguments} {scope : Scope} {dV kV doc pm cdv ct : Value} {an : Option Addr} {x : Str} {f a : Addr} {o : Obj} {mg mb : Str → Option Value} {zs : List Str} {its : List Value} {p1 p2 p3 p4 p5 p6 : Pos} {k : Nat}
    (ho : s.heap.get? f = some o) (hd : o.data = .func (fnOf name qual params [.Return (some (.Tuple [.Call (.Name "len" p1) [.Name x p2] [] p3, .Name x p4] k p5)) p6] scope dV kV doc pm an cdv ct))
    (hroom : A.depth < recursionLimit) (hlim : s.heap.NoLimit) (hcd : s.heap.CodeRec cdv qual) (hbind : bindArgs (fnOf name qual params [.Return (some (.Tuple [.Call (.Name "len" p1) [.Name x p2] [] p3, .Name x p4] k p5)) p6] scope dV kV doc pm an cdv ct) ⟨[.ref a], []⟩ = pure [(x, .ref a)])
    (hk : scope.kind = .function) (hco : scope.isCoroutine = false) (hge : scope.isGenerator = false) (hc : ∀ y ∈ scope.names, y.2 ≠ .cell) (hx : scope.names.lookup x = some .local) (hl : scope.names.lookup ("len" : Str) = some .globalImplicit) (hdx : (x == ("__debug__" : Str)) = false)
    (hg : s.heap.Ns mainGlobals mg) (hm : mg ("len" : Str) = none) (hb : s.heap.Ns builtinsNs mb) (hv : mb ("len" : Str) = some (.builtin "len")) (rv : Vals (zs.map V.str) its) (ht : IsTup s.heap a its.toArray) (hz : zs.length ≤ sizeLine) :
    wpAny (model prog w) A (call (.ref f) [.ref a]) (KeyPure (keyOf zs) s) E s := by
  refine wpAny_call (codeAny_mono (R := fun r s' => ∃ v, r = .ok (.ret v) ∧ KeyPure (keyOf zs) s v s') ?_ fun r s' ⟨v, e, q⟩ => by subst e; exact q)
  refine codeAny_call_function hroom ho hd hco hge rfl hcd ?_
  rw [hbind]
  refine wpAny_pure (wpAny_newFunctionEnv hc (fun y hy => by
    have e : y = (x, Value.ref a) := by simpa using hy
    rw [e]
    exact hx) (fun h₁ hns hsb => ⟨hlim.fresh _ hsb, ?_⟩) hk)
  refine codeAny_func (wpAny_execs_cons (wpAny_Return_some ?_))
  refine wpAny_mono (key_frame (E := fun _ _ => False) hk hx hl hdx hg hm hb hv hns (fun b o' e => hsb.extBut b o' (Nat.ne_of_lt (Heap.lt_size e)) (Heap.get?_push_of_some _ e)) rv ht hz) (fun v s' q => ⟨v, rfl, q⟩) fun _ _ z => z.elim

/-- lambda x: (len(x), x) -/
theorem call_keyLam {name qual : Str} {params : Arguments} {scope : Scope} {pm ct : Value} {c' : Addr} {x : Str} {f a : Addr} {clos : List (Str × Addr)} {mg mb : Str → Option Value} {zs : List Str} {its : List Value} {p1 p2 p3 p4 p5 : Pos} {k : Nat}
    (ho : s.heap.get? f = some (kla_obj name qual params (.Tuple [.Call (.Name "len" p1) [.Name x p2] [] p3, .Name x p4] k p5) scope clos pm c' ct))
    (hroom : A.depth < recursionLimit) (hlim : s.heap.NoLimit) (hcd : s.heap.CodeRec (.ref c') qual) (hbind : bindArgs (kla_fn name qual params (.Tuple [.Call (.Name "len" p1) [.Name x p2] [] p3, .Name x p4] k p5) scope clos pm (.ref c') ct) ⟨[.ref a], []⟩ = pure [(x, .ref a)])
    (hk : scope.kind = .function) (hco : scope.isCoroutine = false) (hge : scope.isGenerator = false) (hc : ∀ y ∈ scope.names, y.2 ≠ .cell) (hx : scope.names.lookup x = some .local) (hl : scope.names.lookup ("len" : Str) = some .globalImplicit) (hdx : (x == ("__debug__" : Str)) = false)
    (hg : s.heap.Ns mainGlobals mg) (hm : mg ("len" : Str) = none) (hb : s.heap.Ns builtinsNs mb) (hv : mb ("len" : Str) = some (.builtin "len")) (rv : Vals (zs.map V.str) its) (ht : IsTup s.heap a its.toArray) (hz : zs.length ≤ sizeLine) :
    wpAny (model prog w) A (call (.ref f) [.ref a]) (KeyPure (keyOf zs) s) E s := by
  refine wpAny_call (codeAny_mono (R := fun r s' => ∃ v, r = .ok (.ret v) ∧ KeyPure (keyOf zs) s v s') ?_ fun r s' ⟨v, e, q⟩ => by subst e; exact q)
  refine kla_callFunE hroom ho rfl hco hge rfl hcd ?_
  rw [hbind]
  refine wpAny_pure (wpAny_newFunctionEnv hc (fun y hy => by
    have e : y = (x, Value.ref a) := by simpa using hy
    rw [e]
    exact hx) (fun h₁ hns hsb => ⟨hlim.fresh _ hsb, ?_⟩) hk)
  refine kla_codeExpr ?_
  refine wpAny_mono (key_frame (E := fun _ _ => False) hk hx hl hdx hg hm hb hv hns (fun b o' e => hsb.extBut b o' (Nat.ne_of_lt (Heap.lt_size e)) (Heap.get?_push_of_some _ e)) rv ht hz) (fun v s' q => ⟨v, rfl, q⟩) fun _ _ z => z.elim
end

/-! ### over the layer -/
/-- a row of texts at an address -/
abbrev Row := Addr × List Str
def leRow (r q : Row) : Bool := rowLe r.2 q.2
/-- a call of the key: it keeps the heap, and gives the row's key -/
def KeyAt (X : Cx) (s : Shared) (f : Addr) : Prop := ∀ (h : Heap) (tk : Nat), (∀ b o, s.heap.get? b = some o → h.get? b = some o) → ∀ (a : Addr) (zs : List Str) (its : List Value), Vals (zs.map V.str) its → IsTup h a its.toArray → zs.length ≤ sizeLine →
  wpAny (model X.prog X.w) X.A.in1.in1 (call (.ref f) [.ref a]) (KeyPure (keyOf zs) { s with heap := h, toks := tk }) (fun _ _ => False) { s with heap := h, toks := tk }

theorem rows_each {rs : List Row} {us : List Value} (r : Vals (rs.map fun r => V.ref r.1) us) : EachIs (fun v (b : Row) => v = Value.ref b.1) us rs := by
  induction rs generalizing us with
  | nil =>
    cases r
    exact .nil
  | cons x rs ih =>
    cases r with
    | cons a b =>
      cases a
      exact .cons rfl (ih b)
theorem each_rows {rs : List Row} {us : List Value} (e : EachIs (fun v (b : Row) => v = Value.ref b.1) us rs) : Vals (rs.map fun r => V.ref r.1) us := by
  induction e with
  | nil => exact .nil
  | cons h t ih =>
    subst h
    exact .cons rfl ih
theorem all_alike (rs : List Row) : AllAlike (rs.map fun r => keyOf r.2) := by
  intro d hd d' hd'
  obtain ⟨r, _, rfl⟩ := List.mem_map.mp hd
  obtain ⟨q, _, rfl⟩ := List.mem_map.mp hd'
  exact alike_keys _ _
theorem all_sortable (rs : List Row) : Sortable (rs.map fun r => keyOf r.2) := Sortable.tuples fun r => ⟨_, _, rfl⟩

section
variable {X : Cx} {pins : List (Addr × Obj)} {σ : L2.St} {H : Hp} {s : Shared}
theorem sorted_list {a f : Addr} {rs : List Row} {Q : VK} (I : Inv X pins σ H s) (hu : X.A.units + 64 < cLine) (hs : SqL X.K H a (rs.map fun r => V.ref r.1)) (hr : ∀ r ∈ rs, SqT X.K H r.1 (r.2.map V.str)) (hf : KeyAt X s f)
    (q : ∀ p, H p = none → Q (.ref p) (upd H p (.lst ((rs.mergeSort leRow).map fun r => V.ref r.1)))) : wpAny (model X.prog X.w) X.A (call (.builtin "sorted") [.ref a] [(Str.ofString "key", .ref f)]) (EP X pins σ Q) X.xe s := by
  obtain ⟨its, rv, hl, hz⟩ := I.list hs
  rw [List.length_map] at hz
  have e := rows_each rv
  refine sorted_key_data (b := false) (fun r : Row => keyOf r.2) hl.isList e (all_alike rs) (all_sortable rs) hz (fun r _ => ?_) (ksk_s1 _ _) (fun _ => ksk_l1 _ _) (fun _ => ksk_t1 _ _) (fun v r ev hm h tk kp => ?_) fun out c h' tk kp hn hD hlen eo => ?_
  · have := depth_key r.2
    omega
  · subst ev
    obtain ⟨its', rv', ht, hz'⟩ := I.tuple (hr r hm)
    rw [List.length_map] at hz'
    obtain ⟨o, ho, hr'⟩ := ht
    exact hf h tk kp r.1 r.2 its' rv' ⟨o, kp _ _ ho, hr'⟩ hz'
  · have hle : ((rs.mergeSort leRow).map fun r => V.ref r.1).length ≤ sizeLine := by
      rw [List.length_map, List.length_mergeSort]
      exact hz
    refine ⟨.ref _, _, I.laid (t' := tk) (o := .lst ((rs.mergeSort leRow).map fun r => V.ref r.1)) kp (Nat.le_succ _) ⟨hle, out, c, each_rows eo, hD⟩, rfl, q _ (I.hok.fresh (Nat.le_succ _))⟩

/-- the keys of a dict of rows -/
theorem dict_rows {kvs : List (List Key × V)} {xs : List (List Key × Addr × Value)} (r : KT H kvs xs) {rows : List (List Str)} (hk : kvs.map (·.1) = rows.map fun r => r.map Sum.inr) :
    ∃ rs : List Row, rs.map (·.2) = rows ∧ rs.map (·.1) = xs.map (fun x => x.2.1) ∧ ∀ r ∈ rs, H r.1 = some (.tup (r.2.map V.str)) := by
  induction r generalizing rows with
  | nil =>
    cases rows with
    | nil => exact ⟨[], rfl, rfl, fun r h => by cases h⟩
    | cons x y => simp at hk
  | @cons p q ps qs hq t ih =>
    cases rows with
    | nil => simp at hk
    | cons x rows =>
      rw [List.map_cons, List.map_cons, List.cons.injEq] at hk
      obtain ⟨rs, h1, h2, h3⟩ := ih hk.2
      refine ⟨(q.2.1, x) :: rs, by rw [List.map_cons, h1], by rw [List.map_cons, List.map_cons, h2], fun r hr => ?_⟩
      rcases List.mem_cons.mp hr with e | hr
      · subst e
        have e2 := hq.2.1
        rw [hk.1, List.map_map] at e2
        exact e2
      · exact h3 r hr

theorem sorted_dict {a f : Addr} {kvs : List (List Key × V)} {rows : List (List Str)} {Q : VK} (I : Inv X pins σ H s) (hc : X.calm = true) (hu : X.A.units + 64 < cLine) (hd : H a = some (.dT kvs)) (hk : kvs.map (·.1) = rows.map fun r => r.map Sum.inr) (hf : KeyAt X s f)
    (q : ∀ (rs : List Row) (p : Addr), rs.map (·.2) = rows.mergeSort rowLe → (∀ r ∈ rs, H r.1 = some (.tup (r.2.map V.str))) → H p = none → Q (.ref p) (upd H p (.lst (rs.map fun r => V.ref r.1)))) :
    wpAny (model X.prog X.w) X.A (call (.builtin "sorted") [.ref a] [(Str.ofString "key", .ref f)]) (EP X pins σ Q) X.xe s := by
  obtain ⟨z, lo, xs, rel, o, es, ep, ho, hx, hdat, hes, hno⟩ := I.hok a _ hd
  obtain ⟨rs, h1, h2, h3⟩ := dict_rows rel hk
  have hlen : rs.length = es.size := by
    have e1 := congrArg List.length h2
    have e2 := congrArg List.length hes
    rw [List.length_map, List.length_map] at e1
    rw [Array.length_toList, List.length_map] at e2
    omega
  have hz : rs.length ≤ sizeLine := by
    have e1 := congrArg List.length h2
    have e2 := Paired.length rel
    rw [List.length_map, List.length_map] at e1
    omega
  have raw : s.heap.DictRaw a es ep := ⟨o, ho, hx, hdat⟩
  refine call_function_entry_kw PyProof.Rows.kind_sorted PyProof.Rows.plain_sorted PyProof.Rows.entry_sorted (ksk_s1 _ _) ?_
  unfold Builtin.«sorted»
  refine wpAny_bind (m := checkCount "sorted" 1 1 _) (wpAny_pure ?_)
  refine wpAny_bind (kdu_collect (A := X.A.in1) (KdlSrc.rawDict (es := es) (ep := ep) lo) (I.ok.hd hc) raw (by omega) fun h' tk acc hkp hacc => ?_)
  have hal : acc.toList.length = rs.length := by rw [Array.length_toList, hacc.1, hlen]
  have each : EachIs (fun v (b : Row) => v = Value.ref b.1) acc.toList rs := by
    refine EachIs.of_zip hal fun p hp => ?_
    obtain ⟨i, hi⟩ := List.getElem?_of_mem hp
    rw [List.getElem?_zip_eq_some] at hi
    obtain ⟨hia, hib⟩ := hi
    obtain ⟨hsz, ev⟩ := hacc.2 i p.1 (by rw [← Array.getElem?_toList]; exact hia)
    have e1 : (rs.map (·.1))[i]? = some p.2.1 := by rw [List.getElem?_map, hib]; rfl
    have e2 : es.toList[i]? = some es[i] := by rw [Array.getElem?_toList, Array.getElem?_eq_getElem hsz]
    rw [h2, List.getElem?_map] at e1
    rw [hes, List.getElem?_map] at e2
    cases ex : xs[i]? with
    | none =>
      rw [ex] at e1
      cases e1
    | some x =>
      rw [ex] at e1 e2
      have e1' : x.2.1 = p.2.1 := Option.some.inj e1
      have e2' := Option.some.inj e2
      rw [ev, ← e2', ← e1']
      rfl
  have I1 : Inv X pins σ H { s with heap := h', toks := tk } := I.kept hkp
  refine wpAny_bind (wpAny_newList ?_ (by omega))
  have hoL : (h'.push (seqObj "list" acc.toList.toArray 0)).get? h'.objs.size = some (seqObj "list" acc.toList.toArray 0) := Heap.get?_push_size _ rfl
  have ne : ∀ {b : Addr} {o : Obj}, s.heap.get? b = some o → b ≠ h'.objs.size := fun e => Nat.ne_of_lt (Heap.lt_size (hkp _ _ e))
  refine wpAny_bind (wpAny_holding ?_)
  show wpAny (model X.prog X.w) X.A.in1 (call (.builtin "list.sort") [.ref h'.objs.size] [(Str.ofString "key", .ref f)]) _ _ { s with heap := h'.push (seqObj "list" acc.toList.toArray 0), toks := tk }
  refine list_sort_key_data (b := false) (s := { s with heap := h'.push (seqObj "list" acc.toList.toArray 0), toks := tk }) (fun r : Row => keyOf r.2) hoL each (all_alike rs) (all_sortable rs) hz (fun r _ => ?_) (ksk_l1 _ _) (ksk_t1 _ _) (fun v r ev hm h tk kp => ?_) fun out c h'' tk' kp hD hle eo => ?_
  · have hdep := depth_key r.2
    show X.A.units + 1 + 1 + (keyOf r.2).depth < cLine
    omega
  · subst ev
    obtain ⟨its', rv', ht, hz'⟩ := I.tuple (.inl (.inl (h3 r hm)))
    rw [List.length_map] at hz'
    obtain ⟨o, ho, hr'⟩ := ht
    have up : ∀ b o, s.heap.get? b = some o → h.get? b = some o := fun b o e => kp b o (ne e) (Heap.get?_push_of_some _ (hkp _ _ e))
    exact hf h tk up r.1 r.2 its' rv' ⟨o, up _ _ ho, hr'⟩ hz'
  · have hle2 : ((rs.mergeSort leRow).map fun r => V.ref r.1).length ≤ sizeLine := by
      rw [List.length_map, List.length_mergeSort]
      exact hz
    have up : ∀ b o, h'.get? b = some o → h''.get? b = some o := fun b o e => kp b o (Nat.ne_of_lt (Heap.lt_size e)) (Heap.get?_push_of_some _ e)
    refine wpAny_pure ⟨_, rfl, .ref h'.objs.size, _, I1.laid (t' := tk') (o := .lst ((rs.mergeSort leRow).map fun r => V.ref r.1)) up (Nat.le_refl _) ⟨hle2, out, c, each_rows eo, hD⟩, rfl, q _ _ ?_ (fun r hr => h3 r (List.mem_mergeSort.mp hr)) (I1.hok.fresh (Nat.le_refl _))⟩
    rw [← h1]
    exact sort_maps (fun r : Row => r.2) fun _ _ _ _ => rfl
end
end Ka
/-! sorted(e, key=f) of rows: f a def of the text, or a lambda. -/
namespace Ka
open PySem PySem.Spec PyProof.Rows L2 PySem.W

section
variable {X : Cx} {pins : List (Addr × Obj)} {σ : L2.St} {H : Hp} {s : Shared}
theorem deep2 {k : Nat} (hr : Room k X.A) : X.A.in1.in1.depth < recursionLimit := hr.depth
theorem ns_up {h h' : Heap} (kp : ∀ b o, h.get? b = some o → h'.get? b = some o) {b : Addr} {m : Str → Option Value} (n : h.Ns b m) : h'.Ns b m :=
  let ⟨o, es, ep, e, r⟩ := n; ⟨o, es, ep, kp _ _ e, r⟩
theorem code_up {h h' : Heap} (kp : ∀ b o, h.get? b = some o → h'.get? b = some o) {c : Value} {q : Str} (n : h.CodeRec c q) : h'.CodeRec c q :=
  let ⟨c, oc, vs, t, e1, e2, r⟩ := n; ⟨c, oc, vs, t, e1, kp _ _ e2, r⟩

/-- a def of the text that gives the key -/
theorem keyAt_def {name qual : Str} {params : Arguments} {scope : Scope} {dV kV doc pm cdv ct oc : Value} {an od : Option Addr} {osl : Array (Option Value)} {x : Str} {f : Addr} {p1 p2 p3 p4 p5 p6 : Pos} {k j : Nat} (I : Inv X pins σ H s) (hr : Room j X.A)
    (lk : X.K.lookup f = some ⟨oc, od, .func (fnOf name qual params [.Return (some (.Tuple [.Call (.Name "len" p1) [.Name x p2] [] p3, .Name x p4] k p5)) p6] scope dV kV doc pm an cdv ct), osl⟩) (hcd : codeIn X.K cdv qual = true) (hm : X.mg "len" = none)
    (hbind : ∀ v : Value, bindArgs (fnOf name qual params [.Return (some (.Tuple [.Call (.Name "len" p1) [.Name x p2] [] p3, .Name x p4] k p5)) p6] scope dV kV doc pm an cdv ct) ⟨[v], []⟩ = pure [(x, v)])
    (hk : scope.kind = .function) (hco : scope.isCoroutine = false) (hge : scope.isGenerator = false) (hc : ∀ y ∈ scope.names, y.2 ≠ .cell) (hx : scope.names.lookup x = some .local) (hl : scope.names.lookup ("len" : Str) = some .globalImplicit) (hdx : (x == ("__debug__" : Str)) = false) : KeyAt X s f := by
  intro h tk kp a zs its rv ht hz
  obtain ⟨mb, b1, b2⟩ := I.mod.blt
  exact call_keyDef (s := { s with heap := h, toks := tk }) (kp _ _ (I.kIn _ _ lk)) rfl (deep2 hr) (I.nolimit.keeps kp) (code_up kp (codeRec_of I.kIn hcd)) (hbind _) hk hco hge hc hx hl hdx (ns_up kp (I.mod.glob.keeps I.bk)) hm (ns_up kp (b1.keeps I.bk)) ((b2 "len" (by decide)).trans PySem.boot_len) rv ht hz

/-- a lambda that gives the key -/
theorem keyAt_lam {params : Arguments} {scope : Scope} {pm ct : Value} {c' : Addr} {q : Str} {x : Str} {f : Addr} {clos : List (Str × Addr)} {p1 p2 p3 p4 p5 : Pos} {k j : Nat} (I : Inv X pins σ H s) (hr : Room j X.A)
    (hf : s.heap.get? f = some (kla_obj "<lambda>" q params (.Tuple [.Call (.Name "len" p1) [.Name x p2] [] p3, .Name x p4] k p5) scope clos pm c' ct)) (hcd : H c' = some (LamX.CodeO c' q)) (hm : X.mg "len" = none)
    (hbind : ∀ v : Value, bindArgs (kla_fn "<lambda>" q params (.Tuple [.Call (.Name "len" p1) [.Name x p2] [] p3, .Name x p4] k p5) scope clos pm (.ref c') ct) ⟨[v], []⟩ = pure [(x, v)])
    (hk : scope.kind = .function) (hco : scope.isCoroutine = false) (hge : scope.isGenerator = false) (hc : ∀ y ∈ scope.names, y.2 ≠ .cell) (hx : scope.names.lookup x = some .local) (hl : scope.names.lookup ("len" : Str) = some .globalImplicit) (hdx : (x == ("__debug__" : Str)) = false) : KeyAt X s f := by
  intro h tk kp a zs its rv ht hz
  obtain ⟨mb, b1, b2⟩ := I.mod.blt
  obtain ⟨⟨oc, vs, t, hoc, hdc, hvc⟩, _, _⟩ := I.hok c' _ hcd
  exact call_keyLam (s := { s with heap := h, toks := tk }) (kp _ _ hf) (deep2 hr) (I.nolimit.keeps kp) ⟨c', oc, vs, t, rfl, kp _ _ hoc, hdc, hvc⟩ (hbind _) hk hco hge hc hx hl hdx (ns_up kp (I.mod.glob.keeps I.bk)) hm (ns_up kp (b1.keeps I.bk)) ((b2 "len" (by decide)).trans PySem.boot_len) rv ht hz
end

section
variable {X : Cx}
/-- sorted(e, key=f), e a list of rows or a dict of rows -/
def rSortK (K : PySem.W.Frag) (f : Addr) : List V → List V → Hp → VK → Prop := fun vs zs H Q => zs = [.ref f] ∧
  ((∃ (a : Addr) (rs : List Row), vs = [.ref a] ∧ SqL K H a (rs.map fun r => V.ref r.1) ∧ (∀ r ∈ rs, SqT K H r.1 (r.2.map V.str)) ∧ ∀ p, H p = none → Q (.ref p) (upd H p (.lst ((rs.mergeSort leRow).map fun r => V.ref r.1)))) ∨
   (∃ (a : Addr) (kvs : List (List L2.Key × V)) (rows : List (List Str)), vs = [.ref a] ∧ H a = some (.dT kvs) ∧ kvs.map (·.1) = rows.map (fun r => r.map Sum.inr) ∧
     ∀ (rs : List Row) (p : Addr), rs.map (·.2) = rows.mergeSort rowLe → (∀ r ∈ rs, H r.1 = some (.tup (r.2.map V.str))) → H p = none → Q (.ref p) (upd H p (.lst (rs.map fun r => V.ref r.1)))))
theorem cr_sortRows {f : Addr} (hc : X.calm = true) (hu : X.A.units + 64 < cLine) (hf : ∀ (pins : List (Addr × Obj)) (s : Shared) (σ : L2.St) (H : Hp), Inv X pins σ H s → KeyAt X s f) : CallRK X (.builtin "sorted") [Str.ofString "key"] (rSortK X.K f) := by
  intro pins s σ H vs zs us ws Q I r rz h
  obtain ⟨rfl, h⟩ := h
  obtain ⟨w1, rfl, e1⟩ := vals1 rz
  obtain rfl : w1 = Value.ref f := e1
  rcases h with ⟨a, rs, rfl, hs, hr, q⟩ | ⟨a, kvs, rows, rfl, hd, hk, q⟩
  · obtain rfl := Vals.ref1 r
    exact sorted_list I hu hs hr (hf _ _ _ _ I) q
  · obtain rfl := Vals.ref1 r
    exact sorted_dict I hc hu hd hk (hf _ _ _ _ I) q

/-- sorted(e, key=lambda x: (len(x), x)) -/
def tSortLam (K : PySem.W.Frag) (T : List (Addr × Str)) (te : TE) : TE := fun σ H Q => te σ H fun v H1 => ∃ (a : Addr) (rs : List Row), v = .ref a ∧ SqL K H1 a (rs.map fun r => V.ref r.1) ∧ (∀ r ∈ rs, SqT K H1 r.1 (r.2.map V.str)) ∧ LamX.Tabs T H1 ∧
  ∀ H2 p, LamX.ExtN H1 H2 → LamX.Tabs T H2 → H2 p = none → Q (.ref p) (upd H2 p (.lst ((rs.mergeSort leRow).map fun r => V.ref r.1)))
theorem rd_ext {H H' : Hp} {a : Addr} {u : HO} (h : Rd H a u) (e : LamX.ExtN H H') (hn : ∀ ps, u ≠ .tbl ps) : Rd H' a u := by
  rcases h with h | ⟨o, h⟩
  · exact .inl (e _ _ h hn)
  · exact .inr ⟨o, e _ _ h fun ps z => by cases z⟩
theorem sqL_ext {K : PySem.W.Frag} {H H' : Hp} {a : Addr} {xs : List V} (h : SqL K H a xs) (e : LamX.ExtN H H') : SqL K H' a xs := by
  rcases h with h | h
  · exact .inl (rd_ext h e fun ps z => by cases z)
  · exact .inr h
theorem sqT_ext {K : PySem.W.Frag} {H H' : Hp} {a : Addr} {xs : List V} (h : SqT K H a xs) (e : LamX.ExtN H H') : SqT K H' a xs := by
  rcases h with h | h
  · exact .inl (rd_ext h e fun ps z => by cases z)
  · exact .inr h
theorem pe_sortedLam {T : List (Addr × Str)} {c P : Addr} {params : Arguments} {scope : Scope} {x : Str} {e : Expr} {te : TE} {p lpos kpos pos p1 p2 p3 p4 p5 : Pos} {k j : Nat} (hr : Room j X.A) (hu : X.A.units + 64 < cLine) (hg : Gl X "sorted") (hm : X.mg "sorted" = none) (hml : X.mg "len" = none) (he : PE X e te)
    (TB : LamX.TabB X.base X.mg c P) (hcode : X.env.code = .ref c) (hmT : (P, X.env.qual ++ "<lambda>") ∈ T) (hu2 : ∀ p ∈ T, p.1 = P → p.2 = X.env.qual ++ "<lambda>") (hdef : defaultsOf params X.env = ([], [])) (hfree : ∀ y ∈ scope.names, y.2 ≠ .free)
    (hbind : ∀ (q : Str) (clos : List (Str × Addr)) (pm cd ct v : Value), bindArgs (kla_fn "<lambda>" q params (.Tuple [.Call (.Name "len" p1) [.Name x p2] [] p3, .Name x p4] k p5) scope clos pm cd ct) ⟨[v], []⟩ = pure [(x, v)])
    (hk : scope.kind = .function) (hco : scope.isCoroutine = false) (hge : scope.isGenerator = false) (hc : ∀ y ∈ scope.names, y.2 ≠ .cell) (hx : scope.names.lookup x = some .local) (hl : scope.names.lookup ("len" : Str) = some .globalImplicit) (hdx : (x == ("__debug__" : Str)) = false)
    (h1 : backTo pos (starEach [e] X.env) = (false, eval e X.env) :: backTo pos (starEach [] X.env) := by rfl) :
    PE X (.Call (.Name "sorted" p) [e] [⟨some "key", .Lambda params (.Tuple [.Call (.Name "len" p1) [.Name x p2] [] p3, .Name x p4] k p5) scope lpos, kpos⟩] pos) (tSortLam X.K T te) := by
  refine ⟨fun pins s σ H Q I h => ?_⟩
  refine wpAny_Call_Name_kw (ld_blt (u := .builtin "sorted") I hg hm (by decide +kernel) ?_ (by decide) (by decide))
  refine PyProof.Rows.callWith_kw ?_ h1 (by rw [h1]; rfl) (by rfl) (by rfl)
  rw [h1]
  refine Calls.spliced_cons (thn (he.run pins s σ H _ I h) fun u s1 ⟨v, H1, I1, r1, a, rs, ev, hs, hr', hT, q⟩ => Calls.spliced_nil ?_)
  subst ev
  obtain rfl : u = Value.ref a := r1
  show wpAny _ _ (evalAll [do let v ← eval (.Lambda params (.Tuple [.Call (.Name "len" p1) [.Name x p2] [] p3, .Name x p4] k p5) scope lpos) X.env; standAt pos; pure v]) _ _ s1
  refine wpAny_evalAll_cons (wpAny_bind (LamX.lam_make2 I1 TB hcode hmT hu2 hT hdef (fun y hy e => absurd e (hfree y hy)) fun f c' pm' ctv H2 s2 I2 eN T2 hf hfn hfr hco' => wpAny_bind (wpAny_standAt (wpAny_pure (wpAny_evalAll_nil ?_)))))
  refine sorted_list I2 hu (sqL_ext hs eN) (fun r hr0 => sqT_ext (hr' r hr0) eN) (keyAt_lam I2 hr hf hco' hml (fun v => hbind _ _ _ _ _ v) hk hco hge hc hx hl hdx) fun p' np => q H2 p' eN T2 np
end
end Ka
/-! {k: v for target in iter if ..} whose keys are tuples of texts and ints. -/
namespace Ka
open PySem PySem.Spec PyProof.Rows L2

theorem dT_set {X : Cx} {pins : List (Addr × Obj)} {σ : L2.St} {H : Hp} {s : Shared} {E : Value → Shared → Prop} {D b : Addr} {kvs : List (List L2.Key × V)} {k : List L2.Key} {v : V} {u r : Value} {Q : Unit → Shared → Prop} (hu : X.A.units + 1 < cLine) (I : Inv X pins σ H s) (hD : H D = some (.dT kvs)) (hz : kvs.length < sizeLine)
    (hb : H b = some (.tup (k.map kV))) (ry : RelV (.ref b) u) (rv : RelV v r) (h : ∀ s', Inv X pins σ (upd H D (.dT (putK kvs k v))) s' → Q () s') : wpAny (model X.prog X.w) X.A (dictSet D u r) Q E s := by
  cases (show u = Value.ref b from ry)
  obtain ⟨z, hd, xs, rel, dd⟩ := dt_of I.hok hD
  have hzx : xs.length ≤ sizeLine := by rw [← Paired.length rel]; exact z
  have hl : (putK kvs k v).length ≤ sizeLine := by have := length_putK kvs k v; omega
  refine wpAny_dictSet_heap (hsz := hzx) (knd := tupleKind (mixKind X.prog X.w)) ?_ (key_of I.hok hb) dd fun h' dd' hs => h _ ?_
  · show X.A.units < cLine
    omega
  · obtain ⟨q, es, ep, hq, h2, h3, h4, _, h5⟩ := dd'
    refine d_write I (by rw [hD]; exact True.intro) hs ⟨q, hq⟩ ⟨hl, hd, _, (rel.put k hb rv).keeps fun c ys ec => ?_, q, es, ep, hq, h2, h3, h4, h5⟩
    rw [upd_ne (ne_of ec hD fun z => nomatch z)]
    exact ec

section
variable {X : Cx}
/-- {k: v for target in iter}, keys tuples: D the new dict -/
def tDcT (wi : TI) (g : TG) (tk tv : TE) (vs : List Nat) : TE := fun σ H Q => wi σ H fun J H1 => ∀ D, H1 D = none → ∃ W : Nat → Nat → Hp → Prop, (∃ m, W 0 m (upd H1 D (.dT []))) ∧ ∀ i m H, W i m H →
  (J.stop i H ∧ Q (.ref D) H) ∨ (J.go i H ∧ ∃ Nx : Hp → Prop, (∀ H', Nx H' → ∃ m', m' < m ∧ W (i + 1) m' H') ∧ ∀ x H', J.yld i H x H' → g x (wipe σ vs) H' fun σ2 H2 => wipe σ2 vs = wipe σ vs ∧
    tk σ2 H2 fun y H4 => tv σ2 H4 fun z H5 => ∃ kvs k b, y = .ref b ∧ H5 b = some (.tup (k.map kV)) ∧ H5 D = some (.dT kvs) ∧ kvs.length < sizeLine ∧ Nx (upd H5 D (.dT (putK kvs k z))))

/-- one turn of the block, from the item drawn on -/
theorem dct_turn {Z : Cx} {kx vx tg : Expr} {g : TG} {tk tv : TE} {D : Addr} {τ : L2.St} {vs : List Nat} {H : Hp} {s : Shared} {x : V} {u : Value} {Nx : Hp → Prop} {R : Shared → Prop} {pins : List (Addr × Obj)} {E' : Value → Shared → Prop} (hE : Z.xe = fun _ _ => False) (hu : Z.A.units + 1 < cLine)
    (pg : PG Z tg g) (pk : PE Z kx tk) (pe : PE Z vx tv) (I : Inv Z pins τ H s) (rx : RelV x u)
    (h : g x τ H fun σ2 H2 => wipe σ2 vs = τ ∧ tk σ2 H2 fun y H4 => tv σ2 H4 fun z H5 => ∃ kvs k b, y = .ref b ∧ H5 b = some (.tup (k.map kV)) ∧ H5 D = some (.dT kvs) ∧ kvs.length < sizeLine ∧ Nx (upd H5 D (.dT (putK kvs k z))))
    (fin : ∀ σ2 H' s', wipe σ2 vs = τ → Inv Z pins σ2 H' s' → Nx H' → R s') :
    wpAny (model Z.prog Z.w) Z.A (assign tg Z.env u) (fun _ s₂ => wpAny (model Z.prog Z.w) Z.A (forIn ([] : List Expr) true fun c r => if r = true then do let ok ← isTrue c Z.env (eval c Z.env); pure (ForInStep.yield ok) else pure (ForInStep.yield r)) (fun ok s₃ =>
      if ok = true then wpAny (model Z.prog Z.w) Z.A (eval kx Z.env) (fun kv s₄ => wpAny (model Z.prog Z.w) Z.A (eval vx Z.env) (fun vv s₅ => wpAny (model Z.prog Z.w) Z.A (dictSet D kv vv) (fun _ s₆ => R s₆) E' s₅) E' s₄) E' s₃ else R s₃) E' s₂) E' s := by
  have a1 := pg.run pins s τ H x u _ I rx h
  rw [hE] at a1
  refine thnF a1 fun _ s8 ⟨σ8, H8, I8, hw, q8⟩ => wpAny_tests_nil ?_
  rw [if_pos rfl]
  have a2 := pk.run pins s8 σ8 H8 _ I8 q8
  rw [hE] at a2
  refine thnF a2 fun kv s10 ⟨y, H10, I10, r10, q10⟩ => ?_
  have a3 := pe.run pins s10 σ8 H10 _ I10 q10
  rw [hE] at a3
  refine thnF a3 fun vv s11 ⟨z, H11, I11, r11, kvs, k, b, ey, hb, hD, hz, nx⟩ => ?_
  subst ey
  exact dT_set hu I11 hD hz hb r10 r11 fun s12 I12 => fin σ8 _ s12 hw I12 nx

/-- what stands between two turns of the block -/
def BetweenT (Z : Cx) (fp : List Addr) (tn : Nat → Heap → Prop) (τ : L2.St) (W : Nat → Nat → Hp → Prop) (n : Nat) (s : Shared) : Prop := ∃ i H, Inv Z [] τ H s ∧ tn i s.heap ∧ (∀ b ∈ fp, H b = none) ∧ W i n H

theorem pe_dcT {kx vx tg iter : Expr} {scope : Scope} {own : List (Str × Nat)} {pos : Pos} {wi : TI} {g : TG} {tk tv : TE} (hc : X.calm = true) (hu : X.A.units + 1 < cLine) (hN : X.N.Nodup) (hi : PI X tg iter wi) (ok : BlkOk X.N X.env.scope scope own)
    (hg : ∀ (s : Shared) (H : Hp) (C : Addr) (cl : List (Str × Addr)) (fp : List Addr), PG (X.blk s H scope (compEnvC scope cl C X.env) fp) tg g)
    (hk : ∀ (s : Shared) (H : Hp) (C : Addr) (cl : List (Str × Addr)) (fp : List Addr), PE (X.blk s H scope (compEnvC scope cl C X.env) fp) kx tk)
    (hv : ∀ (s : Shared) (H : Hp) (C : Addr) (cl : List (Str × Addr)) (fp : List Addr), PE (X.blk s H scope (compEnvC scope cl C X.env) fp) vx tv) (hs : ∀ x, foldedSetIterable iter X.env x = pure x := by intro _; rfl) :
    PE X (.DictComp kx vx [⟨tg, iter, [], 0⟩] scope pos) (tDcT wi g tk tv (own.map (·.2))) := by
  refine ⟨fun pins s σ H Q I h => ?_⟩
  rw [arm_eval_DictComp]
  have free : ∀ y ∈ scope.names, y.2 = .free → ∃ c, X.env.cells.lookup y.1 = some c := fun y hy e => (ok.free y hy e).elim (fun k => I.ok.has _ (.inl k)) (fun k => I.ok.has _ (.inr k))
  refine wpAny_comprehension_free rfl hs (closure_ok free) ok.kind (fun y hy e => by rw [ok.uniq y hy, e]) (thn (hi.run pins s σ H _ I h) fun _ s1 hx => thn hx fun _ s2 ⟨it, fp, tn, J, H2, e, I2, T, st2, f2, q⟩ => ?_)
  subst e
  refine wpAny_newObj_type (newEnv_comp ?_)
  generalize hD : s2.heap.objs.size = D
  have nD : H2 D = none := I2.hok.fresh (Nat.le_of_eq hD)
  obtain ⟨W, ⟨m0, w0⟩, turn⟩ := q D nD
  generalize hs3 : ({ s2 with heap := s2.heap.push { cls := .type "dict", data := .dict #[] } } : Shared) = s3
  have h3 : s3.heap = s2.heap.push { cls := .type "dict", data := .dict #[] } := by rw [← hs3]
  have I3 : Inv X pins σ (upd H2 D (.dT [])) s3 := by
    subst hs3 hD
    exact I2.laid (t' := s2.toks) (fun b o z => Heap.get?_push_of_some _ z) (Nat.le_refl _) (dt_empty s2.heap I2.big)
  have f3 : ∀ b ∈ fp, FpOk X pins (upd H2 D (.dT [])) b ∧ b < s3.heap.objs.size := fun b hb => by
    obtain ⟨o, e, _⟩ := T.obj _ _ st2 b hb
    have lt : b < s2.heap.objs.size := Heap.lt_size e
    refine ⟨⟨?_, (f2 b hb).2⟩, by rw [h3, Heap.size_push]; exact Nat.lt_succ_of_lt lt⟩
    rw [upd_ne (by rw [← hD]; exact Nat.ne_of_lt lt)]
    exact (f2 b hb).1
  have I4 := block_start I3 ok hN f3
  have pg := hg s3 (upd H2 D (.dT [])) s3.heap.objs.size (cellsFrom (s3.heap.objs.size + 1) scope.names (cloFrom X.env.cells scope.names [])) fp
  have pk := hk s3 (upd H2 D (.dT [])) s3.heap.objs.size (cellsFrom (s3.heap.objs.size + 1) scope.names (cloFrom X.env.cells scope.names [])) fp
  have pv := hv s3 (upd H2 D (.dT [])) s3.heap.objs.size (cellsFrom (s3.heap.objs.size + 1) scope.names (cloFrom X.env.cells scope.names [])) fp
  show codeAny _ _ (.compStart (.DictComp kx vx [⟨tg, iter, [], 0⟩] scope pos) 0 (.ref it) (.ref D) (compEnvC scope (cellsFrom (s3.heap.objs.size + 1) scope.names (cloFrom X.env.cells scope.names [])) s3.heap.objs.size X.env)) (compPost (model X.prog X.w) X.A X.xe none (EP X pins σ Q) (.ref D) s3.heap.objs.size) { s3 with heap := pushCells (s3.heap.push { cls := .type "dict", data := .dict #[] }) scope.names }
  generalize hce : compEnvC scope (cellsFrom (s3.heap.objs.size + 1) scope.names (cloFrom X.env.cells scope.names [])) s3.heap.objs.size X.env = ce at I4 pg pk pv ⊢
  have cL : ce.locals = s3.heap.objs.size := by subst hce; rfl
  generalize hH3 : upd H2 D (.dT []) = H3 at I3 I4 pg pk pv w0 f3
  generalize hs4 : ({ s3 with heap := pushCells (s3.heap.push { cls := .type "dict", data := .dict #[] }) scope.names } : Shared) = s4 at I4 ⊢
  have st4 : tn 0 s4.heap := T.keep _ _ _ st2 fun b _ o z => by
    rw [← hs4]
    exact pushCells_keeps _ _ _ _ (Heap.get?_push_of_some _ (by rw [h3]; exact Heap.get?_push_of_some _ z))
  have blk : ∀ {σ' : L2.St} {H' : Hp} {s' : Shared}, Inv (X.blk s3 H3 scope ce fp) [] σ' H' s' → (∀ b ∈ fp, H' b = none) → ∀ b ∈ fp, FpOk (X.blk s3 H3 scope ce fp) [] H' b := fun J' hn b hb =>
    ⟨hn b hb, (J'.ok.exf b hb).1, J'.ok.exfs b hb, .inl hb, fun x c z => (J'.ok.exf b hb).2 x c z, fun p hp => absurd (show p ∈ ([] : List (Addr × Obj)) ++ [] from hp) (by simp)⟩
  have loop : codeAny (model X.prog X.w) X.A (.compLoop (.DictComp kx vx [⟨tg, iter, [], 0⟩] scope pos) 0 (.ref it) (.ref D) ce) (compPost (model X.prog X.w) X.A X.xe none (EP X pins σ Q) (.ref D) s3.heap.objs.size) s4 := by
    refine compLoop_anyD (BetweenT (X.blk s3 H3 scope ce fp) fp tn (wipe σ (own.map (·.2))) W) ?_ m0 ⟨0, H3, I4, st4, fun b hb => (f3 b hb).1.1, w0⟩
    rintro n s5 ⟨i, H5, I5, st5, n5, w5⟩
    rcases turn i n H5 w5 with ⟨stop, qq⟩ | ⟨go, Nx, hNx, step⟩
    · refine thnF (T.done (X.blk s3 H3 scope ce fp) rfl rfl rfl hc i [] s5 _ H5 (fun _ _ => False) I5 (blk I5 n5) st5 stop) fun r s6 ⟨hr, I6⟩ => ?_
      subst hr
      have I7 : Inv X pins σ H5 s6 := I3.call' (ch := fp) I6.os I6.base I6.hok I6.bare fun b hb => ⟨(f3 b hb).1.2.2.2.1, (f3 b hb).1.2.1, (f3 b hb).1.2.2.2.2.1, (f3 b hb).1.2.2.2.2.2⟩
      have nC : H5 s3.heap.objs.size = none := by
        have z : H5 ce.locals = none := I6.free
        rwa [cL] at z
      obtain ⟨m, hn, _⟩ := I6.loc
      have hn : s6.heap.Ns ce.locals m := hn
      rw [cL] at hn
      obtain ⟨f0, f1, f2, f4, f5, f6⟩ := I3.fpOk (Nat.le_refl _) nC
      exact ⟨m, hn, fun h'' sb => ⟨.ref D, H5, I7.turned (t' := s6.toks) (fun b o hb z => (sb.2 b hb).trans z) f0 f1 f4 f5 f6, rfl, qq⟩⟩
    · refine thnF (T.item (X.blk s3 H3 scope ce fp) rfl rfl rfl hc i [] s5 _ H5 (fun _ _ => False) I5 (blk I5 n5) st5 go) fun r s6 ⟨u, hr, h6⟩ => ?_
      subst hr
      refine thnF h6 fun _ s7 ⟨x, H7, I7, r7, y7, st7, n7⟩ => ?_
      have I7' := I7.pinned (blk I7 n7) (T.obj _ _ st7)
      have main := dct_turn (s := s7) (Z := X.blk s3 H3 scope ce fp) (vs := own.map (·.2)) (D := D) (Nx := Nx) (E' := notedBy (model X.prog X.w) X.A ce fun e s' => compPost (model X.prog X.w) X.A X.xe none (EP X pins σ Q) (.ref D) s3.heap.objs.size (.error e) s') (R := fun s' => ∃ m, m < n ∧ BetweenT (X.blk s3 H3 scope ce fp) fp tn (wipe σ (own.map (·.2))) W m s') rfl hu pg pk pv I7' r7 (step x H7 y7) fun σ8 H' s' hw I' nx => by
        obtain ⟨m', hm, w'⟩ := hNx H' nx
        have keep : ∀ b ∈ fp, ∀ o, s7.heap.get? b = some o → s'.heap.get? b = some o ∧ H' b = none := fun b hb o z =>
          let y := I'.pin (b, o) (List.mem_append_right _ (List.mem_append_right _ (mem_pinsAt hb z)))
          ⟨y.1, y.2.1⟩
        refine ⟨m', hm, i + 1, H', (I'.unpinned (pins := [])).weak (by rw [← hw, wipe_length]) (fun j v z => ?_), T.keep _ _ _ st7 fun b hb o z => (keep b hb o z).1, fun b hb => ?_, w'⟩
        · rw [← hw] at z
          exact (wipe_some z).1
        · obtain ⟨o, z, _⟩ := T.obj _ _ st7 b hb
          exact (keep b hb o z).2
      exact main
  exact codeAny_compStart_dict loop (T.self X.A 0 _ _ _ st4 loop)
end
end Ka
/-! {k: v for t0 in i0 if .. for t1 in i1 if ..}, whatever the keys are. -/
namespace Ka
open PySem PySem.Spec PyProof.Rows L2
section
variable {P : Program} {w : World} {A : Around} {R : Result → Shared → Prop} {s : Shared} {kx vx t0 i0 t1 i1 : Expr} {f0 f1 : List Expr} {sc : Scope} {ps : Pos} {it : Value} {D : Addr} {ev : Env}
/-- the expression -/
abbrev dcE (kx vx t0 i0 : Expr) (f0 : List Expr) (t1 i1 : Expr) (f1 : List Expr) (sc : Scope) (ps : Pos) : Expr :=
  .DictComp kx vx [⟨t0, i0, f0, 0⟩, ⟨t1, i1, f1, 0⟩] sc ps
/-- whether a clause's tests hold -/
abbrev testsOf (fs : List Expr) (ev : Env) : Sem Bool :=
  forIn fs true fun c r => if r = true then do let ok ← isTrue c ev (eval c ev); pure (ForInStep.yield ok) else pure (ForInStep.yield r)
abbrev Raised (P : Program) (w : World) (A : Around) (ev : Env) (R : Result → Shared → Prop) : Value → Shared → Prop :=
  notedBy (model P w) A ev fun e s' => R (.error e) s'
theorem outer_eq : compTurn (dcE kx vx t0 i0 f0 t1 i1 f1 sc ps) 0 it (.ref D) ev = (do
    standAt i0.pos
    match ← pyNext it with
    | none => pure (.done .next)
    | some v =>
      letOwnedTupleGo t0 it v
      assign t0 ev v
      let ok ← testsOf f0 ev
      if ok then
        let z ← eval i1 ev
        standAt i1.pos
        let z ← foldedSetIterable i1 ev z
        let _ ← runOwn (.compStart (dcE kx vx t0 i0 f0 t1 i1 f1 sc ps) 1 (← holding [z] (pyIter z)) (.ref D) ev) ev
      again (.compLoop (dcE kx vx t0 i0 f0 t1 i1 f1 sc ps) 0 it (.ref D) ev)) := by rfl
theorem inner_eq : compTurn (dcE kx vx t0 i0 f0 t1 i1 f1 sc ps) 1 it (.ref D) ev = (do
    standAt i1.pos
    match ← pyNext it with
    | none => pure (.done .next)
    | some v =>
      letOwnedTupleGo t1 it v
      assign t1 ev v
      let ok ← testsOf f1 ev
      if ok then
        (do
          let y ← eval kx ev
          let z ← holding [y] (eval vx ev)
          standAt { kx.pos with endLine := vx.pos.endLine, endCol := vx.pos.endCol }
          holding [y, z] (dictSet D y z))
      again (.compLoop (dcE kx vx t0 i0 f0 t1 i1 f1 sc ps) 1 it (.ref D) ev)) := by rfl
/-- a turn of the first clause -/
def OutTurn (P : Program) (w : World) (A : Around) (R : Result → Shared → Prop) (kx vx t0 i0 : Expr) (f0 : List Expr) (t1 i1 : Expr) (f1 : List Expr) (sc : Scope) (ps : Pos) (it : Value) (D : Addr) (ev : Env) (go : Shared → Prop) (s : Shared) : Prop :=
  wpAny (model P w) A (pyNext it) (fun r s1 => match r with
    | none => R (.ok .next) s1
    | some v => wpAny (model P w) A (letOwnedTupleGo t0 it v) (fun _ s2 => wpAny (model P w) A (assign t0 ev v) (fun _ s3 => wpAny (model P w) A (testsOf f0 ev) (fun ok s4 =>
        if ok = true then wpAny (model P w) A (eval i1 ev) (fun z s5 => wpAny (model P w) A (pyIter z) (fun it1 s6 => codeAny (model P w) A (.compStart (dcE kx vx t0 i0 f0 t1 i1 f1 sc ps) 1 it1 (.ref D) ev) (fun r s' => match r with
            | .ok _ => go s'
            | .error _ => False) s6) (Raised P w A ev R) s5) (Raised P w A ev R) s4
        else go s4) (Raised P w A ev R) s3) (Raised P w A ev R) s2) (Raised P w A ev R) s1) (Raised P w A ev R) s
theorem outer_loop (hs : ∀ x, foldedSetIterable i1 ev x = pure x) (I : Nat → Shared → Prop) (turn : ∀ n s, I n s → OutTurn P w A R kx vx t0 i0 f0 t1 i1 f1 sc ps it D ev (fun s' => ∃ m, m < n ∧ I m s') s) (n : Nat) (h : I n s) :
    codeAny (model P w) A (.compLoop (dcE kx vx t0 i0 f0 t1 i1 f1 sc ps) 0 it (.ref D) ev) R s := by
  refine codeAny_loop rfl I (fun n s hI => ?_) n h
  have T := turn n s hI
  show wpAny _ A ((compTurn (dcE kx vx t0 i0 f0 t1 i1 f1 sc ps) 0 it (.ref D) ev).onRaise (fun x => do noteFrame x ev; theTreesLotGoes x)) _ _ s
  refine wpAny_noted ?_
  rw [outer_eq]
  refine wpAny_bind (wpAny_standAt (wpAny_bind (wpAny_mono T (fun r a1 b1 => ?_) fun _ _ z => z)))
  cases r with
  | none => exact wpAny_pure b1
  | some v =>
    refine wpAny_bind (wpAny_mono b1 (fun _ a2 b2 => wpAny_bind (wpAny_mono b2 (fun _ a3 b3 => wpAny_bind (wpAny_mono b3 (fun ok a4 b4 => ?_) fun _ _ z => z)) fun _ _ z => z)) fun _ _ z => z)
    cases ok with
    | false => exact wpAny_pure ⟨rfl, b4⟩
    | true =>
      refine wpAny_bind (wpAny_mono b4 (fun z a5 b5 => wpAny_bind (wpAny_standAt (wpAny_bind (wpAny_of_eq (hs z) (wpAny_bind (wpAny_holding (wpAny_mono b5 (fun it1 a6 b6 => ?_) fun _ _ z => z))))))) fun _ _ z => z)
      refine wpAny_bind (wpAny_runOwn ?_)
      rw [Around.mark_none]
      refine codeAny_mono b6 fun r s' hr => ?_
      cases r with
      | error e => exact hr.elim
      | ok f => first | exact wpAny_pure ⟨rfl, hr⟩ | exact wpAny_bind (wpAny_pure (wpAny_pure ⟨rfl, hr⟩))
/-- a turn of the second -/
def InTurn (P : Program) (w : World) (A : Around) (R : Result → Shared → Prop) (kx vx t1 : Expr) (f1 : List Expr) (it : Value) (D : Addr) (ev : Env) (go : Shared → Prop) (s : Shared) : Prop :=
  wpAny (model P w) A (pyNext it) (fun r s1 => match r with
    | none => R (.ok .next) s1
    | some v => wpAny (model P w) A (letOwnedTupleGo t1 it v) (fun _ s2 => wpAny (model P w) A (assign t1 ev v) (fun _ s3 => wpAny (model P w) A (testsOf f1 ev) (fun ok s4 =>
        if ok = true then wpAny (model P w) A (eval kx ev) (fun y s5 => wpAny (model P w) A (eval vx ev) (fun z s6 => wpAny (model P w) A (dictSet D y z) (fun _ s7 => go s7) (Raised P w A ev R) s6) (Raised P w A ev R) s5) (Raised P w A ev R) s4
        else go s4) (Raised P w A ev R) s3) (Raised P w A ev R) s2) (Raised P w A ev R) s1) (Raised P w A ev R) s
theorem inner_loop (I : Nat → Shared → Prop) (turn : ∀ n s, I n s → InTurn P w A R kx vx t1 f1 it D ev (fun s' => ∃ m, m < n ∧ I m s') s) (n : Nat) (h : I n s) :
    codeAny (model P w) A (.compLoop (dcE kx vx t0 i0 f0 t1 i1 f1 sc ps) 1 it (.ref D) ev) R s := by
  refine codeAny_loop rfl I (fun n s hI => ?_) n h
  have T := turn n s hI
  show wpAny _ A ((compTurn (dcE kx vx t0 i0 f0 t1 i1 f1 sc ps) 1 it (.ref D) ev).onRaise (fun x => do noteFrame x ev; theTreesLotGoes x)) _ _ s
  refine wpAny_noted ?_
  rw [inner_eq]
  refine wpAny_bind (wpAny_standAt (wpAny_bind (wpAny_mono T (fun r a1 b1 => ?_) fun _ _ z => z)))
  cases r with
  | none => exact wpAny_pure b1
  | some v =>
    refine wpAny_bind (wpAny_mono b1 (fun _ a2 b2 => wpAny_bind (wpAny_mono b2 (fun _ a3 b3 => wpAny_bind (wpAny_mono b3 (fun ok a4 b4 => ?_) fun _ _ z => z)) fun _ _ z => z)) fun _ _ z => z)
    cases ok with
    | false => exact wpAny_pure ⟨rfl, b4⟩
    | true =>
      exact wpAny_bind (wpAny_bind (wpAny_mono b4 (fun y a5 b5 => wpAny_bind (wpAny_holding (wpAny_mono b5 (fun z a6 b6 => wpAny_bind (wpAny_standAt (wpAny_holding (wpAny_mono b6 (fun _ a7 b7 => wpAny_pure ⟨rfl, b7⟩) fun _ _ z => z)))) fun _ _ z => z))) fun _ _ z => z))
/-- the second clause begins -/
theorem inner_start (h0 : codeAny (model P w) A (.compLoop (dcE kx vx t0 i0 f0 t1 i1 f1 sc ps) 1 it (.ref D) ev) R s)
    (h : wpAny (model P w) A (pyIter it) (fun j s' => codeAny (model P w) A (.compLoop (dcE kx vx t0 i0 f0 t1 i1 f1 sc ps) 1 j (.ref D) ev) R s') (Raised P w A ev R) s) :
    codeAny (model P w) A (.compStart (dcE kx vx t0 i0 f0 t1 i1 f1 sc ps) 1 it (.ref D) ev) R s := by
  refine codeAny_of_tree ?_
  show wpAny _ _ ((compStart (dcE kx vx t0 i0 f0 t1 i1 f1 sc ps) 1 it (.ref D) ev).onRaise (fun x => do noteFrame x ev; standAt theWindowsPlace)) _ _ s
  refine wpAny_notedAt ?_
  unfold compStart
  show wpAny _ _ (ask >>= _) _ _ s
  refine wpAny_bind (wpAny_askSetting (wpAny_ite ?_))
  have l1 : ∀ (j : Value) (s' : Shared), codeAny (model P w) A (.compLoop (dcE kx vx t0 i0 f0 t1 i1 f1 sc ps) 1 j (.ref D) ev) R s' → codeAny (model P w) A (.compLoop (dcE kx vx t0 i0 f0 t1 i1 f1 sc ps) 1 j (.ref D) ev) R s' := fun _ _ z => z
  split
  · first | exact wpAny_pure ⟨rfl, h0⟩ | exact wpAny_bind (wpAny_pure (wpAny_pure ⟨rfl, h0⟩))
  · refine wpAny_bind (wpAny_rule ?_)
    first
      | exact wpAny_bind (wpAny_standAt (wpAny_bind (wpAny_mono h (fun j s' z => wpAny_pure ⟨rfl, z⟩) fun _ _ z => z)))
      | (show wpAny _ _ (standAt i1.pos >>= _) _ _ s; exact wpAny_bind (wpAny_standAt (wpAny_bind (wpAny_mono h (fun j s' z => wpAny_pure ⟨rfl, z⟩) fun _ _ z => z))))
end
/-- what is stored: o0 an empty dict, up what it takes to put a key and a value into the dict at an address -/
structure Store (X : Cx) (o0 : HO) (up : Addr → V → V → Hp → (Hp → Prop) → Prop) : Prop where
  fresh : ∀ {pins : List (Addr × Obj)} {σ : L2.St} {H : Hp} {s : Shared}, Inv X pins σ H s → Inv X pins σ (upd H s.heap.objs.size o0) { s with heap := s.heap.push { cls := .type "dict", data := .dict #[] } }
  put : ∀ {Z : Cx} {pins : List (Addr × Obj)} {σ : L2.St} {H : Hp} {s : Shared} {E : Value → Shared → Prop} {D : Addr} {y z : V} {u r : Value} {Nx : Hp → Prop} {Q : Unit → Shared → Prop}, Z.A = X.A → Inv Z pins σ H s → RelV y u → RelV z r → up D y z H Nx →
    (∀ H' s', Inv Z pins σ H' s' → Nx H' → Q () s') → wpAny (model Z.prog Z.w) Z.A (dictSet D u r) Q E s
/-- keys numbers or texts -/
def upK : Addr → V → V → Hp → (Hp → Prop) → Prop := fun D y z H Nx => ∃ kvs k, y = kV k ∧ H D = some (.dK kvs) ∧ kvs.length < sizeLine ∧ Nx (upd H D (.dK (putK kvs k z)))
/-- keys tuples of them -/
def upT : Addr → V → V → Hp → (Hp → Prop) → Prop := fun D y z H Nx => ∃ kvs k b, y = .ref b ∧ H b = some (.tup (k.map kV)) ∧ H D = some (.dT kvs) ∧ kvs.length < sizeLine ∧ Nx (upd H D (.dT (putK kvs k z)))
theorem storeK {X : Cx} : Store X (.dK []) upK where
  fresh := fun {pins σ H s} I => I.laid (t' := s.toks) (fun b o z => Heap.get?_push_of_some _ z) (Nat.le_refl _) (dk_empty s.heap I.big)
  put := fun _ I ry rz ⟨kvs, k, ey, hD, hz, nx⟩ q => by
    subst ey
    exact d_dictSet I hD hz ry rz fun s' I' => q _ s' I' nx
theorem storeT {X : Cx} (hu : X.A.units + 1 < cLine) : Store X (.dT []) upT where
  fresh := fun {pins σ H s} I => I.laid (t' := s.toks) (fun b o z => Heap.get?_push_of_some _ z) (Nat.le_refl _) (dt_empty s.heap I.big)
  put := fun e I ry rz ⟨kvs, k, b, ey, hb, hD, hz, nx⟩ q => by
    subst ey
    exact dT_set (by rw [e]; exact hu) I hD hz hb ry rz fun s' I' => q _ s' I' nx
/-- the turns of the second clause, from which Nx is reached -/
def InP (up : Addr → V → V → Hp → (Hp → Prop) → Prop) (D : Addr) (g1 : TG) (tt1 : TT) (tk tv : TE) (vs1 : List Nat) (τ : L2.St) (Nx : Hp → Prop) (J : It) (H0 : Hp) : Prop :=
  ∃ W : Nat → Nat → Hp → Prop, (∃ m, W 0 m H0) ∧ ∀ j k H, W j k H → (J.stop j H ∧ Nx H) ∨ (J.go j H ∧ ∃ N1 : Hp → Prop, (∀ H', N1 H' → ∃ k', k' < k ∧ W (j + 1) k' H') ∧
    ∀ x H', J.yld j H x H' → g1 x (wipe τ vs1) H' fun τ2 H5 => wipe τ2 vs1 = wipe τ vs1 ∧ tt1 τ2 H5 fun b H6 => if b = true then tk τ2 H6 fun y H7 => tv τ2 H7 fun z H8 => up D y z H8 N1 else N1 H6)
/-- {k: v for target in iter if .. for target in iter if ..} -/
def tDc2 (o0 : HO) (up : Addr → V → V → Hp → (Hp → Prop) → Prop) (wi : TI) (g : TG) (tt : TT) (wi1 : TI) (g1 : TG) (tt1 : TT) (tk tv : TE) (vs vs1 : List Nat) : TE := fun σ H Q => wi σ H fun J H1 => ∀ D, H1 D = none →
  ∃ W : Nat → Nat → Hp → Prop, (∃ m, W 0 m (upd H1 D o0)) ∧ ∀ i m H, W i m H → (J.stop i H ∧ Q (.ref D) H) ∨ (J.go i H ∧ ∃ Nx : Hp → Prop, (∀ H', Nx H' → ∃ m', m' < m ∧ W (i + 1) m' H') ∧
    ∀ x H', J.yld i H x H' → g x (wipe σ vs) H' fun τ H2 => wipe τ vs = wipe σ vs ∧ tt τ H2 fun b H3 => if b = true then wi1 τ H3 fun J1 H4 => InP up D g1 tt1 tk tv vs1 τ Nx J1 H4 else Nx H3)
section
variable {X : Cx}
/-- a block's part, for any frame that it may get -/
abbrev inB (X : Cx) (sc : Scope) (s : Shared) (H : Hp) (C : Addr) (cl : List (Str × Addr)) (fp : List Addr) : Cx := X.blk s H sc (compEnvC sc cl C X.env) fp
theorem keep_out {σ τ : L2.St} {vs vs1 : List Nat} (hv : ∀ i ∈ vs1, i ∈ vs) (e : wipe τ vs = wipe σ vs) {j : Nat} {v : V} (h : (wipe σ vs)[j]? = some (some v)) : (wipe τ vs1)[j]? = some (some v) := by
  rw [← e] at h
  have h2 := wipe_some h
  rw [wipe_out fun z => h2.2 (hv j z)]
  exact h2.1
/-- what stands between two turns of a clause -/
def Btw (Z : Cx) (pins : List (Addr × Obj)) (fp : List Addr) (tn : Nat → Heap → Prop) (τ : L2.St) (W : Nat → Nat → Hp → Prop) (n : Nat) (s : Shared) : Prop :=
  ∃ i H, Inv Z pins τ H s ∧ tn i s.heap ∧ (∀ b ∈ fp, H b = none) ∧ W i n H
/-- from a turn to the next -/
theorem btw_next {Z : Cx} {pins : List (Addr × Obj)} {t : Expr} {J : It} {fp : List Addr} {it : Addr} {tn : Nat → Heap → Prop} {h : Heap} (T : Turn Z.prog Z.w Z.K t J fp it tn) {τ τ2 : L2.St} {W : Nat → Nat → Hp → Prop} {i n m : Nat} {H : Hp} {s : Shared} (sth : tn (i + 1) h)
    (I : Inv Z (pins ++ pinsAt fp h) τ2 H s) (hl : τ.length = τ2.length) (hk : ∀ (j : Nat) v, τ[j]? = some (some v) → τ2[j]? = some (some v)) (hm : m < n) (w : W (i + 1) m H) : ∃ m, m < n ∧ Btw Z pins fp tn τ W m s := by
  have pin : ∀ b ∈ fp, ∀ o, h.get? b = some o → s.heap.get? b = some o ∧ H b = none := fun b hb o e =>
    let z := I.pin (b, o) (List.mem_append_right _ (List.mem_append_right _ (mem_pinsAt hb e)))
    ⟨z.1, z.2.1⟩
  refine ⟨m, hm, i + 1, H, (I.unpinned (pins := pins)).weak hl hk, T.keep _ _ _ sth fun b hb o e => (pin b hb o e).1, fun b hb => ?_, w⟩
  obtain ⟨o, e, _⟩ := T.obj _ _ sth b hb
  exact (pin b hb o e).2
theorem len_of {τ τ2 : L2.St} {vs : List Nat} (e : wipe τ2 vs = wipe τ vs) : (wipe τ vs).length = τ2.length := by rw [← e, wipe_length]
theorem knows_of {τ τ2 : L2.St} {vs : List Nat} (e : wipe τ2 vs = wipe τ vs) (j : Nat) (v : V) (h : (wipe τ vs)[j]? = some (some v)) : τ2[j]? = some (some v) := by
  rw [← e] at h
  exact (wipe_some h).1
theorem in_turn {Z : Cx} {R : Result → Shared → Prop} {kx vx t1 : Expr} {f1 : List Expr} {o0 : HO} {up : Addr → V → V → Hp → (Hp → Prop) → Prop} (st : Store X o0 up) (zA : Z.A = X.A) (hE : Z.xe = fun _ _ => False) (hc : Z.calm = true) {D : Addr} {J1 : It} {fp1 : List Addr} {it1 : Addr} {tn1 : Nat → Heap → Prop} (T1 : Turn Z.prog Z.w Z.K t1 J1 fp1 it1 tn1)
    {τ : L2.St} {vs1 : List Nat} {pins : List (Addr × Obj)} {Nx : Hp → Prop} {W1 : Nat → Nat → Hp → Prop} {g1 : TG} {tt1 : TT} {tk tv : TE} (pg1 : PG Z t1 g1) (pt1 : PTs Z f1 tt1) (pk : PE Z kx tk) (px : PE Z vx tv) (far : ∀ {H' : Hp}, (∀ b ∈ fp1, H' b = none) → ∀ b ∈ fp1, FpOk Z pins H' b)
    (turn : ∀ j k H, W1 j k H → (J1.stop j H ∧ Nx H) ∨ (J1.go j H ∧ ∃ N1 : Hp → Prop, (∀ H', N1 H' → ∃ k', k' < k ∧ W1 (j + 1) k' H') ∧
      ∀ x H', J1.yld j H x H' → g1 x (wipe τ vs1) H' fun τ2 H5 => wipe τ2 vs1 = wipe τ vs1 ∧ tt1 τ2 H5 fun b H6 => if b = true then tk τ2 H6 fun y H7 => tv τ2 H7 fun z H8 => up D y z H8 N1 else N1 H6))
    (fin : ∀ {H' : Hp} {s' : Shared}, Inv Z pins (wipe τ vs1) H' s' → Nx H' → R (.ok .next) s') (k : Nat) (s : Shared) (h : Btw Z pins fp1 tn1 (wipe τ vs1) W1 k s) :
    InTurn Z.prog Z.w Z.A R kx vx t1 f1 (.ref it1) D Z.env (fun s' => ∃ m, m < k ∧ Btw Z pins fp1 tn1 (wipe τ vs1) W1 m s') s := by
  obtain ⟨j, H, I, stj, no, w⟩ := h
  rcases turn j k H w with ⟨stop, nx⟩ | ⟨go, N1, hN, step⟩
  · refine thnF (T1.done Z rfl rfl rfl hc j _ s _ H (fun _ _ => False) I (far no) stj stop) fun r a1 ⟨hr, I1⟩ => ?_
    subst hr
    exact fin I1 nx
  · refine thnF (T1.item Z rfl rfl rfl hc j _ s _ H (fun _ _ => False) I (far no) stj go) fun r a1 ⟨u, hr, h1⟩ => ?_
    subst hr
    refine thnF h1 fun _ a2 ⟨x, H2, I2, r2, y2, st2, n2⟩ => ?_
    have I2' := I2.pinned (far n2) (T1.obj _ _ st2)
    have b3 := pg1.run _ a2 _ H2 x u _ I2' r2 (step x H2 y2)
    rw [hE] at b3
    refine thnF b3 fun _ a3 ⟨τ2, H3, I3, e3, q3⟩ => ?_
    have b4 := pt1.run _ a3 τ2 H3 _ I3 q3
    rw [hE] at b4
    refine thnF b4 fun b a4 ⟨H4, I4, q4⟩ => ?_
    have next : ∀ {H' : Hp} {s' : Shared}, Inv Z (pins ++ pinsAt fp1 a2.heap) τ2 H' s' → N1 H' → ∃ m, m < k ∧ Btw Z pins fp1 tn1 (wipe τ vs1) W1 m s' := fun I' n' => by
      obtain ⟨m, hm, w'⟩ := hN _ n'
      exact btw_next T1 st2 I' (len_of e3) (knows_of e3) hm w'
    cases b with
    | false =>
      rw [if_neg Bool.false_ne_true] at q4 ⊢
      exact next I4 q4
    | true =>
      rw [if_pos rfl] at q4 ⊢
      have b5 := pk.run _ a4 τ2 H4 _ I4 q4
      rw [hE] at b5
      refine thnF b5 fun v5 a5 ⟨y, H5, I5, r5, q5⟩ => ?_
      have b6 := px.run _ a5 τ2 H5 _ I5 q5
      rw [hE] at b6
      refine thnF b6 fun v6 a6 ⟨z, H6, I6, r6, q6⟩ => ?_
      exact st.put zA I6 r5 r6 q6 fun H' s' I' n' => next I' n'
theorem out_turn {Z : Cx} {R : Result → Shared → Prop} {kx vx t0 i0 t1 i1 : Expr} {f0 f1 : List Expr} {sc : Scope} {ps : Pos} {o0 : HO} {up : Addr → V → V → Hp → (Hp → Prop) → Prop} (st : Store X o0 up) (zA : Z.A = X.A) (hE : Z.xe = fun _ _ => False) (hc : Z.calm = true) {D : Addr} {J : It} {fp : List Addr} {it : Addr} {tn : Nat → Heap → Prop} (T : Turn Z.prog Z.w Z.K t0 J fp it tn)
    {σ : L2.St} {vs vs1 : List Nat} (hv : ∀ i ∈ vs1, i ∈ vs) {Qd : Hp → Prop} {W : Nat → Nat → Hp → Prop} {wi1 : TI} {g g1 : TG} {tt tt1 : TT} {tk tv : TE} (pg : PG Z t0 g) (pt : PTs Z f0 tt) (pi1 : PI Z t1 i1 wi1) (pg1 : PG Z t1 g1) (pt1 : PTs Z f1 tt1) (pk : PE Z kx tk) (px : PE Z vx tv)
    (far : ∀ {τ' : L2.St} {H' : Hp} {s' : Shared}, Inv Z [] τ' H' s' → (∀ b ∈ fp, H' b = none) → ∀ b ∈ fp, FpOk Z [] H' b)
    (turn : ∀ i m H, W i m H → (J.stop i H ∧ Qd H) ∨ (J.go i H ∧ ∃ Nx : Hp → Prop, (∀ H', Nx H' → ∃ m', m' < m ∧ W (i + 1) m' H') ∧
      ∀ x H', J.yld i H x H' → g x (wipe σ vs) H' fun τ H2 => wipe τ vs = wipe σ vs ∧ tt τ H2 fun b H3 => if b = true then wi1 τ H3 fun J1 H4 => InP up D g1 tt1 tk tv vs1 τ Nx J1 H4 else Nx H3))
    (fin : ∀ {H' : Hp} {s' : Shared}, Inv Z [] (wipe σ vs) H' s' → Qd H' → R (.ok .next) s') (n : Nat) (s : Shared) (h : Btw Z [] fp tn (wipe σ vs) W n s) :
    OutTurn Z.prog Z.w Z.A R kx vx t0 i0 f0 t1 i1 f1 sc ps (.ref it) D Z.env (fun s' => ∃ m, m < n ∧ Btw Z [] fp tn (wipe σ vs) W m s') s := by
  obtain ⟨i, H, I, sti, no, w⟩ := h
  rcases turn i n H w with ⟨stop, qd⟩ | ⟨go, Nx, hN, step⟩
  · refine thnF (T.done Z rfl rfl rfl hc i _ s _ H (fun _ _ => False) I (far I no) sti stop) fun r a1 ⟨hr, I1⟩ => ?_
    subst hr
    exact fin I1 qd
  · refine thnF (T.item Z rfl rfl rfl hc i _ s _ H (fun _ _ => False) I (far I no) sti go) fun r a1 ⟨u, hr, h1⟩ => ?_
    subst hr
    refine thnF h1 fun _ a2 ⟨x, H2, I2, r2, y2, st2, n2⟩ => ?_
    have I2' := I2.pinned (far I2 n2) (T.obj _ _ st2)
    have b3 := pg.run _ a2 _ H2 x u _ I2' r2 (step x H2 y2)
    rw [hE] at b3
    refine thnF b3 fun _ a3 ⟨τ, H3, I3, e3, q3⟩ => ?_
    have b4 := pt.run _ a3 τ H3 _ I3 q3
    rw [hE] at b4
    refine thnF b4 fun b a4 ⟨H4, I4, q4⟩ => ?_
    have next : ∀ {τ2 : L2.St} {H' : Hp} {s' : Shared}, Inv Z ([] ++ pinsAt fp a2.heap) τ2 H' s' → (wipe σ vs).length = τ2.length → (∀ (j : Nat) v, (wipe σ vs)[j]? = some (some v) → τ2[j]? = some (some v)) → Nx H' → ∃ m, m < n ∧ Btw Z [] fp tn (wipe σ vs) W m s' := fun I' hl hk n' => by
      obtain ⟨m, hm, w'⟩ := hN _ n'
      exact btw_next T st2 I' hl hk hm w'
    cases b with
    | false =>
      rw [if_neg Bool.false_ne_true] at q4 ⊢
      exact next I4 (len_of e3) (knows_of e3) q4
    | true =>
      rw [if_pos rfl] at q4 ⊢
      have b5 := pi1.run _ a4 τ H4 _ I4 q4
      rw [hE] at b5
      refine thnF b5 fun xv a5 h5 => thnF h5 fun itv a6 ⟨it1, fp1, tn1, J1, H6, e6, I6, T1, st6, f6, W1, ⟨m1, w1⟩, turn1⟩ => ?_
      subst e6
      have loop := inner_loop (t0 := t0) (i0 := i0) (i1 := i1) (f0 := f0) (sc := sc) (ps := ps) (P := Z.prog) (w := Z.w) (A := Z.A) (kx := kx) (vx := vx) (t1 := t1) (f1 := f1) (it := .ref it1) (D := D) (ev := Z.env)
        (R := fun r s' => match r with
          | .ok _ => ∃ m, m < n ∧ Btw Z [] fp tn (wipe σ vs) W m s'
          | .error _ => False)
        (Btw Z ([] ++ pinsAt fp a2.heap) fp1 tn1 (wipe τ vs1) W1)
        (in_turn st zA hE hc T1 (Nx := Nx) pg1 pt1 pk px (fun hn b hb => ⟨hn b hb, (f6 b hb).2⟩) turn1 (fun I' nx => next I' ((len_of e3).trans (wipe_length τ vs1).symm) (fun j v z => keep_out hv e3 z) nx))
        m1 (s := a6) ⟨0, H6, I6.weak (wipe_length _ _) (fun j v z => (wipe_some z).1), st6, fun b hb => (f6 b hb).1, w1⟩
      exact inner_start loop (T1.self _ _ _ _ _ st6 loop)
theorem pe_dc2 {kx vx t0 i0 t1 i1 : Expr} {f0 f1 : List Expr} {sc : Scope} {own : List (Str × Nat)} {vs1 : List Nat} {ps : Pos} {o0 : HO} {up : Addr → V → V → Hp → (Hp → Prop) → Prop} {wi wi1 : TI} {g g1 : TG} {tt tt1 : TT} {tk tv : TE} (st : Store X o0 up) (hc : X.calm = true) (hN : X.N.Nodup) (hi : PI X t0 i0 wi) (ok : BlkOk X.N X.env.scope sc own) (hv : ∀ i ∈ vs1, i ∈ own.map (·.2))
    (hg : ∀ s H C cl fp, PG (inB X sc s H C cl fp) t0 g) (ht : ∀ s H C cl fp, PTs (inB X sc s H C cl fp) f0 tt) (hi1 : ∀ s H C cl fp, PI (inB X sc s H C cl fp) t1 i1 wi1) (hg1 : ∀ s H C cl fp, PG (inB X sc s H C cl fp) t1 g1) (ht1 : ∀ s H C cl fp, PTs (inB X sc s H C cl fp) f1 tt1) (hk : ∀ s H C cl fp, PE (inB X sc s H C cl fp) kx tk) (hx : ∀ s H C cl fp, PE (inB X sc s H C cl fp) vx tv)
    (hs : ∀ x, foldedSetIterable i0 X.env x = pure x := by intro _; rfl) (hs1 : ∀ ev x, foldedSetIterable i1 ev x = pure x := by intro _ _; rfl) : PE X (dcE kx vx t0 i0 f0 t1 i1 f1 sc ps) (tDc2 o0 up wi g tt wi1 g1 tt1 tk tv (own.map (·.2)) vs1) := by
  refine ⟨fun pins s σ H Q I h => ?_⟩
  rw [arm_eval_DictComp]
  have free : ∀ y ∈ sc.names, y.2 = .free → ∃ c, X.env.cells.lookup y.1 = some c := fun y hy e => (ok.free y hy e).elim (fun k => I.ok.has _ (.inl k)) (fun k => I.ok.has _ (.inr k))
  refine wpAny_comprehension_free rfl hs (closure_ok free) ok.kind (fun y hy e => by rw [ok.uniq y hy, e]) (thn (hi.run pins s σ H _ I h) fun _ s1 hx1 => thn hx1 fun _ s2 ⟨it, fp, tn, J, H2, e, I2, T, st2, f2, q⟩ => ?_)
  subst e
  refine wpAny_newObj_type (newEnv_comp ?_)
  have I3 := st.fresh I2
  generalize hD : s2.heap.objs.size = D at I3
  have nD : H2 D = none := I2.hok.fresh (Nat.le_of_eq hD)
  obtain ⟨W, ⟨m0, w0⟩, turn⟩ := q D nD
  generalize hs3 : ({ s2 with heap := s2.heap.push { cls := .type "dict", data := .dict #[] } } : Shared) = s3 at I3
  have h3 : s3.heap = s2.heap.push { cls := .type "dict", data := .dict #[] } := by rw [← hs3]
  have f3 : ∀ b ∈ fp, FpOk X pins (upd H2 D o0) b ∧ b < s3.heap.objs.size := fun b hb => by
    obtain ⟨o, e, _⟩ := T.obj _ _ st2 b hb
    have lt : b < s2.heap.objs.size := Heap.lt_size e
    exact ⟨⟨by rw [upd_ne (by rw [← hD]; exact Nat.ne_of_lt lt)]; exact (f2 b hb).1, (f2 b hb).2⟩, by rw [h3, Heap.size_push]; exact Nat.lt_succ_of_lt lt⟩
  have I4 := block_start I3 ok hN f3
  generalize hcl : cellsFrom (s3.heap.objs.size + 1) sc.names (cloFrom X.env.cells sc.names []) = cl at I4
  have pg := hg s3 (upd H2 D o0) s3.heap.objs.size cl fp
  have pt := ht s3 (upd H2 D o0) s3.heap.objs.size cl fp
  have pi1 := hi1 s3 (upd H2 D o0) s3.heap.objs.size cl fp
  have pg1 := hg1 s3 (upd H2 D o0) s3.heap.objs.size cl fp
  have pt1 := ht1 s3 (upd H2 D o0) s3.heap.objs.size cl fp
  have pk := hk s3 (upd H2 D o0) s3.heap.objs.size cl fp
  have px := hx s3 (upd H2 D o0) s3.heap.objs.size cl fp
  dsimp only [inB] at pg pt pi1 pg1 pt1 pk px
  show codeAny _ _ (.compStart (dcE kx vx t0 i0 f0 t1 i1 f1 sc ps) 0 (.ref it) (.ref D) (compEnvC sc cl s3.heap.objs.size X.env)) (compPost (model X.prog X.w) X.A X.xe none (EP X pins σ Q) (.ref D) s3.heap.objs.size) { s3 with heap := pushCells (s3.heap.push { cls := .type "dict", data := .dict #[] }) sc.names }
  generalize hce : compEnvC sc cl s3.heap.objs.size X.env = ce at I4 pg pt pi1 pg1 pt1 pk px ⊢
  have cL : ce.locals = s3.heap.objs.size := by subst hce; rfl
  generalize hH3 : upd H2 D o0 = H3 at I3 I4 pg pt pi1 pg1 pt1 pk px w0 f3
  generalize hs4 : ({ s3 with heap := pushCells (s3.heap.push { cls := .type "dict", data := .dict #[] }) sc.names } : Shared) = s4 at I4 ⊢
  have st4 : tn 0 s4.heap := T.keep _ _ _ st2 fun b _ o z => by
    rw [← hs4]
    exact pushCells_keeps _ _ _ _ (Heap.get?_push_of_some _ (by rw [h3]; exact Heap.get?_push_of_some _ z))
  have far : ∀ {τ : L2.St} {H' : Hp} {s' : Shared}, Inv (X.blk s3 H3 sc ce fp) [] τ H' s' → (∀ b ∈ fp, H' b = none) → ∀ b ∈ fp, FpOk (X.blk s3 H3 sc ce fp) [] H' b := fun J' hn b hb =>
    ⟨hn b hb, (J'.ok.exf b hb).1, J'.ok.exfs b hb, .inl hb, fun x c z => (J'.ok.exf b hb).2 x c z, fun p hp => absurd (show p ∈ ([] : List (Addr × Obj)) ++ [] from hp) (by simp)⟩
  have loop : codeAny (model X.prog X.w) X.A (.compLoop (dcE kx vx t0 i0 f0 t1 i1 f1 sc ps) 0 (.ref it) (.ref D) ce) (compPost (model X.prog X.w) X.A X.xe none (EP X pins σ Q) (.ref D) s3.heap.objs.size) s4 := by
    refine outer_loop (hs1 ce) (Btw (X.blk s3 H3 sc ce fp) [] fp tn (wipe σ (own.map (·.2))) W) (fun n s' b => ?_) m0 ⟨0, H3, I4, st4, fun b hb => (f3 b hb).1.1, w0⟩
    refine out_turn (Z := X.blk s3 H3 sc ce fp) st rfl rfl hc T hv (Qd := fun H => Q (.ref D) H) pg pt pi1 pg1 pt1 pk px far turn (fun {H' s'} I' qq => ?_) n s' b
    have I7 : Inv X pins σ H' s' := I3.call' (ch := fp) I'.os I'.base I'.hok I'.bare fun b hb => ⟨(f3 b hb).1.2.2.2.1, (f3 b hb).1.2.1, (f3 b hb).1.2.2.2.2.1, (f3 b hb).1.2.2.2.2.2⟩
    have nC : H' s3.heap.objs.size = none := by
      have z : H' ce.locals = none := I'.free
      rwa [cL] at z
    obtain ⟨m, hn, _⟩ := I'.loc
    have hn : s'.heap.Ns ce.locals m := hn
    rw [cL] at hn
    obtain ⟨z0, z1, z2, z4, z5, z6⟩ := I3.fpOk (Nat.le_refl _) nC
    exact ⟨m, hn, fun h'' sb => ⟨.ref D, H', I7.turned (t' := s'.toks) (fun b o hb z => (sb.2 b hb).trans z) z0 z1 z4 z5 z6, rfl, qq⟩⟩
  exact codeAny_compStart_dict loop (T.self X.A 0 _ _ _ st4 loop)
end
end Ka
/-! Heaps as lists (own text; no part of the kit). -/
namespace Kp
variable {α : Type} {lt : α → α → Bool}
/-- less, as a heap wants it -/
structure Ord (lt : α → α → Bool) : Prop where
  asym : ∀ a b, lt a b = true → lt b a = false
  cot : ∀ a b c, lt a b = false → lt b c = false → lt a c = false
theorem Ord.trans (o : Ord lt) {a b c : α} (h1 : lt a b = true) (h2 : lt b c = true) : lt a c = true := by
  cases h : lt a c with
  | true => rfl
  | false =>
    have := o.cot a c b h (o.asym b c h2)
    rw [h1] at this
    cases this
theorem Ord.irr (o : Ord lt) (a : α) : lt a a = false := by
  cases h : lt a a with
  | false => rfl
  | true => rw [← h]; exact o.asym a a h
def par (i : Nat) : Nat := (i - 1) / 2
theorem par_lt {i : Nat} (h : 0 < i) : par i < i := by unfold par; omega
/-- no item is less than the one above it -/
def IsHeap (lt : α → α → Bool) (l : List α) : Prop := ∀ (i : Nat) (x y : α), 0 < i → l[i]? = some x → l[par i]? = some y → lt x y = false
/-- so but at one place, which is as if it were not there -/
structure But (lt : α → α → Bool) (l : List α) (p : Nat) : Prop where
  far : ∀ (i : Nat) (x y : α), 0 < i → i ≠ p → par i ≠ p → l[i]? = some x → l[par i]? = some y → lt x y = false
  near : ∀ (i : Nat) (x y : α), 0 < i → 0 < p → par i = p → l[i]? = some x → l[par p]? = some y → lt x y = false
/-- so but the one at p may be less than the one above it -/
structure Up (lt : α → α → Bool) (l : List α) (p : Nat) : Prop where
  far : ∀ (i : Nat) (x y : α), 0 < i → i ≠ p → l[i]? = some x → l[par i]? = some y → lt x y = false
  near : ∀ (i : Nat) (x y : α), 0 < i → 0 < p → par i = p → l[i]? = some x → l[par p]? = some y → lt x y = false
theorem heap_nil : IsHeap lt ([] : List α) := fun i x y _ h => by simp at h
theorem root_least (o : Ord lt) {l : List α} (h : IsHeap lt l) {r : α} (hr : l[0]? = some r) : ∀ (i : Nat) (x : α), l[i]? = some x → lt x r = false := by
  intro i
  induction i using Nat.strongRecOn with
  | ind i ih =>
    intro x hx
    by_cases h0 : i = 0
    · subst h0
      rw [hr] at hx
      cases hx
      exact o.irr _
    · have hp := par_lt (i := i) (by omega)
      have hl := (List.getElem?_eq_some_iff.mp hx).1
      have hy : l[par i]? = some (l[par i]'(by omega)) := List.getElem?_eq_getElem (by omega)
      exact o.cot _ _ _ (h i x _ (by omega) hx hy) (ih _ hp _ hy)
/-- two exchanged -/
def swp (l : List α) (i j : Nat) (x y : α) : List α := (l.set i y).set j x
theorem swp_at {l : List α} {i j : Nat} {x y : α} (hi : i < l.length) (hj : j < l.length) (hij : i ≠ j) (k : Nat) : (swp l i j x y)[k]? = if k = j then some x else if k = i then some y else l[k]? := by
  unfold swp
  rw [List.getElem?_set]
  by_cases h1 : j = k
  · subst h1
    rw [if_pos rfl, if_pos rfl, if_pos (by rw [List.length_set]; exact hj)]
  · rw [if_neg h1, if_neg (fun e => h1 e.symm), List.getElem?_set]
    by_cases h2 : i = k
    · subst h2
      rw [if_pos rfl, if_pos rfl, if_pos hi]
    · rw [if_neg h2, if_neg (fun e => h2 e.symm)]
theorem swp_perm {l : List α} {i j : Nat} {x y : α} (hx : l[i]? = some x) (hy : l[j]? = some y) : (swp l i j x y).Perm l := by
  obtain ⟨hi, rfl⟩ := List.getElem?_eq_some_iff.mp hx
  obtain ⟨hj, rfl⟩ := List.getElem?_eq_some_iff.mp hy
  exact List.set_set_perm hi hj
theorem swp_len {l : List α} {i j : Nat} {x y : α} : (swp l i j x y).length = l.length := by
  unfold swp
  rw [List.length_set, List.length_set]
theorem up_done (l : List α) {p : Nat} (h : Up lt l p) (hp : p = 0 ∨ ∀ x y, l[p]? = some x → l[par p]? = some y → lt x y = false) : IsHeap lt l := by
  intro i x y h0 hx hy
  by_cases e : i = p
  · subst e
    rcases hp with z | z
    · omega
    · exact z x y hx hy
  · exact h.far i x y h0 e hx hy
theorem up_step (o : Ord lt) {l : List α} {p : Nat} {x y : α} (h : Up lt l p) (h0 : 0 < p) (hx : l[p]? = some x) (hy : l[par p]? = some y) (hxy : lt x y = true) : Up lt (swp l (par p) p y x) (par p) := by
  have hpl := par_lt h0
  have hp := (List.getElem?_eq_some_iff.mp hx).1
  have hq : par p < l.length := by omega
  have hat := fun k => swp_at (x := y) (y := x) hq hp (Nat.ne_of_lt hpl) k
  refine ⟨fun i a b hi0 hiq ha hb => ?_, fun i a b hi0 hq0 hpi ha hb => ?_⟩
  · rw [hat] at ha hb
    by_cases e1 : i = p
    · subst e1
      rw [if_pos rfl] at ha
      rw [if_neg (Nat.ne_of_lt hpl), if_pos rfl] at hb
      cases ha
      cases hb
      exact o.asym _ _ hxy
    · rw [if_neg e1, if_neg hiq] at ha
      by_cases e2 : par i = p
      · rw [if_pos e2] at hb
        cases hb
        exact h.near i a y hi0 h0 e2 ha hy
      · rw [if_neg e2] at hb
        by_cases e3 : par i = par p
        · rw [if_pos e3] at hb
          cases hb
          have h1 := h.far i a y hi0 e1 ha (by rw [e3]; exact hy)
          cases h2 : lt a x with
          | false => rfl
          | true =>
            have := o.trans h2 hxy
            rw [h1] at this
            cases this
        · rw [if_neg e3] at hb
          exact h.far i a b hi0 e1 ha hb
  · have hgq := par_lt hq0
    rw [hat] at ha hb
    rw [if_neg (by omega), if_neg (by omega)] at hb
    have hyb : lt y b = false := h.far (par p) y b hq0 (Nat.ne_of_lt hpl) hy hb
    by_cases e1 : i = p
    · rw [if_pos e1] at ha
      cases ha
      exact hyb
    · have hiq : i ≠ par p := by
        have := par_lt hi0
        omega
      rw [if_neg e1, if_neg hiq] at ha
      exact o.cot _ _ _ (h.far i a y hi0 e1 ha (by rw [hpi]; exact hy)) hyb
/-- no child: it may be as if less -/
theorem but_up {l : List α} {p : Nat} (h : But lt l p) (hp : ¬ p < l.length / 2) : Up lt l p := by
  refine ⟨fun i x y h0 hi hx hy => ?_, h.near⟩
  by_cases e : par i = p
  · have := (List.getElem?_eq_some_iff.mp hx).1
    unfold par at e
    omega
  · exact h.far i x y h0 hi e hx hy
/-- the child c, not greater than the other one, goes up -/
theorem but_step (o : Ord lt) {l : List α} {p c : Nat} {x y : α} (h : But lt l p) (hc0 : 0 < c) (hcp : par c = p) (hx : l[c]? = some x) (hy : l[p]? = some y) (hmin : ∀ (i : Nat) (z : α), 0 < i → par i = p → l[i]? = some z → lt z x = false) : But lt (swp l c p x y) c := by
  have hpc : p < c := by have := par_lt hc0; omega
  have hc := (List.getElem?_eq_some_iff.mp hx).1
  have hp : p < l.length := by omega
  have hat := fun k => swp_at (x := x) (y := y) hc hp (Nat.ne_of_gt hpc) k
  refine ⟨fun i a b hi0 hic hpi ha hb => ?_, fun i a b hi0 _ hpi ha hb => ?_⟩
  · rw [hat] at ha hb
    rw [if_neg hic] at ha
    rw [if_neg hpi] at hb
    by_cases e1 : i = p
    · subst e1
      rw [if_pos rfl] at ha
      have hpi0 := par_lt hi0
      rw [if_neg (Nat.ne_of_lt hpi0)] at hb
      cases ha
      exact h.near c x b hc0 hi0 hcp hx hb
    · rw [if_neg e1] at ha
      by_cases e2 : par i = p
      · rw [if_pos e2] at hb
        cases hb
        exact hmin i a hi0 e2 ha
      · rw [if_neg e2] at hb
        exact h.far i a b hi0 e1 e2 ha hb
  · rw [hat] at ha hb
    have hci : c < i := by have := par_lt hi0; omega
    rw [if_neg (by omega), if_neg (by omega)] at ha
    rw [hcp, if_pos rfl] at hb
    cases hb
    exact h.far i a x hi0 (by omega) (by omega) ha (by rw [hpi]; exact hx)
theorem but_of_heap {l : List α} (h : IsHeap lt l) (z : α) : But lt (l.set 0 z) 0 := by
  refine ⟨fun i x y h0 _ hp hx hy => ?_, fun i x y _ h0 => absurd h0 (Nat.lt_irrefl _)⟩
  rw [List.getElem?_set_ne (by omega)] at hx
  rw [List.getElem?_set_ne (fun e => hp e.symm)] at hy
  exact h i x y h0 hx hy
theorem up_of_heap {l : List α} (h : IsHeap lt l) (z : α) : Up lt (l ++ [z]) l.length := by
  refine ⟨fun i x y h0 hi hx hy => ?_, fun i x y h0 hp hpi hx hy => ?_⟩
  · have hl := (List.getElem?_eq_some_iff.mp hx).1
    rw [List.length_append, List.length_singleton] at hl
    have hil : i < l.length := by omega
    have hpl := par_lt h0
    rw [List.getElem?_append_left hil] at hx
    rw [List.getElem?_append_left (by omega)] at hy
    exact h i x y h0 hx hy
  · have hl := (List.getElem?_eq_some_iff.mp hx).1
    rw [List.length_append, List.length_singleton] at hl
    have := par_lt h0
    omega
theorem heap_dropLast {l : List α} (h : IsHeap lt l) : IsHeap lt l.dropLast := by
  intro i x y h0 hx hy
  rw [List.dropLast_eq_take, List.getElem?_take] at hx hy
  split at hx
  · split at hy
    · exact h i x y h0 hx hy
    · cases hy
  · cases hx
end Kp
/-! heappush and heappop of a list of tuples, by their data. -/
namespace Ka
open PySem PySem.Spec PyProof.Rows L2 PySem.W PySem.SeqAt
theorem plain_push : plainId "_heapq.heappush" = true := by decide +kernel
theorem plain_pop : plainId "_heapq.heappop" = true := by decide +kernel
theorem plain_sift : plainId "_heapq.heapify.sift" = true := by decide +kernel
theorem kind_push : builtinKind "_heapq.heappush" = none := by decide +kernel
theorem kind_pop : builtinKind "_heapq.heappop" = none := by decide +kernel
theorem entry_push : entryFor table "_heapq.heappush" = some Builtin.«_heapq.heappush» := entryFor_of_fast (by kernel_rfl)
theorem entry_pop : entryFor table "_heapq.heappop" = some Builtin.«_heapq.heappop» := entryFor_of_fast (by kernel_rfl)
theorem entry_sift : entryFor table "_heapq.heapify.sift" = some Builtin.«_heapq.heapify.sift» := entryFor_of_fast (by kernel_rfl)
theorem args_push (a b : Value) : argsOk "_heapq.heappush" ⟨[a, b], []⟩ := by unfold argsOk; kernel_rfl
theorem args_pop (a : Value) : argsOk "_heapq.heappop" ⟨[a], []⟩ := by unfold argsOk; kernel_rfl
theorem sub_list : isSubtype (.type "list") (.type "list") = pure true := by rw [isSubtype_type]; kernel_rfl
/-- an item with its data -/
abbrev HZ := V × PyData
def hzV (zs : List HZ) : List V := zs.map (·.1)
theorem hzV_len (zs : List HZ) : (hzV zs).length = zs.length := List.length_map _
def hzLt (a b : HZ) : Bool := dataLt a.2 b.2
/-- the data stands so long as the tuples stand -/
def DpS (K : PySem.W.Frag) (H : Hp) (z : HZ) : Prop := ∀ H' : Hp, (∀ b xs, H b = some (.tup xs) → H' b = some (.tup xs)) → Dp K H' z.1 z.2
structure HzOk (K : PySem.W.Frag) (H : Hp) (zs : List HZ) : Prop where
  st : ∀ z ∈ zs, DpS K H z
  al : ∀ z ∈ zs, ∀ y ∈ zs, alike z.2 y.2 = true
  nn : ∀ z ∈ zs, z.2 ≠ .none
  dep : ∀ z ∈ zs, z.2.depth ≤ 50
theorem HzOk.sub {K : PySem.W.Frag} {H : Hp} {zs ys : List HZ} (h : HzOk K H zs) (s : ∀ y ∈ ys, y ∈ zs) : HzOk K H ys :=
  ⟨fun z hz => h.st z (s z hz), fun z hz y hy => h.al z (s z hz) y (s y hy), fun z hz => h.nn z (s z hz), fun z hz => h.dep z (s z hz)⟩
theorem hz_at {zs : List HZ} {its : List Value} (r : Vals (hzV zs) its) {i : Nat} {z : HZ} (h : zs[i]? = some z) : ∃ u, its[i]? = some u ∧ RelV z.1 u := r.get (x := z.1) (by unfold hzV; rw [List.getElem?_map, h]; rfl)
theorem swp_vals {zs : List HZ} {its : List Value} (r : Vals (hzV zs) its) {i j : Nat} {x y : HZ} {u v : Value} (hu : RelV x.1 u) (hv : RelV y.1 v) : Vals (hzV (Kp.swp zs i j x y)) ((its.set i v).set j u) := by
  have := Vals.set hu j (Vals.set hv i r)
  unfold Kp.swp hzV
  rw [List.map_set, List.map_set]
  exact this
section
variable {X : Cx} {pins : List (Addr × Obj)} {σ : L2.St} {H : Hp} {a : Addr} {xs0 : List V}
/-- the heap with the list at a -/
abbrev HL (H : Hp) (a : Addr) (zs : List HZ) : Hp := upd H a (.lst (hzV zs))
theorem HL.lst (zs : List HZ) : HL H a zs a = some (.lst (hzV zs)) := upd_same
theorem hl_tup (ha : H a = some (.lst xs0)) (zs : List HZ) : ∀ b xs, H b = some (.tup xs) → HL H a zs b = some (.tup xs) := fun b xs e => by
  show upd H a _ b = _
  rw [upd_ne (fun q => by rw [q, ha] at e; cases e)]
  exact e
/-- two items compared, at any state on the way -/
theorem hz_less (hu : X.A.units + 64 < cLine) (ha : H a = some (.lst xs0)) {ys zs : List HZ} (ok : HzOk X.K H ys) {s : Shared} (I : Inv X pins σ (HL H a zs) s) {x y : HZ} (hx : x ∈ ys) (hy : y ∈ ys) {u v : Value} (ru : RelV x.1 u) (rv : RelV y.1 v) : RcLt X.A.in1 s u v (hzLt x y) := by
  obtain ⟨as, r1⟩ := Dp.reads I x.2 x.1 u (ok.st x hx _ (hl_tup ha zs)) ru
  obtain ⟨bs, r2⟩ := Dp.reads I y.2 y.1 v (ok.st y hy _ (hl_tup ha zs)) rv
  refine rcLt_alike _ _ _ s u v _ _ r1 r2 (ok.al x hx y hy) (ok.nn x hx) ?_
  have h1 := ok.dep x hx
  have h2 : X.A.in1.units = X.A.units + 1 := rfl
  have := Nat.min_le_left x.2.depth y.2.depth
  omega
theorem hl_obj {zs : List HZ} {s : Shared} (I : Inv X pins σ (HL H a zs) s) : ∃ (its : List Value) (n : Nat), Vals (hzV zs) its ∧ s.heap.get? a = some { cls := .type "list", data := .seq its.toArray n } ∧ (hzV zs).length ≤ sizeLine := I.lst HL.lst'
  where HL.lst' : HL H a zs a = some (.lst (hzV zs)) := upd_same
theorem hl_upd {zs zs' : List HZ} {s : Shared} {its its' : List Value} {n n' : Nat} {f : Obj → Obj} (I : Inv X pins σ (HL H a zs) s) (ho : s.heap.get? a = some { cls := .type "list", data := .seq its.toArray n })
    (hf : f { cls := .type "list", data := .seq its.toArray n } = { cls := .type "list", data := .seq its'.toArray n' }) (r : Vals (hzV zs') its') (hz : (hzV zs').length ≤ sizeLine) : Inv X pins σ (HL H a zs') { s with heap := s.heap.update a f } := by
  have := I.lstUpd (p := a) upd_same ho hf r hz s.toks
  rw [upd_upd] at this
  exact this
theorem hl_set {zs zs' : List HZ} {s : Shared} {its its' : List Value} {n : Nat} {f : Array Value → Array Value} (I : Inv X pins σ (HL H a zs) s) (ho : s.heap.get? a = some { cls := .type "list", data := .seq its.toArray n })
    (hf : f its.toArray = its'.toArray) (r : Vals (hzV zs') its') (hz : (hzV zs').length ≤ sizeLine) : Inv X pins σ (HL H a zs') { s with heap := s.heap.update a (Obj.mapSeq f) } := by
  have := I.lset (l := a) (t' := s.toks) upd_same ho hf r hz
  rw [upd_upd] at this
  exact this
/-- up -/
theorem sift_up (o : Kp.Ord hzLt) (hu : X.A.units + 64 < cLine) (ha : H a = some (.lst xs0)) {ys : List HZ} (ok : HzOk X.K H ys) {result : Value} {R : Result → Shared → Prop} : ∀ (n pos : Nat) (zs : List HZ) (s : Shared), pos ≤ n → pos < zs.length → zs.Perm ys → Inv X pins σ (HL H a zs) s → Kp.Up hzLt zs pos →
    (∀ (zs' : List HZ) (s' : Shared), zs'.Perm ys → Kp.IsHeap hzLt zs' → Inv X pins σ (HL H a zs') s' → R (.ok (.ret result)) s') →
    codeAny (model X.prog X.w) X.A (.builtin "_heapq.heapify.sift" ⟨[.ref a, .bool false, .bool false, rawInt pos, rawInt 0, result, rawInt (-1)], []⟩) R s := by
  intro n
  induction n with
  | zero =>
    intro pos zs s hpn hpl hp I hup hR
    obtain rfl : pos = 0 := by omega
    obtain ⟨its, m, rv, hob, hz⟩ := hl_obj I
    refine codeAny_builtin entry_sift ?_
    rw [Around.under_plainId plain_sift _]
    show wpAny _ X.A.in1 ((seqItems? (.ref a) >>= _) >>= _) _ _ s
    refine wpAny_bind (wpAny_bind (wpAny_seqItems hob rfl ?_))
    refine wpAny_pure ?_
    show wpAny _ X.A.in1 (ret result) _ _ s
    refine wpAny_pure ?_
    exact hR zs s hp (Kp.up_done zs hup (.inl rfl)) I
  | succ n ih =>
    intro pos zs s hpn hpl hp I hup hR
    obtain ⟨its, m, rv, hob, hz⟩ := hl_obj I
    have hlen : its.length = zs.length := by rw [← rv.length, hzV_len]
    refine codeAny_builtin entry_sift ?_
    rw [Around.under_plainId plain_sift _]
    show wpAny _ X.A.in1 ((seqItems? (.ref a) >>= _) >>= _) _ _ s
    refine wpAny_bind (wpAny_bind (wpAny_seqItems hob rfl ?_))
    refine wpAny_pure ?_
    by_cases h0 : pos = 0
    · subst h0
      show wpAny _ X.A.in1 (ret result) _ _ s
      refine wpAny_pure ?_
      exact hR zs s hp (Kp.up_done zs hup (.inl rfl)) I
    · have hq : Kp.par pos < pos := Kp.par_lt (by omega)
      have hx : zs[pos]? = some zs[pos] := List.getElem?_eq_getElem hpl
      have hy : zs[Kp.par pos]? = some (zs[Kp.par pos]'(by omega)) := List.getElem?_eq_getElem (by omega)
      generalize zs[pos] = x at hx
      generalize zs[Kp.par pos]'(by omega) = y at hy
      obtain ⟨u, hu1, ru⟩ := hz_at rv hx
      obtain ⟨v, hv1, rv1⟩ := hz_at rv hy
      have hxm : x ∈ ys := hp.subset (List.mem_of_getElem? hx)
      have hym : y ∈ ys := hp.subset (List.mem_of_getElem? hy)
      show wpAny _ X.A.in1 (if pos > 0 then _ else _) _ _ s
      rw [if_pos (by omega)]
      have e1 : its.toArray[pos]? = some u := by simpa using hu1
      have e2 : its.toArray[(pos - 1) / 2]? = some v := by
        show its.toArray[Kp.par pos]? = some v
        simpa using hv1
      refine wpAny_bind (wpAny_of_eq (a := u) (by show (match its.toArray[pos]? with | some v => (pure v : Sem Value) | none => unsupported _) = _; rw [e1]) ?_)
      refine wpAny_bind (wpAny_of_eq (a := v) (by show (match its.toArray[(pos - 1) / 2]? with | some v => (pure v : Sem Value) | none => unsupported _) = _; rw [e2]) ?_)
      show wpAny _ X.A.in1 ((holding [u, v] (richCompare .Lt u v >>= _) >>= _) >>= _) _ _ s
      refine wpAny_bind (wpAny_bind (wpAny_holding (wpAny_bind (hz_less hu ha ok I hxm hym ru rv1 _ _ _ _ ?_))))
      refine wpAny_truthy_bool ?_
      show wpAny _ X.A.in1 ((seqItems? (.ref a) >>= _) >>= _) _ _ s
      refine wpAny_bind (wpAny_bind (wpAny_seqItems hob rfl ?_))
      refine wpAny_pure ?_
      show wpAny _ X.A.in1 (if (its.toArray.size != its.toArray.size) = true then _ else pure (hzLt x y)) _ _ s
      rw [if_neg (by simp)]
      refine wpAny_pure ?_
      cases hxy : hzLt x y with
      | false =>
        show wpAny _ X.A.in1 (ret result) _ _ s
        refine wpAny_pure ?_
        exact hR zs s hp (Kp.up_done zs hup (.inr fun x' y' hx' hy' => by
          rw [hx] at hx'
          rw [hy] at hy'
          cases hx'
          cases hy'
          exact hxy)) I
      | true =>
        show wpAny _ X.A.in1 (((seqItems? (.ref a) >>= _) >>= _) >>= _) _ _ s
        refine wpAny_bind (wpAny_bind (wpAny_bind (wpAny_seqItems hob rfl ?_)))
        refine wpAny_pure ?_
        refine wpAny_bind (wpAny_of_eq (a := v) (by show (match its.toArray[(pos - 1) / 2]? with | some v => (pure v : Sem Value) | none => unsupported _) = _; rw [e2]) ?_)
        refine wpAny_bind (wpAny_of_eq (a := u) (by show (match its.toArray[pos]? with | some v => (pure v : Sem Value) | none => unsupported _) = _; rw [e1]) ?_)
        refine wpAny_updateSeq hob rfl ?_ (by rw [List.size_toArray, hlen, ← hzV_len]; exact hz) (by rw [Array.size_setIfInBounds, Array.size_setIfInBounds, List.size_toArray, hlen, ← hzV_len]; omega)
        refine wpAny_pure ⟨plainId_quiet plain_sift _, ih (Kp.par pos) (Kp.swp zs (Kp.par pos) pos y x) _ (by omega) (by rw [Kp.swp_len]; omega) ((Kp.swp_perm hy hx).trans hp) ?_ (Kp.up_step o hup (by omega) hx hy hxy) hR⟩
        exact hl_upd (its' := (its.set ((pos - 1) / 2) u).set pos v) (n' := m) I hob (by simp [Obj.mapSeq]) (swp_vals rv rv1 ru) (by rw [hzV_len, Kp.swp_len, ← hzV_len]; exact hz)
theorem par_l (p : Nat) : Kp.par (2 * p + 1) = p := by unfold Kp.par; omega
theorem par_r (p : Nat) : Kp.par (2 * p + 1 + 1) = p := by unfold Kp.par; omega
theorem par_two {i p : Nat} (h0 : 0 < i) (h : Kp.par i = p) : i = 2 * p + 1 ∨ i = 2 * p + 1 + 1 := by unfold Kp.par at h; omega
/-- down -/
theorem sift_down (o : Kp.Ord hzLt) (hu : X.A.units + 64 < cLine) (ha : H a = some (.lst xs0)) {ys : List HZ} (ok : HzOk X.K H ys) {result : Value} {R : Result → Shared → Prop} : ∀ (n pos : Nat) (zs : List HZ) (s : Shared), zs.length ≤ pos + n → pos < zs.length → zs.Perm ys → Inv X pins σ (HL H a zs) s → Kp.But hzLt zs pos →
    (∀ (zs' : List HZ) (s' : Shared), zs'.Perm ys → Kp.IsHeap hzLt zs' → Inv X pins σ (HL H a zs') s' → R (.ok (.ret result)) s') →
    codeAny (model X.prog X.w) X.A (.builtin "_heapq.heapify.sift" ⟨[.ref a, .bool false, .bool true, rawInt pos, rawInt 0, result, rawInt (-1)], []⟩) R s := by
  intro n
  induction n with
  | zero =>
    intro pos zs s hpn hpl
    omega
  | succ n ih =>
    intro pos zs s hpn hpl hp I hbut hR
    obtain ⟨its, m, rv, hob, hz⟩ := hl_obj I
    have hlen : its.length = zs.length := by rw [← rv.length, hzV_len]
    have hsz : its.toArray.size = zs.length := by rw [List.size_toArray, hlen]
    refine codeAny_builtin entry_sift ?_
    rw [Around.under_plainId plain_sift _]
    show wpAny _ X.A.in1 ((seqItems? (.ref a) >>= _) >>= _) _ _ s
    refine wpAny_bind (wpAny_bind (wpAny_seqItems hob rfl ?_))
    refine wpAny_pure ?_
    show wpAny _ X.A.in1 (if pos < its.toArray.size / 2 then _ else _) _ _ s
    by_cases hh : pos < zs.length / 2
    · rw [if_pos (by rw [hsz]; exact hh)]
      have hll : 2 * pos + 1 < zs.length := by omega
      have hyp : zs[pos]? = some zs[pos] := List.getElem?_eq_getElem hpl
      generalize zs[pos] = y at hyp
      obtain ⟨v, hv1, rvy⟩ := hz_at rv hyp
      have ey : its.toArray[pos]? = some v := by simpa using hv1
      -- the swap, once the child is known
      have swap : ∀ (c : Nat) (x : HZ) (jp : Unit → Nat → Sem Fin), 0 < c → Kp.par c = pos → zs[c]? = some x → (∀ (i : Nat) (z : HZ), 0 < i → Kp.par i = pos → zs[i]? = some z → hzLt z x = false) →
          ∀ (u : Value), its.toArray[c]? = some u → RelV x.1 u →
          ∃ s' : Shared, s' = { s with heap := s.heap.update a (Obj.mapSeq fun xs => (xs.setIfInBounds c v).setIfInBounds pos u) } ∧ Inv X pins σ (HL H a (Kp.swp zs c pos x y)) s' ∧
            codeAny (model X.prog X.w) X.A (.builtin "_heapq.heapify.sift" ⟨[.ref a, .bool false, .bool true, rawInt c, rawInt 0, result, rawInt (-1)], []⟩) R s' := by
        intro c x _ hc0 hcp hxc hmin u hu1 ru
        have hcl := (List.getElem?_eq_some_iff.mp hxc).1
        have hlt : pos < c := by have := Kp.par_lt hc0; omega
        have I' : Inv X pins σ (HL H a (Kp.swp zs c pos x y)) { s with heap := s.heap.update a (Obj.mapSeq fun xs => (xs.setIfInBounds c v).setIfInBounds pos u) } :=
          hl_upd (its' := (its.set c v).set pos u) (n' := m) I hob (by simp [Obj.mapSeq]) (swp_vals rv ru rvy) (by rw [hzV_len, Kp.swp_len, ← hzV_len]; exact hz)
        exact ⟨_, rfl, I', ih c _ _ (by rw [Kp.swp_len]; omega) (by rw [Kp.swp_len]; exact hcl) ((Kp.swp_perm hxc hyp).trans hp) I' (Kp.but_step o hbut hc0 hcp hxc hyp hmin) hR⟩
      have hxl : zs[2 * pos + 1]? = some zs[2 * pos + 1] := List.getElem?_eq_getElem hll
      generalize zs[2 * pos + 1] = xl at hxl
      obtain ⟨ul, hul, rul⟩ := hz_at rv hxl
      have el : its.toArray[2 * pos + 1]? = some ul := by simpa using hul
      show wpAny _ X.A.in1 (if 2 * pos + 1 + 1 < its.toArray.size then _ else _) _ _ s
      by_cases hr : 2 * pos + 1 + 1 < zs.length
      · rw [if_pos (by rw [hsz]; exact hr)]
        have hxr : zs[2 * pos + 1 + 1]? = some zs[2 * pos + 1 + 1] := List.getElem?_eq_getElem hr
        generalize zs[2 * pos + 1 + 1] = xr at hxr
        obtain ⟨ur, hur, rur⟩ := hz_at rv hxr
        have er : its.toArray[2 * pos + 1 + 1]? = some ur := by simpa using hur
        have hlm : xl ∈ ys := hp.subset (List.mem_of_getElem? hxl)
        have hrm : xr ∈ ys := hp.subset (List.mem_of_getElem? hxr)
        refine wpAny_bind (wpAny_of_eq (a := ul) (by show (match its.toArray[2 * pos + 1]? with | some v => (pure v : Sem Value) | none => unsupported _) = _; rw [el]) ?_)
        refine wpAny_bind (wpAny_of_eq (a := ur) (by show (match its.toArray[2 * pos + 1 + 1]? with | some v => (pure v : Sem Value) | none => unsupported _) = _; rw [er]) ?_)
        show wpAny _ X.A.in1 ((holding [ul, ur] (richCompare .Lt ul ur >>= _) >>= _) >>= _) _ _ s
        refine wpAny_bind (wpAny_bind (wpAny_holding (wpAny_bind (hz_less hu ha ok I hlm hrm rul rur _ _ _ _ ?_))))
        refine wpAny_truthy_bool ?_
        show wpAny _ X.A.in1 ((seqItems? (.ref a) >>= _) >>= _) _ _ s
        refine wpAny_bind (wpAny_bind (wpAny_seqItems hob rfl ?_))
        refine wpAny_pure ?_
        show wpAny _ X.A.in1 (if (its.toArray.size != its.toArray.size) = true then _ else pure (hzLt xl xr)) _ _ s
        rw [if_neg (by simp)]
        refine wpAny_pure ?_
        cases hlr : hzLt xl xr with
        | true =>
          obtain ⟨s', rfl, I', hC⟩ := swap (2 * pos + 1) xl (fun _ _ => ret result) (by omega) (par_l pos) hxl (fun i z hi0 hip hz' => by
            rcases par_two hi0 hip with rfl | rfl
            · rw [hxl] at hz'
              cases hz'
              exact o.irr _
            · rw [hxr] at hz'
              cases hz'
              exact o.asym _ _ hlr) ul el rul
          show wpAny _ X.A.in1 (((seqItems? (.ref a) >>= _) >>= _) >>= _) _ _ s
          refine wpAny_bind (wpAny_bind (wpAny_bind (wpAny_seqItems hob rfl ?_)))
          refine wpAny_pure ?_
          refine wpAny_bind (wpAny_of_eq (a := ul) (by show (match its.toArray[2 * pos + 1]? with | some v => (pure v : Sem Value) | none => unsupported _) = _; rw [el]) ?_)
          refine wpAny_bind (wpAny_of_eq (a := v) (by show (match its.toArray[pos]? with | some v => (pure v : Sem Value) | none => unsupported _) = _; rw [ey]) ?_)
          refine wpAny_updateSeq hob rfl ?_ (by rw [List.size_toArray, hlen, ← hzV_len]; exact hz) (by rw [Array.size_setIfInBounds, Array.size_setIfInBounds, List.size_toArray, hlen, ← hzV_len]; omega)
          exact wpAny_pure ⟨plainId_quiet plain_sift _, hC⟩
        | false =>
          obtain ⟨s', rfl, I', hC⟩ := swap (2 * pos + 1 + 1) xr (fun _ _ => ret result) (by omega) (par_r pos) hxr (fun i z hi0 hip hz' => by
            rcases par_two hi0 hip with rfl | rfl
            · rw [hxl] at hz'
              cases hz'
              exact hlr
            · rw [hxr] at hz'
              cases hz'
              exact o.irr _) ur er rur
          show wpAny _ X.A.in1 (((seqItems? (.ref a) >>= _) >>= _) >>= _) _ _ s
          refine wpAny_bind (wpAny_bind (wpAny_bind (wpAny_seqItems hob rfl ?_)))
          refine wpAny_pure ?_
          refine wpAny_bind (wpAny_of_eq (a := ur) (by show (match its.toArray[2 * pos + 1 + 1]? with | some v => (pure v : Sem Value) | none => unsupported _) = _; rw [er]) ?_)
          refine wpAny_bind (wpAny_of_eq (a := v) (by show (match its.toArray[pos]? with | some v => (pure v : Sem Value) | none => unsupported _) = _; rw [ey]) ?_)
          refine wpAny_updateSeq hob rfl ?_ (by rw [List.size_toArray, hlen, ← hzV_len]; exact hz) (by rw [Array.size_setIfInBounds, Array.size_setIfInBounds, List.size_toArray, hlen, ← hzV_len]; omega)
          exact wpAny_pure ⟨plainId_quiet plain_sift _, hC⟩
      · rw [if_neg (by rw [hsz]; exact hr)]
        obtain ⟨s', rfl, I', hC⟩ := swap (2 * pos + 1) xl (fun _ _ => ret result) (by omega) (par_l pos) hxl (fun i z hi0 hip hz' => by
          rcases par_two hi0 hip with rfl | rfl
          · rw [hxl] at hz'
            cases hz'
            exact o.irr _
          · have := (List.getElem?_eq_some_iff.mp hz').1
            omega) ul el rul
        show wpAny _ X.A.in1 (((seqItems? (.ref a) >>= _) >>= _) >>= _) _ _ s
        refine wpAny_bind (wpAny_bind (wpAny_bind (wpAny_seqItems hob rfl ?_)))
        refine wpAny_pure ?_
        refine wpAny_bind (wpAny_of_eq (a := ul) (by show (match its.toArray[2 * pos + 1]? with | some v => (pure v : Sem Value) | none => unsupported _) = _; rw [el]) ?_)
        refine wpAny_bind (wpAny_of_eq (a := v) (by show (match its.toArray[pos]? with | some v => (pure v : Sem Value) | none => unsupported _) = _; rw [ey]) ?_)
        refine wpAny_updateSeq hob rfl ?_ (by rw [List.size_toArray, hlen, ← hzV_len]; exact hz) (by rw [Array.size_setIfInBounds, Array.size_setIfInBounds, List.size_toArray, hlen, ← hzV_len]; omega)
        exact wpAny_pure ⟨plainId_quiet plain_sift _, hC⟩
    · rw [if_neg (by rw [hsz]; exact hh)]
      show wpAny _ X.A.in1 (again _) _ _ s
      refine wpAny_pure ⟨plainId_quiet plain_sift _, sift_up o hu ha ok pos pos zs s (Nat.le_refl _) hpl hp I (Kp.but_up hbut hh) hR⟩
theorem hz_ord : Kp.Ord hzLt where
  asym := fun a b h => by
    unfold hzLt dataLt at *
    cases h2 : PyProof.Rows.lexLt itemOrd (keyToks b.2) (keyToks a.2) with
    | false => rfl
    | true =>
      have := lex_trans _ _ _ h h2
      rw [lex_irrefl] at this
      cases this
  cot := fun a b c h1 h2 => by
    unfold hzLt dataLt at *
    cases h3 : PyProof.Rows.lexLt itemOrd (keyToks a.2) (keyToks c.2) with
    | false => rfl
    | true =>
      rcases lex_negTrans _ (keyToks b.2) _ h3 with z | z
      · rw [h1] at z
        cases z
      · rw [h2] at z
        cases z
/-- heappush(l, x) -/
def rPush (K : PySem.W.Frag) : List V → Hp → VK → Prop := fun vs H Q => ∃ (a : Addr) (z : HZ) (zs : List HZ), vs = [.ref a, z.1] ∧ H a = some (.lst (hzV zs)) ∧ HzOk K H (zs ++ [z]) ∧ zs.length < 1000000 ∧ Kp.IsHeap hzLt zs ∧
  ∀ ys, ys.Perm (zs ++ [z]) → Kp.IsHeap hzLt ys → Q .non (upd H a (.lst (hzV ys)))
theorem cr_push (hu : X.A.units + 64 < cLine) : CallR X (.builtin "_heapq.heappush") (rPush X.K) := by
  intro pins s σ H vs us Q I r h
  obtain ⟨a, z, zs, rfl, ha, ok, hlen, hh, q⟩ := h
  obtain ⟨u1, u, rfl, r1, ru⟩ := vals2 r
  cases (show u1 = Value.ref a from r1)
  have h0 : upd H a (.lst (hzV zs)) = H := by
    funext b
    by_cases e : b = a
    · rw [e, upd_same, ha]
    · rw [upd_ne e]
  have I0 : Inv X pins σ (HL H a zs) s := by
    show Inv X pins σ (upd H a (.lst (hzV zs))) s
    rw [h0]
    exact I
  obtain ⟨its, m, rv, hob, hz⟩ := hl_obj I0
  have hil : its.length = zs.length := by rw [← rv.length, hzV_len]
  refine call_function_tree kind_push plain_push entry_push (args_push _ _) ?_
  show wpAny _ X.A.in1 ((noKeywords "_heapq.heappush" ⟨[.ref a, u], []⟩ >>= _) >>= _) _ _ s
  refine wpAny_bind (wpAny_bind (wpAny_of_eq (show noKeywords "_heapq.heappush" ⟨[.ref a, u], []⟩ = pure () from rfl) ?_))
  refine wpAny_bind (wpAny_of_eq (show checkCount "heappush" 2 2 ([.ref a, u] : List Value).length = pure () from rfl) ?_)
  show wpAny _ X.A.in1 ((isInstance (.ref a) (.type "list") >>= _) >>= _) _ _ s
  refine wpAny_bind (wpAny_bind (wpAny_isInstance (T := "list") (b := true) ⟨_, hob, rfl⟩ sub_list ?_))
  show wpAny _ X.A.in1 (pure a) _ _ s
  refine wpAny_pure (wpAny_pure ?_)
  show wpAny _ X.A.in1 (updateSeq a (·.push u) >>= _) _ _ s
  refine wpAny_bind (wpAny_updateSeq hob rfl ?_ (by rw [List.size_toArray, hil, ← hzV_len]; exact hz) (by rw [Array.size_push, List.size_toArray, hil, ← hzV_len]; omega))
  have l6 : zs.length + 1 ≤ sizeLine := by rw [sizeLine_eq]; omega
  have I1 : Inv X pins σ (HL H a (zs ++ [z])) { s with heap := s.heap.update a (Obj.mapSeq (·.push u)) } :=
    hl_set (its' := its ++ [u]) I0 hob (by simp) (by unfold hzV; rw [List.map_append]; exact rv.append (.cons ru .nil)) (by rw [hzV_len, List.length_append, List.length_singleton]; exact l6)
  obtain ⟨its1, m1, rv1, hob1, hz1⟩ := hl_obj I1
  have hil1 : its1.length = zs.length + 1 := by rw [← rv1.length, hzV_len, List.length_append, List.length_singleton]
  show wpAny _ X.A.in1 (((seqItems? (.ref a) >>= _) >>= _)) _ _ _
  refine wpAny_bind (wpAny_bind (wpAny_seqItems hob1 rfl ?_))
  refine wpAny_pure ?_
  show wpAny _ X.A.in1 (again (.builtin "_heapq.heapify.sift" ⟨[.ref a, .bool false, .bool false, rawInt ((its1.toArray.size - 1 : Nat)), rawInt ((0 : Nat)), .none, rawInt (-1)], []⟩)) _ _ _
  have hsz1 : its1.toArray.size - 1 = zs.length := by
    rw [List.size_toArray, hil1]
    omega
  rw [hsz1]
  refine wpAny_pure ⟨plainId_quiet plain_sift _, sift_up hz_ord hu ha ok zs.length zs.length (zs ++ [z]) _ (Nat.le_refl _) (by rw [List.length_append, List.length_singleton]; omega) (List.Perm.refl _) I1 (Kp.up_of_heap hh z) fun ys s' hp hh' I' => ?_⟩
  exact ⟨.non, _, I', rfl, q ys hp hh'⟩
/-- heappop(l), l not empty -/
def rPop (K : PySem.W.Frag) : List V → Hp → VK → Prop := fun vs H Q => ∃ (a : Addr) (zs : List HZ), vs = [.ref a] ∧ H a = some (.lst (hzV zs)) ∧ HzOk K H zs ∧ 0 < zs.length ∧ Kp.IsHeap hzLt zs ∧
  ∀ (z : HZ) (ys : List HZ), zs.Perm (z :: ys) → Kp.IsHeap hzLt ys → (∀ y ∈ ys, hzLt y z = false) → Q z.1 (upd H a (.lst (hzV ys)))
theorem cr_pop (hu : X.A.units + 64 < cLine) : CallR X (.builtin "_heapq.heappop") (rPop X.K) := by
  intro pins s σ H vs us Q I r h
  obtain ⟨a, zs, rfl, ha, ok, hpos, hh, q⟩ := h
  rw [Vals.ref1 r]
  have h0 : upd H a (.lst (hzV zs)) = H := by
    funext b
    by_cases e : b = a
    · rw [e, upd_same, ha]
    · rw [upd_ne e]
  have I0 : Inv X pins σ (HL H a zs) s := by
    show Inv X pins σ (upd H a (.lst (hzV zs))) s
    rw [h0]
    exact I
  obtain ⟨its, m, rv, hob, hz⟩ := hl_obj I0
  have hil : its.length = zs.length := by rw [← rv.length, hzV_len]
  have hxl : zs[zs.length - 1]? = some (zs[zs.length - 1]'(by omega)) := List.getElem?_eq_getElem (by omega)
  generalize zs[zs.length - 1]'(by omega) = zl at hxl
  obtain ⟨ul, hul, rul⟩ := hz_at rv hxl
  have hx0 : zs[0]? = some (zs[0]'hpos) := List.getElem?_eq_getElem hpos
  generalize zs[0]'hpos = z0 at hx0
  obtain ⟨u0, hu0, ru0⟩ := hz_at rv hx0
  have hback : its.toArray.back? = some ul := by
    rw [Array.back?_eq_getElem?]
    simp only [List.size_toArray, List.getElem?_toArray]
    rw [hil]
    exact hul
  have hroot := Kp.root_least hz_ord hh hx0
  refine call_function_tree kind_pop plain_pop entry_pop (args_pop _) ?_
  show wpAny _ X.A.in1 ((oneArg "_heapq.heappop" ⟨[.ref a], []⟩ >>= _) >>= _) _ _ s
  refine wpAny_bind (wpAny_bind (wpAny_of_eq (show oneArg "_heapq.heappop" ⟨[.ref a], []⟩ = pure (.ref a) from rfl) ?_))
  show wpAny _ X.A.in1 ((isInstance (.ref a) (.type "list") >>= _) >>= _) _ _ s
  refine wpAny_bind (wpAny_bind (wpAny_isInstance (T := "list") (b := true) ⟨_, hob, rfl⟩ sub_list ?_))
  show wpAny _ X.A.in1 (pure a) _ _ s
  refine wpAny_pure (wpAny_pure ?_)
  show wpAny _ X.A.in1 ((seqItems? (.ref a) >>= _) >>= _) _ _ s
  refine wpAny_bind (wpAny_bind (wpAny_seqItems hob rfl ?_))
  refine wpAny_pure ?_
  simp only [hback]
  have hlz : (hzV zs).length = zs.length := hzV_len zs
  refine wpAny_bind (wpAny_updateSeq hob rfl ?_ (by rw [List.size_toArray, hil, ← hzV_len]; exact hz) (by rw [Array.size_pop, List.size_toArray, hil]; omega))
  have I1 : Inv X pins σ (HL H a zs.dropLast) { s with heap := s.heap.update a (Obj.mapSeq (·.pop)) } :=
    hl_set (its' := its.dropLast) I0 hob (by simp) (by unfold hzV; rw [List.map_dropLast, List.dropLast_eq_take, List.dropLast_eq_take, List.length_map, hil]; exact rv.take _) (by rw [hzV_len, List.length_dropLast]; omega)
  obtain ⟨its1, m1, rv1, hob1, hz1⟩ := hl_obj I1
  by_cases h1 : zs.length = 1
  · rw [if_pos (by rw [List.size_toArray, hil, h1]; rfl)]
    match zs, h1, hxl, q, I1 with
    | [z], _, hxl, q, I1 =>
      cases hxl
      refine wpAny_pure ⟨zl.1, _, I1, rul, ?_⟩
      exact q zl [] (List.Perm.refl _) Kp.heap_nil fun y hy => nomatch hy
  · rw [if_neg (by rw [List.size_toArray, hil]; simpa using h1)]
    obtain ⟨mid, hmid⟩ : ∃ mid, zs = z0 :: (mid ++ [zl]) := by
      match zs, h1, hx0, hxl with
      | [], _, hx0, _ => cases hx0
      | x :: rest, h1, hx0, hxl =>
        cases hx0
        have hr : rest ≠ [] := fun e => h1 (by rw [e]; rfl)
        refine ⟨rest.dropLast, ?_⟩
        have hg : rest.getLast hr = zl := by
          have : (z0 :: rest)[(z0 :: rest).length - 1]? = some (rest.getLast hr) := by
            rw [List.length_cons, Nat.add_sub_cancel]
            cases rest with
            | nil => exact absurd rfl hr
            | cons y t =>
              rw [List.length_cons, List.getElem?_cons_succ, List.getLast_eq_getElem]
              simp
          rw [hxl] at this
          exact (Option.some.inj this).symm
        rw [← hg, List.dropLast_concat_getLast]
    have e0 : its.toArray[0]? = some u0 := by simpa using hu0
    refine wpAny_bind (wpAny_of_eq (a := u0) (by show (match its.toArray[0]? with | some v => (pure v : Sem Value) | none => unsupported _) = _; rw [e0]) ?_)
    have hil1 : its1.length = zs.dropLast.length := by rw [← rv1.length, hzV_len]
    refine wpAny_bind (wpAny_updateSeq hob1 rfl ?_ (by rw [List.size_toArray, hil1, ← hzV_len]; exact hz1) (by rw [Array.size_setIfInBounds, List.size_toArray, hil1, ← hzV_len]; omega))
    have hdl : zs.dropLast = z0 :: mid := by
      rw [hmid, ← List.cons_append, List.dropLast_concat]
    have hset : zs.dropLast.set 0 zl = zl :: mid := by rw [hdl]; rfl
    have hperm : (zl :: mid).Perm (zl :: mid) := List.Perm.refl _
    have hsub : ∀ y ∈ zl :: mid, y ∈ zs := fun y hy => by
      rw [hmid]
      rcases List.mem_cons.mp hy with e | e
      · rw [e]
        exact List.mem_cons_of_mem _ (List.mem_append_right _ List.mem_cons_self)
      · exact List.mem_cons_of_mem _ (List.mem_append_left _ e)
    have I2 := hl_set (zs' := zl :: mid) (its' := its1.set 0 ul) (f := fun xs => xs.setIfInBounds 0 ul) I1 hob1 (by simp) (by rw [← hset]; unfold hzV; rw [List.map_set]; exact Vals.set rul 0 rv1) (by rw [hzV_len, ← hset, List.length_set, ← hzV_len]; exact hz1)
    have hbut : Kp.But hzLt (zl :: mid) 0 := by
      rw [← hset]
      exact Kp.but_of_heap (Kp.heap_dropLast hh) zl
    refine wpAny_pure ⟨plainId_quiet plain_sift _, sift_down hz_ord hu ha (ok.sub hsub) (zl :: mid).length 0 (zl :: mid) _ (by omega) (Nat.succ_pos _) hperm I2 hbut fun ys s' hp hh' I' => ?_⟩
    refine ⟨z0.1, _, I', ru0, q z0 ys ?_ hh' fun y hy => ?_⟩
    · rw [hmid]
      refine List.Perm.cons _ ?_
      exact (List.perm_append_comm (l₁ := mid) (l₂ := [zl])).trans hp.symm
    · obtain ⟨i, hi⟩ := List.mem_iff_getElem?.mp (hsub y (hp.subset hy))
      exact hroot i y hi
end
end Ka
/-! sorted(l) of a list of tuples by their data; sorted(d) of a dict whose keys are tuples. -/
namespace Ka
open PySem PySem.Spec PyProof.Rows L2 PySem.W PySem.SeqAt
def hzLe (a b : HZ) : Bool := !hzLt b a
theorem hz_each : ∀ {zs : List HZ} {us : List Value}, Vals (hzV zs) us → EachIs (fun v (b : HZ) => RelV b.1 v) us zs
  | [], _, r => by
    cases r
    exact .nil
  | x :: zs, _, r => by
    cases r with
    | cons a b => exact .cons a (hz_each b)
theorem each_hz : ∀ {zs : List HZ} {us : List Value}, EachIs (fun v (b : HZ) => RelV b.1 v) us zs → Vals (hzV zs) us
  | _, _, .nil => .nil
  | _, _, .cons h t => .cons h (each_hz t)
def rSortG (K : PySem.W.Frag) : List V → Hp → VK → Prop := fun vs H Q => ∃ (a : Addr) (zs : List HZ), vs = [V.ref a] ∧ SqL K H a (hzV zs) ∧ (∀ z ∈ zs, Dp K H z.1 z.2) ∧ (∀ z ∈ zs, ∀ y ∈ zs, alike z.2 y.2 = true) ∧ (∀ z ∈ zs, ∃ x r, z.2 = .tuple (x :: r)) ∧ (∀ z ∈ zs, z.2.depth ≤ 50) ∧
  ∀ p, H p = none → Q (.ref p) (upd H p (.lst (hzV (zs.mergeSort hzLe))))
theorem cr_sortG {X : Cx} (hu : X.A.units + 64 < cLine) : CallR X (.builtin "sorted") (rSortG X.K) := by
  intro pins s σ H vs us Q I r h
  obtain ⟨a, zs, rfl, hs, hr, hal, ht, hdep, q⟩ := h
  obtain ⟨its, rv, hl, hz⟩ := I.list hs
  rw [Vals.ref1 r]
  rw [hzV_len] at hz
  have e := hz_each rv
  have er : EachIs (fun v (b : HZ) => ∃ as, Reads s.heap v b.2 as) its zs := (each_mem e).mono fun v b ⟨ev, hm⟩ => Dp.reads I b.2 b.1 v (hr b hm) ev
  refine sorted_data (enc := fun r : HZ => r.2) hl.isList e er (fun d hd d' hd' => ?_) (.inl fun d hd => ?_) hz (fun b hb => ?_) fun out hol eo => ?_
  · obtain ⟨r, h1, rfl⟩ := List.mem_map.mp hd
    obtain ⟨q, h2, rfl⟩ := List.mem_map.mp hd'
    exact hal r h1 q h2
  · obtain ⟨r, hm, rfl⟩ := List.mem_map.mp hd
    exact ht r hm
  · have := hdep b hb
    omega
  · obtain ⟨ep, he'⟩ := PyProof.Rows.sortedAll_at s.heap its out.toArray
    have hle : (hzV (zs.mergeSort hzLe)).length ≤ sizeLine := by
      rw [hzV_len, List.length_mergeSort]
      exact hz
    exact ⟨.ref _, upd H (s.heap.objs.size + 1) (.lst (hzV (zs.mergeSort hzLe))), I.laid (t' := s.toks) (fun _ _ => PyProof.Rows.sortedAll_old) (Nat.le_succ _) ⟨hle, out, ep, each_hz eo, he'⟩, rfl, q _ (I.hok.fresh (Nat.le_succ _))⟩
/-! ### keys that are tuples -/
def keyD : L2.Key → PyData
  | .inl i => .int i
  | .inr x => .str x
def keysD (k : List L2.Key) : PyData := .tuple (k.map keyD)
def kLe (a b : List L2.Key) : Bool := !dataLt (keysD b) (keysD a)
theorem depth_keys : ∀ k : List L2.Key, PyData.depthAll (k.map keyD) ≤ 1
  | [] => by simp [PyData.depthAll]
  | x :: k => by
    have := depth_keys k
    rw [List.map_cons]
    simp only [PyData.depthAll]
    have : (keyD x).depth ≤ 1 := by cases x <;> simp [keyD, PyData.depth]
    omega
theorem depth_keysD (k : List L2.Key) : (keysD k).depth ≤ 2 := by
  have := depth_keys k
  unfold keysD
  simp only [PyData.depth]
  omega
theorem reads_keys {h : Heap} : ∀ {k : List L2.Key} {us : List Value}, Vals (k.map kV) us → ReadsAll h us (k.map keyD) []
  | [], _, r => by
    cases r
    exact .nil
  | x :: k, _, r => by
    rw [List.map_cons] at r
    cases r with
    | cons a b =>
      cases x with
      | inl i =>
        obtain ⟨t, rfl⟩ := a
        exact .cons (as := []) (bs := []) (.int i t) (reads_keys b)
      | inr z =>
        obtain ⟨t, rfl⟩ := a
        exact .cons (as := []) (bs := []) (.str z t) (reads_keys b)
/-- a key at its place -/
abbrev KR := Addr × List L2.Key
theorem krs_of {H : Hp} {kvs : List (List L2.Key × V)} {xs : List (List L2.Key × Addr × Value)} (r : KT H kvs xs) :
    ∃ rs : List KR, rs.map (·.2) = kvs.map (·.1) ∧ rs.map (·.1) = xs.map (fun x => x.2.1) ∧ ∀ r ∈ rs, H r.1 = some (.tup (r.2.map kV)) := by
  induction r with
  | nil => exact ⟨[], rfl, rfl, fun r h => by cases h⟩
  | @cons p q ps qs hq t ih =>
    obtain ⟨rs, h1, h2, h3⟩ := ih
    refine ⟨(q.2.1, p.1) :: rs, by rw [List.map_cons, h1]; rfl, by rw [List.map_cons, List.map_cons, h2], fun r hr => ?_⟩
    rcases List.mem_cons.mp hr with e | hr
    · subst e
      exact hq.2.1
    · exact h3 r hr
theorem kr_each {rs : List KR} {us : List Value} (e : EachIs (fun v (b : KR) => v = Value.ref b.1) us rs) : Vals (rs.map fun r => V.ref r.1) us := by
  induction e with
  | nil => exact .nil
  | cons h t ih =>
    subst h
    exact .cons rfl ih
def rSortT : List V → Hp → VK → Prop := fun vs H Q => ∃ (a : Addr) (kvs : List (List L2.Key × V)), vs = [.ref a] ∧ Rd H a (.dT kvs) ∧ (∀ x ∈ kvs, ∀ y ∈ kvs, alike (keysD x.1) (keysD y.1) = true) ∧ (∀ x ∈ kvs, x.1 ≠ []) ∧
  ∀ (rs : List KR) (p : Addr), rs.map (·.2) = (kvs.map (·.1)).mergeSort kLe → (∀ r ∈ rs, H r.1 = some (.tup (r.2.map kV))) → H p = none → Q (.ref p) (upd H p (.lst (rs.map fun r => V.ref r.1)))
theorem cr_sortT {X : Cx} (hc : X.calm = true) (hu : X.A.units + 64 < cLine) : CallR X (.builtin "sorted") rSortT := by
  intro pins s σ H vs us Q I r h
  obtain ⟨a, kvs, rfl, hd, halk, hne, q⟩ := h
  obtain rfl := Vals.ref1 r
  obtain ⟨z, lo, xs, rel, o, es, ep, ho, hx, hdat, hes, hno⟩ := (show ObjOk X.prog X.w H s.heap a (.dT kvs) from hd.ok I.hok)
  obtain ⟨rs, h1, h2, h3⟩ := krs_of rel
  have hlen : rs.length = es.size := by
    have e1 := congrArg List.length h2
    have e2 := congrArg List.length hes
    rw [List.length_map, List.length_map] at e1
    rw [Array.length_toList, List.length_map] at e2
    omega
  have hz : rs.length ≤ sizeLine := by
    have e1 := congrArg List.length h2
    have e2 := Paired.length rel
    rw [List.length_map, List.length_map] at e1
    omega
  have hmem : ∀ r ∈ rs, ∃ x ∈ kvs, x.1 = r.2 := fun r hr => by
    have : r.2 ∈ kvs.map (·.1) := by rw [← h1]; exact List.mem_map.mpr ⟨r, hr, rfl⟩
    obtain ⟨x, hx, e⟩ := List.mem_map.mp this
    exact ⟨x, hx, e⟩
  have hall : AllAlike (rs.map fun r => keysD r.2) := fun d hd d' hd' => by
    obtain ⟨r, hr, rfl⟩ := List.mem_map.mp hd
    obtain ⟨r', hr', rfl⟩ := List.mem_map.mp hd'
    obtain ⟨x, hx, e⟩ := hmem r hr
    obtain ⟨y, hy, e'⟩ := hmem r' hr'
    rw [← e, ← e']
    exact halk x hx y hy
  have hso : Sortable (rs.map fun r => keysD r.2) := .inl fun d hd => by
    obtain ⟨r, hr, rfl⟩ := List.mem_map.mp hd
    obtain ⟨x, hx, e⟩ := hmem r hr
    have := hne x hx
    rw [e] at this
    cases h : r.2 with
    | nil => exact absurd h this
    | cons y l => exact ⟨keyD y, l.map keyD, rfl⟩
  have raw : s.heap.DictRaw a es ep := ⟨o, ho, hx, hdat⟩
  refine Calls.call_function_entry PyProof.Rows.kind_sorted PyProof.Rows.plain_sorted PyProof.Rows.entry_sorted (PyProof.Rows.args_sorted1 _) ?_
  unfold Builtin.«sorted»
  refine wpAny_bind (m := checkCount "sorted" 1 1 _) (wpAny_pure ?_)
  refine wpAny_bind (kdu_collect (A := X.A.in1) (KdlSrc.rawDict (es := es) (ep := ep) lo) (I.ok.hd hc) raw (by omega) fun h' tk acc hkp hacc => ?_)
  have hal : acc.toList.length = rs.length := by rw [Array.length_toList, hacc.1, hlen]
  have each : EachIs (fun v (b : KR) => v = Value.ref b.1) acc.toList rs := by
    refine EachIs.of_zip hal fun p hp => ?_
    obtain ⟨i, hi⟩ := List.getElem?_of_mem hp
    rw [List.getElem?_zip_eq_some] at hi
    obtain ⟨hia, hib⟩ := hi
    obtain ⟨hsz, ev⟩ := hacc.2 i p.1 (by rw [← Array.getElem?_toList]; exact hia)
    have e1 : (rs.map (·.1))[i]? = some p.2.1 := by rw [List.getElem?_map, hib]; rfl
    have e2 : es.toList[i]? = some es[i] := by rw [Array.getElem?_toList, Array.getElem?_eq_getElem hsz]
    rw [h2, List.getElem?_map] at e1
    rw [hes, List.getElem?_map] at e2
    cases ex : xs[i]? with
    | none =>
      rw [ex] at e1
      cases e1
    | some x =>
      rw [ex] at e1 e2
      have e1' : x.2.1 = p.2.1 := Option.some.inj e1
      have e2' := Option.some.inj e2
      rw [ev, ← e2', ← e1']
      rfl
  have I1 : Inv X pins σ H { s with heap := h', toks := tk } := I.kept hkp
  refine wpAny_bind (wpAny_newList ?_ (by omega))
  have hoL : (h'.push (seqObj "list" acc.toList.toArray 0)).get? h'.objs.size = some (seqObj "list" acc.toList.toArray 0) := Heap.get?_push_size _ rfl
  have ne : ∀ {b : Addr} {o : Obj}, s.heap.get? b = some o → b ≠ h'.objs.size := fun e => Nat.ne_of_lt (Heap.lt_size (hkp _ _ e))
  refine wpAny_bind (wpAny_holding ?_)
  show wpAny (model X.prog X.w) X.A.in1 (call (.builtin "list.sort") [.ref h'.objs.size]) _ _ { s with heap := h'.push (seqObj "list" acc.toList.toArray 0), toks := tk }
  have er : EachIs (fun v (b : KR) => ∃ as, Reads (h'.push (seqObj "list" acc.toList.toArray 0)) v (keysD b.2) as ∧ h'.objs.size ∉ as) acc.toList rs := (each_mem each).mono fun v b ⟨ev, hm⟩ => by
    subst ev
    obtain ⟨its', rv', ht, hz'⟩ := I.tuple (.inl (.inl (h3 b hm)))
    obtain ⟨o2, ho2, hc2, n2, hd2⟩ := ht
    refine ⟨_, Reads.tuple (Heap.get?_push_of_some _ (hkp _ _ ho2)) hc2 hd2 (reads_keys rv'), fun hmm => ?_⟩
    have hb := Heap.lt_size (hkp _ _ ho2)
    simp at hmm
  refine list_sort_data (s := { s with heap := h'.push (seqObj "list" acc.toList.toArray 0), toks := tk }) (enc := fun r : KR => keysD r.2) hoL each er hall hso hz (fun r _ => ?_) fun out ho2 eo => ?_
  · have hdep := depth_keysD r.2
    show X.A.units + 1 + 1 + (keysD r.2).depth < cLine
    omega
  · obtain ⟨e', he'⟩ := PyProof.Rows.sortedHeap_at (vs := acc.toList) (out := out.toArray) hoL
    have hle2 : ((rs.mergeSort fun a b => kLe a.2 b.2).map fun r => V.ref r.1).length ≤ sizeLine := by
      rw [List.length_map, List.length_mergeSort]
      exact hz
    have up : ∀ b o, h'.get? b = some o → (sortedHeap (h'.push (seqObj "list" acc.toList.toArray 0)) h'.objs.size acc.toList out.toArray).get? b = some o := fun b u e => by
      have hb : b < h'.objs.size := Heap.lt_size e
      rw [PyProof.Rows.sortedHeap_old (Nat.ne_of_lt hb) (by rw [size_push']; exact Nat.lt_succ_of_lt hb)]
      exact Heap.get?_push_of_some _ e
    refine wpAny_pure ⟨_, rfl, .ref h'.objs.size, _, I1.laid (t' := tk) (o := .lst ((rs.mergeSort fun a b => kLe a.2 b.2).map fun r => V.ref r.1)) up (Nat.le_refl _) ⟨hle2, out, e', kr_each eo, he'⟩, rfl, q _ _ ?_ (fun r hr => h3 r (List.mem_mergeSort.mp hr)) (I1.hok.fresh (Nat.le_refl _))⟩
    rw [← h1]
    exact sort_maps (fun r : KR => r.2) fun _ _ _ _ => rfl
end Ka
/-! d.update(e), two dicts with numbers or texts as keys. -/
namespace Ka
open PySem PySem.Spec PyProof.Rows L2
def rUpdate : V → List V → Hp → VK → Prop := fun x vs H Q => ∃ (d e : Addr) (kvs more : List (L2.Key × V)), x = .ref d ∧ vs = [.ref e] ∧ H d = some (.dK kvs) ∧ H e = some (.dK more) ∧ d ≠ e ∧ kvs.length + more.length ≤ 1000000 ∧ Q .non (upd H d (.dK (mergeK kvs more)))
theorem mt_update {X : Cx} : MtM X "dict.update" rUpdate := by
  intro pins s σ H x xs v us Q I rx rv h
  obtain ⟨d, e, kvs, more, rfl, rfl, hd, he, hne, hz, q⟩ := h
  cases rx
  obtain ⟨u, rfl, ru⟩ := rv.one
  cases ru
  obtain ⟨z, lo, vs, rel, dd⟩ := dk_of I.hok hd
  obtain ⟨z2, lo2, vs2, rel2, dd2⟩ := dk_of I.hok he
  have l1 := rel.length
  have l2 := rel2.length
  have l3 : (1000000 : Nat) ≤ sizeLine := by rw [sizeLine_eq]; decide
  refine call_meetsIn PySem.F.slot_dict_update dd.typeIs PySem.F.entry_dict_update (PySem.F.args_dict_update_2 _ _) (meets_dict_update (mixKind X.prog X.w) d e hne lo2)
    ⟨vs, vs2, dd, dd2, by omega, fun h' dd' _ hs => ?_⟩
  have hq : ∃ q, h'.get? d = some q := let ⟨q, _, _, hq, _⟩ := dd'; ⟨q, hq⟩
  have l4 := length_mergeK more kvs
  exact ⟨.non, _, d_write (t' := s.toks) I (by rw [hd]; exact True.intro) hs hq (dk_new (by omega) lo (rel2.merge rel) dd'), rfl, q⟩
end Ka
namespace Kb
open PySem PySem.Spec PyProof.Rows L2
/-! ### the text, def by def -/
def topS (i : Nat) : Stmt := PySem.Challenge.pw_stillowed_k34_looks_by_a_dealing.main.body.getD i (.Pass ⟨0, 0, 0, 0⟩)
abbrev sRowInit : Stmt := inClass (topS 3) 0
abbrev sBookErrInit : Stmt := inClass (topS 4) 0
abbrev sIsInt : Stmt := topS 7
abbrev sIsNum : Stmt := topS 8
abbrev sIsNumTo : Stmt := topS 9
abbrev sName : Stmt := topS 10
abbrev sLetter : Stmt := topS 11
abbrev sIsLot : Stmt := topS 12
abbrev sWithin : Stmt := topS 14
abbrev sDesksOf : Stmt := topS 16
abbrev sByDeed : Stmt := topS 17
abbrev sChDeeds : Stmt := topS 18
abbrev sParts : Stmt := topS 19
abbrev sWithinBy : Stmt := topS 20
abbrev sPartsOf : Stmt := topS 22
abbrev sStepsOut : Stmt := topS 23
abbrev sAllIn : Stmt := topS 24
abbrev sPlain : Stmt := topS 26
abbrev sJoinedRow : Stmt := topS 28
abbrev sLooksBy : Stmt := topS 30
abbrev sBkInit : Stmt := inClass (topS 36) 0
abbrev sBkEq : Stmt := inClass (topS 36) 1
abbrev sBkNames : Stmt := inClass (topS 36) 2
abbrev sBkMain : Stmt := inClass (topS 36) 3
abbrev sBkIndex : Stmt := inClass (topS 36) 4
abbrev sBkEnds : Stmt := inClass (topS 36) 5
abbrev sBkSteps : Stmt := inClass (topS 36) 6
abbrev sBkFrom : Stmt := inClass (topS 36) 7
abbrev sBkIsEnd : Stmt := inClass (topS 36) 8
abbrev sBkIsStage : Stmt := inClass (topS 36) 9
abbrev sBkStages : Stmt := inClass (topS 36) 10
abbrev sBkCalls : Stmt := inClass (topS 36) 11
abbrev sBkDeeds : Stmt := inClass (topS 36) 12
abbrev sChEach : Stmt := topS 37
abbrev sChTog : Stmt := topS 38
abbrev sIsCourse : Stmt := topS 39
abbrev sAreEnds : Stmt := topS 40
abbrev sAreSteps : Stmt := topS 41
abbrev sIsStep : Stmt := topS 42
abbrev sDeedsIn : Stmt := topS 43
abbrev sLeaving : Stmt := topS 44
abbrev sBox : Stmt := topS 46
abbrev sTake : Stmt := topS 47
abbrev sPick : Stmt := topS 48
abbrev sNames : Stmt := topS 49
abbrev sLawCourse : Stmt := topS 50
abbrev sLawByName : Stmt := topS 51
abbrev sLawNamed : Stmt := topS 52
abbrev sLawOff : Stmt := topS 53
abbrev sLawUsed : Stmt := topS 54
abbrev sLawIn : Stmt := topS 55
abbrev sLawPart : Stmt := topS 56
abbrev sLawBy : Stmt := topS 57
abbrev sLawMenu : Stmt := topS 58
abbrev sLawJoined : Stmt := topS 59
abbrev sLawShortest : Stmt := topS 60
abbrev sLawReached : Stmt := topS 61
abbrev sLawLooks : Stmt := topS 62
abbrev sLawMixed : Stmt := topS 63
abbrev sLawBent : Stmt := topS 64
abbrev sLaw : Stmt := topS 65
/-! ### heaps -/
theorem same_new {H : Hp} {p : Addr} {o : HO} (h : H p = none) : Same H (upd H p o) := fun b x e => by
  rw [upd_ne (ne_of_none e h)]
  exact e
theorem Same.sqT {K : PySem.W.Frag} {H H' : Hp} {a : Addr} {xs : List V} (e : Same H H') (h : SqT K H a xs) : SqT K H' a xs := by
  rcases h with (h | ⟨o, h⟩) | h
  · exact .inl (.inl (e _ _ h))
  · exact .inl (.inr ⟨o, e _ _ h⟩)
  · exact .inr h
theorem sqT_new {K : PySem.W.Frag} {H : Hp} {p : Addr} {xs : List V} (h : H p = some (.tup xs)) : SqT K H p xs := .inl (.inl h)
theorem sqL_new {K : PySem.W.Frag} {H : Hp} {p : Addr} {xs : List V} (h : H p = some (.lst xs)) : SqL K H p xs := .inl (.inl h)
theorem get_map {α β : Type} {f : α → β} {l : List α} {i : Nat} {y : β} (h : (l.map f)[i]? = some y) : ∃ x, l[i]? = some x ∧ y = f x := by
  rw [List.getElem?_map] at h
  cases e : l[i]? with
  | none =>
    rw [e] at h
    cases h
  | some x =>
    rw [e] at h
    exact ⟨x, rfl, (Option.some.inj h).symm⟩
theorem lt_of_get {α : Type} {l : List α} {i : Nat} {x : α} (h : l[i]? = some x) : i < l.length := (List.getElem?_eq_some_iff.mp h).1
theorem drop_of_get {α : Type} {l : List α} {i : Nat} {x : α} (h : l[i]? = some x) : l.drop i = x :: l.drop (i + 1) := by
  obtain ⟨h1, h2⟩ := List.getElem?_eq_some_iff.mp h
  rw [List.drop_eq_getElem_cons h1, h2]
theorem take_of_get {α : Type} {l : List α} {i : Nat} {x : α} (h : l[i]? = some x) : l.take (i + 1) = l.take i ++ [x] := by
  rw [List.take_add_one, h]
  rfl
/-! ### rules told by K, for a comprehension's block -/
def rLen (K : PySem.W.Frag) : List V → Hp → VK → Prop := fun xs H Q => ∃ p ys, xs = [V.ref p] ∧ (SqL K H p ys ∨ SqT K H p ys) ∧ Q (.int (ys.length : Nat)) H
theorem len_at {X : Cx} {K : PySem.W.Frag} (h : X.K = K) : CallR X (.builtin "len") (rLen K) := by
  subst h
  exact call_len_seq
theorem ixT_at {X : Cx} {K : PySem.W.Frag} (h : X.K = K) : IxR X (rIxT K) := by
  subst h
  exact ix_tup
theorem ixL_at {X : Cx} {K : PySem.W.Frag} (h : X.K = K) : IxR X (rIxL K) := by
  subst h
  exact ix_list
/-- places as values -/
def natV (l : List Nat) : List V := l.map fun (i : Nat) => V.int (i : Int)
theorem natV_len (l : List Nat) : (natV l).length = l.length := List.length_map _
theorem small {n : Nat} (h : n ≤ 1000000) : n < sizeLine := Nat.lt_of_le_of_lt h (by rw [sizeLine_eq]; decide)
theorem smallE {n : Nat} (h : n ≤ 1000000) : n ≤ sizeLine := Nat.le_of_lt (small h)
theorem walk_revT {K : PySem.W.Frag} {a : Addr} {xs : List V} : Walk (RT.ItvT K a xs.length) xs.length (fun H => SqT K H a xs) (fun i H x H' => H' = H ∧ xs[xs.length - 1 - i]? = some x) := by
  refine ⟨fun i H hi q => ?_, fun H q => ?_, fun i H x H' hi q y => ?_⟩
  · exact ⟨hi, xs, xs[xs.length - 1 - i], q, by simp⟩
  · exact Nat.le_refl _
  · exact ⟨y.1, y.2 xs q⟩
/-- counts as values -/
def intV (l : List Int) : List V := l.map V.int
theorem intV_len (l : List Int) : (intV l).length = l.length := List.length_map _
theorem intV_get {l : List Int} {i : Nat} {x : Int} (h : l[i]? = some x) : (intV l)[i]? = some (.int x) := by
  unfold intV
  rw [List.getElem?_map, h]
  rfl
theorem natV_get {l : List Nat} {i x : Nat} (h : l[i]? = some x) : (natV l)[i]? = some (.int (x : Nat)) := by
  unfold natV
  rw [List.getElem?_map, h]
  rfl
end Kb
namespace Kb
open PySem PySem.Spec PyProof.Rows L2
/-- a sign from a to z -/
def lowC (c : Nat) : Bool := decide (97 ≤ c) && decide (c ≤ 122)
/-- a name -/
def isName (s : Str) : Bool := decide (1 ≤ s.cps.size) && decide (s.cps.size ≤ 5) && s.cps.toList.all lowC
/-- the names of the language that no text hides -/
structure Nones (mg : Str → Option Value) : Prop where
  len : mg "len" = none
  range : mg "range" = none
  iter : mg "iter" = none
  enumerate : mg "enumerate" = none
  reversed : mg "reversed" = none
  tuple : mg "tuple" = none
  list : mg "list" = none
  sorted : mg "sorted" = none
  any : mg "any" = none
  all : mg "all" = none
  int : mg "int" = none
  str : mg "str" = none
  bool : mg "bool" = none
  abs : mg "abs" = none
  min : mg "min" = none
  max : mg "max" = none
  sum : mg "sum" = none
  isinstance : mg "isinstance" = none
  valueError : mg "ValueError" = none
/-- range(n), its turns told -/
theorem walk_r0 {n : Nat} : Walk (Itr 0 n) n (fun _ => True) (fun i H x H' => H' = H ∧ x = .int (i : Nat)) := walk_range.mono (fun _ h => h) fun i H x H' _ _ y => ⟨y.1, by
  rw [y.2]
  show V.int (0 + (i : Int)) = _
  rw [Int.zero_add]⟩
section
variable {K : PySem.W.Frag}
theorem slA_at {X : Cx} {K : PySem.W.Frag} (h : X.K = K) : SlR X (rSlA K) := by
  subst h
  exact sl_tupA
theorem slA_take {H : Hp} {a : Addr} {xs : List V} {j : Nat} {Q : VK} (hA : SqT K H a xs) (q0 : xs.take j = xs → Q (.ref a) H) (q1 : ∀ p, H p = none → Q (.ref p) (upd H p (.tup (xs.take j)))) : rSlA K (.ref a) none (some (j : Int)) H Q := by
  refine ⟨a, xs, rfl, hA, fun hw => ?_, fun _ p np => ?_⟩
  · have h2 := hw.2
    rw [HT.sIx_nat] at h2
    exact q0 (List.take_of_length_le (by omega))
  · have e : cutV xs none (some (j : Int)) = xs.take j := by
      unfold cutV
      rw [HT.sIx_nat, HT.sIx_none, List.drop_zero, Nat.sub_zero]
      by_cases h : j ≤ xs.length
      · rw [Nat.min_eq_left h]
      · rw [Nat.min_eq_right (by omega), List.take_length, List.take_of_length_le (by omega)]
    rw [e]
    exact q1 p np
theorem slA_drop {H : Hp} {a : Addr} {xs : List V} {j : Nat} {Q : VK} (hA : SqT K H a xs) (q0 : xs.drop j = xs → Q (.ref a) H) (q1 : ∀ p, H p = none → Q (.ref p) (upd H p (.tup (xs.drop j)))) : rSlA K (.ref a) (some (j : Int)) none H Q := by
  refine ⟨a, xs, rfl, hA, fun hw => ?_, fun _ p np => ?_⟩
  · have h2 := hw.1
    rw [HT.sIx_nat] at h2
    refine q0 ?_
    by_cases h : j = 0
    · rw [h]
      rfl
    · have h0 : xs.length = 0 := by omega
      rw [List.eq_nil_of_length_eq_zero h0, List.drop_nil]
  · have e : cutV xs (some (j : Int)) none = xs.drop j := by
      unfold cutV
      rw [HT.sIx_nat, HT.sIx_none]
      by_cases h : j ≤ xs.length
      · rw [Nat.min_eq_left h, List.take_of_length_le (by rw [List.length_drop]; exact Nat.le_refl _)]
      · rw [Nat.min_eq_right (by omega), List.drop_length, List.drop_eq_nil_of_le (by omega), List.take_nil]
    rw [e]
    exact q1 p np
/-- a slice of a row -/
theorem slA_takeR {H : Hp} {a : Addr} {us : List Str} {j : Nat} {Q : VK} (hA : SqT K H a (us.map V.str)) (q : ∀ H' p, Same H H' → SqT K H' p ((us.take j).map V.str) → Q (.ref p) H') : rSlA K (.ref a) none (some (j : Int)) H Q :=
  slA_take hA (fun e => q H a (fun _ _ h => h) (by rw [List.map_take, e]; exact hA)) fun p np => q _ p (same_new np) (by rw [List.map_take]; exact sqT_new upd_same)
theorem slA_dropR {H : Hp} {a : Addr} {us : List Str} {j : Nat} {Q : VK} (hA : SqT K H a (us.map V.str)) (q : ∀ H' p, Same H H' → SqT K H' p ((us.drop j).map V.str) → Q (.ref p) H') : rSlA K (.ref a) (some (j : Int)) none H Q :=
  slA_drop hA (fun e => q H a (fun _ _ h => h) (by rw [List.map_drop, e]; exact hA)) fun p np => q _ p (same_new np) (by rw [List.map_drop]; exact sqT_new upd_same)
theorem tyT {H : Hp} {p : Addr} {xs : List V} (h : SqT K H p xs) : TyX K H (.ref p) (.type "tuple") := by
  rcases h with (h | ⟨o, h⟩) | h
  · exact .base (.tup h)
  · exact .fTuple h
  · obtain ⟨o, its, n, h1, h2, h3⟩ := h
    exact .kTuple h1 h2
theorem catR {H : Hp} {a b : Addr} {xs ys : List V} {Q : VK} (hx : SqT K H a xs) (hy : SqT K H b ys) (hl : xs.length + ys.length ≤ 100000) (q : ∀ H' p, Same H H' → SqT K H' p (xs ++ ys) → Q (.ref p) H') : rCatA K (.ref a) (.ref b) H Q := by
  refine ⟨a, b, xs, ys, rfl, rfl, hx, hy, smallE (by omega), fun e => ?_, fun _ e => ?_, fun _ _ p np => ?_⟩
  · exact q H b (fun _ _ h => h) (by rw [e]; exact hy)
  · exact q H a (fun _ _ h => h) (by rw [e, List.append_nil]; exact hx)
  · exact q _ p (same_new np) (sqT_new upd_same)
theorem slR_take {H : Hp} {a : Addr} {xs : List V} {j : Nat} {Q : VK} (hA : SqT K H a xs) (q : ∀ H' p, Same H H' → SqT K H' p (xs.take j) → Q (.ref p) H') : rSlA K (.ref a) none (some (j : Int)) H Q :=
  slA_take hA (fun e => q H a (fun _ _ h => h) (by rw [e]; exact hA)) fun p np => q _ p (same_new np) (sqT_new upd_same)
theorem slR_drop {H : Hp} {a : Addr} {xs : List V} {j : Nat} {Q : VK} (hA : SqT K H a xs) (q : ∀ H' p, Same H H' → SqT K H' p (xs.drop j) → Q (.ref p) H') : rSlA K (.ref a) (some (j : Int)) none H Q :=
  slA_drop hA (fun e => q H a (fun _ _ h => h) (by rw [e]; exact hA)) fun p np => q _ p (same_new np) (sqT_new upd_same)
end
end Kb
namespace Kb
open PySem PySem.Spec PyProof.Rows L2
/-! ### is_integer, is_number, is_number_to, is_lot -/
section
variable {P : Program} {w : World} {K : PySem.W.Frag} {mg : Str → Option Value} {base : Heap}
/-- an integer, asked for by its value -/
def spIsInt : Sp := fun vs H Q _ => ∃ i : Int, vs = [.int i] ∧ Q (.bl true) H
abbrev nIi : List Str := ["value"]
theorem scIi : FnScope nIi ["value"] (defScope sIsInt) := ⟨rfl, rfl, rfl, by decide +kernel, rfl, by decide +kernel, by decide +kernel⟩
theorem ok_isint {f : Addr} {fd : FuncData} (F : Fun K "is_integer" "is_integer" sIsInt f fd) (N : Nones mg) : FnOk P w K mg base CX0 1 f fd ["value"] spIsInt := by
  refine F.ok scIi (fun vs H Q E h => ?_) (fun cdv A outer s H vs Q E hr h => ?_)
  · obtain ⟨i, rfl, _⟩ := h
    rfl
  · obtain ⟨i, rfl, q⟩ := h
    refine ⟨_, pss_one (ps_ret (pe_and (pe_callB call_isi (by rfl) N.isinstance (by decide +kernel) (pa_cons (pv 0) (pa_cons (pe_bltn (v := .ty "int") (by rfl) N.int (by decide +kernel) rfl) pa_nil))) (pe_one (pe_not (pe_callB call_isi (by rfl) N.isinstance (by decide +kernel) (pa_cons (pv 0) (pa_cons (pe_bltn (v := .ty "bool") (by rfl) N.bool (by decide +kernel) rfl) pa_nil))))))), ?_⟩
    refine ⟨.int i, rfl, .int i, .ty "int", .type "int", .type "int", true, rfl, .ty "int", .base (.int i), kit_ty (by decide +kernel), _, rfl, ite2 (fun _ => ?_) (fun c => absurd rfl c)⟩
    exact ⟨.int i, rfl, .int i, .ty "bool", .type "int", .type "bool", false, rfl, .ty "bool", .base (.int i), kit_ty (by decide +kernel), _, rfl, q⟩
def spIsNum : Sp := fun vs H Q _ => ∃ i : Int, vs = [.int i] ∧ Q (.bl (decide (0 ≤ i))) H
abbrev nIn : List Str := ["value"]
theorem scIn : FnScope nIn ["value"] (defScope sIsNum) := ⟨rfl, rfl, rfl, by decide +kernel, rfl, by decide +kernel, by decide +kernel⟩
structure CallC (K : PySem.W.Frag) (mg : Str → Option Value) (n : Str) (ps : List Str) (f : Addr) (fd : FuncData) : Prop where
  g : mg n = some (.ref f)
  kp : PySem.W.keepIn K (.ref f) = true
  b : Binds K fd ps []
theorem ok_isnum {f fI : Addr} {fd fdI : FuncData} (F : Fun K "is_number" "is_number" sIsNum f fd) (N : Nones mg) (G_is_integer : FnOk P w K mg base CX0 1 fI fdI ["value"] spIsInt) (C_is_integer : CallC K mg "is_integer" ["value"] fI fdI) : FnOk P w K mg base CX0 2 f fd ["value"] spIsNum := by
  refine F.ok scIn (fun vs H Q E h => ?_) (fun cdv A outer s H vs Q E hr h => ?_)
  · obtain ⟨i, rfl, _⟩ := h
    rfl
  · obtain ⟨i, rfl, q⟩ := h
    refine ⟨_, pss_one (ps_ret (pe_and (pe_call G_is_integer (hr.mono (by decide)) (by rfl) C_is_integer.g C_is_integer.kp C_is_integer.b .nil pass0 (pa_cons (pv 0) pa_nil)) (pe_one (pe_cmpR op_ge (pv 0) pe_int (nomark _))))), ?_⟩
    refine ⟨.int i, rfl, i, rfl, _, rfl, ite2 (fun _ => ?_) (fun c => absurd rfl c)⟩
    exact ⟨.int i, rfl, _, _, rfl, rfl, q⟩
def spIsNumTo : Sp := fun vs H Q _ => ∃ i m : Int, vs = [.int i, .int m] ∧ Q (.bl (decide (0 ≤ i) && decide (i ≤ m))) H
abbrev nNt : List Str := ["value", "most"]
theorem scNt : FnScope nNt ["value", "most"] (defScope sIsNumTo) := ⟨rfl, rfl, rfl, by decide +kernel, rfl, by decide +kernel, by decide +kernel⟩
theorem ok_isnumto {f fI : Addr} {fd fdI : FuncData} (F : Fun K "is_number_to" "is_number_to" sIsNumTo f fd) (G_is_number : FnOk P w K mg base CX0 2 fI fdI ["value"] spIsNum) (C_is_number : CallC K mg "is_number" ["value"] fI fdI) : FnOk P w K mg base CX0 3 f fd ["value", "most"] spIsNumTo := by
  refine F.ok scNt (fun vs H Q E h => ?_) (fun cdv A outer s H vs Q E hr h => ?_)
  · obtain ⟨i, m, rfl, _⟩ := h
    rfl
  · obtain ⟨i, m, rfl, q⟩ := h
    refine ⟨_, pss_one (ps_ret (pe_and (pe_call G_is_number (hr.mono (by decide)) (by rfl) C_is_number.g C_is_number.kp C_is_number.b .nil pass0 (pa_cons (pv 0) pa_nil)) (pe_one (pe_cmpR op_le (pv 0) (pv 1) (nomark _))))), ?_⟩
    refine ⟨.int i, rfl, i, rfl, _, rfl, ite2 (fun c => ?_) (fun c => ?_)⟩
    · have c : decide (0 ≤ i) = true := c
      rw [c, Bool.true_and] at q
      exact ⟨.int i, rfl, .int m, rfl, _, _, rfl, rfl, q⟩
    · have c : decide (0 ≤ i) = false := Bool.eq_false_iff.mpr c
      rw [c, Bool.false_and] at q
      exact q
end
end Kb
namespace Kb
open PySem PySem.Spec PyProof.Rows L2
/-! ### is_letter, is_name -/
theorem lt_sign (a b : Nat) : decide ([a] < [b]) = decide (a < b) := by
  by_cases h : a < b
  · rw [decide_eq_true h, decide_eq_true]
    exact List.Lex.rel h
  · rw [decide_eq_false h, decide_eq_false]
    intro w
    cases w with
    | rel w => exact h w
    | cons w => cases w
section
variable {P : Program} {w : World} {K : PySem.W.Frag} {mg : Str → Option Value} {base : Heap}
theorem scLetter : FnScope ["sign"] ["sign"] (defScope sLetter) := ⟨rfl, rfl, rfl, by decide +kernel, rfl, by decide +kernel, by decide +kernel⟩
def spLetter : Sp := fun vs H Q _ => ∃ c : Nat, vs = [.str ⟨#[c]⟩] ∧ Q (.bl (lowC c)) H
theorem ok_letter {f : Addr} {fd : FuncData} (F : Fun K "is_letter" "is_letter" sLetter f fd) : FnOk P w K mg base CX0 1 f fd ["sign"] spLetter := by
  refine F.ok scLetter (fun vs H Q E h => ?_) (fun cdv A outer s H vs Q E hr h => ?_)
  · obtain ⟨c, rfl, _⟩ := h
    rfl
  · obtain ⟨c, rfl, q⟩ := h
    refine ⟨_, pss_one (ps_ret (pe_chain op_le_str op_le_str pe_str (pv 0) pe_str)), ?_⟩
    refine ⟨.str ⟨#[c]⟩, rfl, _, _, rfl, rfl, _, rfl, ?_⟩
    have e1 : (!decide ([c] < (Str.ofString "a").cps.toList)) = decide (97 ≤ c) := by
      rw [show (Str.ofString "a").cps.toList = [97] from by decide +kernel, lt_sign]
      by_cases h : 97 ≤ c
      · rw [decide_eq_true h, decide_eq_false (Nat.not_lt.mpr h)]
        rfl
      · rw [decide_eq_false h, decide_eq_true (Nat.lt_of_not_le h)]
        rfl
    have e2 : (!decide ((Str.ofString "z").cps.toList < [c])) = decide (c ≤ 122) := by
      rw [show (Str.ofString "z").cps.toList = [122] from by decide +kernel, lt_sign]
      by_cases h : c ≤ 122
      · rw [decide_eq_true h, decide_eq_false (Nat.not_lt.mpr h)]
        rfl
      · rw [decide_eq_false h, decide_eq_true (Nat.lt_of_not_le h)]
        rfl
    unfold lowC at q
    rw [← e1, ← e2] at q
    refine ite2 (fun hc => ?_) (fun hc => ?_)
    · refine ⟨_, _, rfl, rfl, ?_⟩
      have hc' : (!decide ([c] < (Str.ofString "a").cps.toList)) = true := hc
      rw [hc', Bool.true_and] at q
      exact q
    · have hc' : (!decide ([c] < (Str.ofString "a").cps.toList)) = false := Bool.eq_false_iff.mpr hc
      rw [hc', Bool.false_and] at q
      exact q
theorem scName : FnScope ["value", "sign"] ["value"] (defScope sName) := ⟨rfl, rfl, rfl, by decide +kernel, rfl, by decide +kernel, by decide +kernel⟩
/-- a value that can be asked for a name: of a known other type, or a text that is short enough -/
def spName (K : PySem.W.Frag) : Sp := fun vs H Q _ => ∃ v : V, vs = [v] ∧ ((∃ t : String, TyX K H v (.type t) ∧ kitB t "str" = some false ∧ Q (.bl false) H) ∨ (∃ s, v = .str s ∧ s.length ≤ sizeLine ∧ ∀ H', Same H H' → Q (.bl (isName s)) H'))
theorem ok_name {f fL : Addr} {fd fdL : FuncData} (F : Fun K "is_name" "is_name" sName f fd) (FL : Fun K "is_letter" "is_letter" sLetter fL fdL) (bL : Binds K fdL ["sign"] []) (gL : mg "is_letter" = some (.ref fL)) {tag : Nat} (gN : mg "LONGEST_NAME" = some (.int 5 tag))
    (mi : mg "isinstance" = none) (ms : mg "str" = none) (ml : mg "len" = none) (ma : mg "all" = none) : FnOk P w K mg base CX0 2 f fd ["value"] (spName K) := by
  have GL : FnOk P w K mg base CX0 1 fL fdL ["sign"] spLetter := ok_letter FL
  refine F.ok scName (fun vs H Q E h => ?_) (fun cdv A outer s H vs Q E hr h => ?_)
  · obtain ⟨v, rfl, _⟩ := h
    rfl
  · obtain ⟨v, rfl, q⟩ := h
    refine ⟨_, pss_cons (ps_if (PW.pt (pw_or (pt_not (pt_val (pe_callB call_isi (by rfl) mi (by decide +kernel) (pa_cons (pv 0) (pa_cons (pe_bltn (v := .ty "str") (by rfl) ms (by decide +kernel) rfl) pa_nil))))) (pw_or1 (pt_not (pt_chain op_le op_le pe_int (pe_callB call_len (by rfl) ml PySem.boot_len (pa_cons (pv 0) pa_nil)) (pe_glob (v := .int 5) rfl gN ⟨_, rfl⟩))))))
      (pss_one (ps_ret pe_bl)) pss_nil)
      (pss_one (ps_ret (pe_callB (cr_all rfl) (by rfl) ma (by decide +kernel) (pa_cons
        (pe_lc (own := [("sign", 1)]) (g := gName 1) (tt := tYes) rfl scName.nd (pi_str (pv 0)) (blkOk_by (own := [("sign", 1)]) (N := ["value", "sign"]) (sc := defScope sName) (by decide +kernel)) (fun _ _ _ _ _ => pg_name (i := 1) scName.nd rfl (Or.inl rfl)) (fun _ _ _ _ _ => pts_nil)
          (fun _ _ _ _ _ => pe_call GL hr (by rfl) gL FL.kp bL .nil pass0 (pa_cons (pv 1) pa_nil))) pa_nil)))), ?_⟩
    rcases q with ⟨t, ty, hb, q⟩ | ⟨z, rfl, hz, q⟩
    · refine ⟨v, rfl, v, .ty "str", .type t, .type "str", false, rfl, .ty "str", ty, kit_ty hb, ?_⟩
      refine ⟨false, rfl, ?_⟩
      exact iteT (iteT q)
    · refine ⟨.str z, rfl, .str z, .ty "str", .type "str", .type "str", true, rfl, .ty "str", .base (.str z), kit_ty (by decide +kernel), true, rfl, iteF ?_⟩
      refine ⟨.str z, rfl, .str z, _, rfl, ⟨hz, rfl⟩, ?_⟩
      refine ⟨_, _, rfl, rfl, _, rfl, ?_⟩
      have no : isName z = false → Q (.bl false) H := fun e => by
        rw [e] at q
        exact q H (fun _ _ h => h)
      refine ite2 (fun c1 => ?_) (fun c1 => ?_)
      · have c1 := of_decide_eq_true c1
        refine ⟨_, _, rfl, rfl, _, rfl, ite2 (fun c2 => ?_) (fun c2 => ?_)⟩
        · refine no ?_
          have c3 : ¬ ((z.length : Nat) : Int) ≤ 5 := of_decide_eq_false (by simpa using c2)
          have c4 : ¬ z.cps.size ≤ 5 := fun h => c3 (by show ((z.cps.size : Nat) : Int) ≤ 5; omega)
          unfold isName
          rw [decide_eq_false c4, Bool.and_false, Bool.false_and]
        · have c3 : ((z.length : Nat) : Int) ≤ 5 := by simpa using c2
          have c4 : z.cps.size ≤ 5 := by have : ((z.cps.size : Nat) : Int) ≤ 5 := c3; omega
          have c5 : 1 ≤ z.cps.size := by have : 1 ≤ ((z.cps.size : Nat) : Int) := c1; omega
          have en : isName z = z.cps.toList.all lowC := by
            unfold isName
            rw [decide_eq_true c5, decide_eq_true c4]
            rfl
          refine ⟨.str z, rfl, z, rfl, fun D nD => ?_⟩
          refine lc_it walk_str (fun i H2 => Same H H2 ∧ H2 D = some (.lst ((((z.cps.toList.map lowC).take i)).map V.bl))) ⟨same_new nD, upd_same⟩ (fun _ _ _ _ => True.intro) (fun i x H2 H3 hi h2 y => ?_) (fun H2 h2 => ?_)
          · obtain ⟨rfl, c, hc, rfl⟩ := y
            obtain ⟨sm, eD⟩ := h2
            refine ⟨rfl, ?_⟩
            refine ⟨.str ⟨#[c]⟩, rfl, c, rfl, _, eD, ?_, fun b o e => ?_, ?_⟩
            · rw [List.length_map]
              refine small (Nat.le_trans (List.length_take_le _ _) ?_)
              omega
            · rw [upd_ne (ne_of_none e nD)]
              exact sm b o e
            · have hg : (z.cps.toList.map lowC)[i]? = some (lowC c) := by
                rw [List.getElem?_map, Array.getElem?_toList, hc]
                rfl
              rw [upd_same, take_of_get hg, List.map_append]
              rfl
          · obtain ⟨sm, eD⟩ := h2
            have el : (z.cps.toList.map lowC).take z.cps.size = z.cps.toList.map lowC := List.take_of_length_le (by rw [List.length_map, Array.length_toList]; exact Nat.le_refl _)
            rw [el] at eD
            refine ⟨D, _, rfl, sqL_new eD, ?_⟩
            have ea : (z.cps.toList.map lowC).all id = isName z := by
              rw [en, List.all_map]
              rfl
            rw [ea]
            exact q H2 sm
      · have c1 : ¬ (1 : Int) ≤ ((z.length : Nat) : Int) := fun h => c1 (decide_eq_true h)
        refine ⟨_, rfl, iteT (no ?_)⟩
        have c4 : ¬ 1 ≤ z.cps.size := fun h => c1 (by show (1 : Int) ≤ ((z.cps.size : Nat) : Int); omega)
        unfold isName
        rw [decide_eq_false c4]
        rfl
end
end Kb
namespace Kb
open PySem PySem.Spec PyProof.Rows L2
/-- keys numbers or texts, with tests -/
theorem dcK_it {J : It} {n : Nat} {G : Hp → Prop} {Y : Nat → Hp → V → Hp → Prop} (w : Walk J n G Y) {g : TG} {tt : TT} {tk tv : TE} {vs : List Nat} {σ : L2.St} {H1 : Hp} {D : Addr} {Qd : Hp → Prop} (Pv : Nat → Hp → Prop) (h0 : Pv 0 (upd H1 D (.dK []))) (hG : ∀ i H, i ≤ n → Pv i H → G H)
    (hs : ∀ i x H H', i < n → Pv i H → Y i H x H' → g x (wipe σ vs) H' fun σ2 H2 => wipe σ2 vs = wipe σ vs ∧ tt σ2 H2 fun b H3 => if b = true then tk σ2 H3 fun y H4 => tv σ2 H4 fun z H5 => ∃ kvs k, y = kV k ∧ H5 D = some (.dK kvs) ∧ kvs.length < sizeLine ∧ Pv (i + 1) (upd H5 D (.dK (putK kvs k z))) else Pv (i + 1) H3)
    (hd : ∀ H, Pv n H → Qd H) : ∃ W : Nat → Nat → Hp → Prop, (∃ m, W 0 m (upd H1 D (.dK []))) ∧ ∀ i m H, W i m H →
      (J.stop i H ∧ Qd H) ∨ (J.go i H ∧ ∃ Nx : Hp → Prop, (∀ H', Nx H' → ∃ m', m' < m ∧ W (i + 1) m' H') ∧ ∀ x H', J.yld i H x H' → g x (wipe σ vs) H' fun σ2 H2 => wipe σ2 vs = wipe σ vs ∧ tt σ2 H2 fun b H3 =>
        if b = true then tk σ2 H3 fun y H4 => tv σ2 H4 fun z H5 => ∃ kvs k, y = kV k ∧ H5 D = some (.dK kvs) ∧ kvs.length < sizeLine ∧ Nx (upd H5 D (.dK (putK kvs k z))) else Nx H3) := by
  refine ⟨fun i m H => m = n - i ∧ i ≤ n ∧ Pv i H, ⟨n, rfl, Nat.zero_le _, h0⟩, fun i m H ⟨em, hi, p⟩ => ?_⟩
  by_cases hlt : i < n
  · refine .inr ⟨w.goes i H hlt (hG i H hi p), Pv (i + 1), fun H' p' => ⟨n - (i + 1), by omega, rfl, hlt, p'⟩, fun x H' y => ?_⟩
    exact hs i x H H' hlt p (w.yields i H x H' hlt (hG i H hi p) y)
  · obtain rfl : i = n := by omega
    exact .inl ⟨w.stops H (hG i H hi p), hd H p⟩
/-- keys tuples -/
theorem dcT_it {J : It} {n : Nat} {G : Hp → Prop} {Y : Nat → Hp → V → Hp → Prop} (w : Walk J n G Y) {g : TG} {tk tv : TE} {vs : List Nat} {σ : L2.St} {H1 : Hp} {D : Addr} {Qd : Hp → Prop} (Pv : Nat → Hp → Prop) (h0 : Pv 0 (upd H1 D (.dT []))) (hG : ∀ i H, i ≤ n → Pv i H → G H)
    (hs : ∀ i x H H', i < n → Pv i H → Y i H x H' → g x (wipe σ vs) H' fun σ2 H2 => wipe σ2 vs = wipe σ vs ∧ tk σ2 H2 fun y H4 => tv σ2 H4 fun z H5 => ∃ kvs k b, y = .ref b ∧ H5 b = some (.tup (k.map kV)) ∧ H5 D = some (.dT kvs) ∧ kvs.length < sizeLine ∧ Pv (i + 1) (upd H5 D (.dT (putK kvs k z))))
    (hd : ∀ H, Pv n H → Qd H) : ∃ W : Nat → Nat → Hp → Prop, (∃ m, W 0 m (upd H1 D (.dT []))) ∧ ∀ i m H, W i m H →
      (J.stop i H ∧ Qd H) ∨ (J.go i H ∧ ∃ Nx : Hp → Prop, (∀ H', Nx H' → ∃ m', m' < m ∧ W (i + 1) m' H') ∧ ∀ x H', J.yld i H x H' → g x (wipe σ vs) H' fun σ2 H2 => wipe σ2 vs = wipe σ vs ∧
        tk σ2 H2 fun y H4 => tv σ2 H4 fun z H5 => ∃ kvs k b, y = .ref b ∧ H5 b = some (.tup (k.map kV)) ∧ H5 D = some (.dT kvs) ∧ kvs.length < sizeLine ∧ Nx (upd H5 D (.dT (putK kvs k z)))) := by
  refine ⟨fun i m H => m = n - i ∧ i ≤ n ∧ Pv i H, ⟨n, rfl, Nat.zero_le _, h0⟩, fun i m H ⟨em, hi, p⟩ => ?_⟩
  by_cases hlt : i < n
  · refine .inr ⟨w.goes i H hlt (hG i H hi p), Pv (i + 1), fun H' p' => ⟨n - (i + 1), by omega, rfl, hlt, p'⟩, fun x H' y => ?_⟩
    exact hs i x H H' hlt p (w.yields i H x H' hlt (hG i H hi p) y)
  · obtain rfl : i = n := by omega
    exact .inl ⟨w.stops H (hG i H hi p), hd H p⟩
/-- the second clause of two -/
theorem in_it {J : It} {n : Nat} {G : Hp → Prop} {Y : Nat → Hp → V → Hp → Prop} (w : Walk J n G Y) {up : Addr → V → V → Hp → (Hp → Prop) → Prop} {D : Addr} {g1 : TG} {tt1 : TT} {tk tv : TE} {vs1 : List Nat} {τ : L2.St} {H0 : Hp} {Nx : Hp → Prop} (Pv : Nat → Hp → Prop) (h0 : Pv 0 H0) (hG : ∀ i H, i ≤ n → Pv i H → G H)
    (hs : ∀ j x H H', j < n → Pv j H → Y j H x H' → g1 x (wipe τ vs1) H' fun τ2 H5 => wipe τ2 vs1 = wipe τ vs1 ∧ tt1 τ2 H5 fun b H6 => if b = true then tk τ2 H6 fun y H7 => tv τ2 H7 fun z H8 => up D y z H8 (Pv (j + 1)) else Pv (j + 1) H6)
    (hd : ∀ H, Pv n H → Nx H) : Ka.InP up D g1 tt1 tk tv vs1 τ Nx J H0 := by
  refine ⟨fun i m H => m = n - i ∧ i ≤ n ∧ Pv i H, ⟨n, rfl, Nat.zero_le _, h0⟩, fun i m H ⟨em, hi, p⟩ => ?_⟩
  by_cases hlt : i < n
  · refine .inr ⟨w.goes i H hlt (hG i H hi p), Pv (i + 1), fun H' p' => ⟨n - (i + 1), by omega, rfl, hlt, p'⟩, fun x H' y => ?_⟩
    exact hs i x H H' hlt p (w.yields i H x H' hlt (hG i H hi p) y)
  · obtain rfl : i = n := by omega
    exact .inl ⟨w.stops H (hG i H hi p), hd H p⟩
/-- the first -/
theorem out_it {J : It} {n : Nat} {G : Hp → Prop} {Y : Nat → Hp → V → Hp → Prop} (w : Walk J n G Y) {o0 : HO} {up : Addr → V → V → Hp → (Hp → Prop) → Prop} {g g1 : TG} {tt tt1 : TT} {wi1 : TI} {tk tv : TE} {vs vs1 : List Nat} {σ : L2.St} {H1 : Hp} {D : Addr} {Qd : Hp → Prop} (Pv : Nat → Hp → Prop) (h0 : Pv 0 (upd H1 D o0)) (hG : ∀ i H, i ≤ n → Pv i H → G H)
    (hs : ∀ i x H H', i < n → Pv i H → Y i H x H' → g x (wipe σ vs) H' fun τ H2 => wipe τ vs = wipe σ vs ∧ tt τ H2 fun b H3 => if b = true then wi1 τ H3 fun J1 H4 => Ka.InP up D g1 tt1 tk tv vs1 τ (Pv (i + 1)) J1 H4 else Pv (i + 1) H3)
    (hd : ∀ H, Pv n H → Qd H) : ∃ W : Nat → Nat → Hp → Prop, (∃ m, W 0 m (upd H1 D o0)) ∧ ∀ i m H, W i m H → (J.stop i H ∧ Qd H) ∨ (J.go i H ∧ ∃ Nx : Hp → Prop, (∀ H', Nx H' → ∃ m', m' < m ∧ W (i + 1) m' H') ∧
      ∀ x H', J.yld i H x H' → g x (wipe σ vs) H' fun τ H2 => wipe τ vs = wipe σ vs ∧ tt τ H2 fun b H3 => if b = true then wi1 τ H3 fun J1 H4 => Ka.InP up D g1 tt1 tk tv vs1 τ Nx J1 H4 else Nx H3) := by
  refine ⟨fun i m H => m = n - i ∧ i ≤ n ∧ Pv i H, ⟨n, rfl, Nat.zero_le _, h0⟩, fun i m H ⟨em, hi, p⟩ => ?_⟩
  by_cases hlt : i < n
  · refine .inr ⟨w.goes i H hlt (hG i H hi p), Pv (i + 1), fun H' p' => ⟨n - (i + 1), by omega, rfl, hlt, p'⟩, fun x H' y => ?_⟩
    exact hs i x H H' hlt p (w.yields i H x H' hlt (hG i H hi p) y)
  · obtain rfl : i = n := by omega
    exact .inl ⟨w.stops H (hG i H hi p), hd H p⟩
/-- a list comprehension with two clauses: the second -/
theorem lcin_it {J : It} {n : Nat} {G : Hp → Prop} {Y : Nat → Hp → V → Hp → Prop} (w : Walk J n G Y) {D : Addr} {g1 : TG} {tt1 : TT} {te : TE} {vs1 : List Nat} {τ : L2.St} {H0 : Hp} {Nx : Hp → Prop} (Pv : Nat → Hp → Prop) (h0 : Pv 0 H0) (hG : ∀ i H, i ≤ n → Pv i H → G H)
    (hs : ∀ j x H H', j < n → Pv j H → Y j H x H' → g1 x (wipe τ vs1) H' fun τ2 H5 => wipe τ2 vs1 = wipe τ vs1 ∧ tt1 τ2 H5 fun b H6 => if b = true then te τ2 H6 fun y H7 => ∃ acc, H7 D = some (.lst acc) ∧ acc.length < sizeLine ∧ Pv (j + 1) (upd H7 D (.lst (acc ++ [y]))) else Pv (j + 1) H6)
    (hd : ∀ H, Pv n H → Nx H) : ∃ W1 : Nat → Nat → Hp → Prop, (∃ m, W1 0 m H0) ∧ ∀ j k H, W1 j k H →
      (J.stop j H ∧ Nx H) ∨ (J.go j H ∧ ∃ Nx1 : Hp → Prop, (∀ H', Nx1 H' → ∃ k', k' < k ∧ W1 (j + 1) k' H') ∧ ∀ x H', J.yld j H x H' → g1 x (wipe τ vs1) H' fun σ3 H5 => wipe σ3 vs1 = wipe τ vs1 ∧ tt1 σ3 H5 fun b H6 =>
        if b = true then te σ3 H6 fun y H7 => ∃ acc, H7 D = some (.lst acc) ∧ acc.length < sizeLine ∧ Nx1 (upd H7 D (.lst (acc ++ [y]))) else Nx1 H6) := by
  refine ⟨fun i m H => m = n - i ∧ i ≤ n ∧ Pv i H, ⟨n, rfl, Nat.zero_le _, h0⟩, fun i m H ⟨em, hi, p⟩ => ?_⟩
  by_cases hlt : i < n
  · refine .inr ⟨w.goes i H hlt (hG i H hi p), Pv (i + 1), fun H' p' => ⟨n - (i + 1), by omega, rfl, hlt, p'⟩, fun x H' y => ?_⟩
    exact hs i x H H' hlt p (w.yields i H x H' hlt (hG i H hi p) y)
  · obtain rfl : i = n := by omega
    exact .inl ⟨w.stops H (hG i H hi p), hd H p⟩
/-- what the second clause asks -/
def LcIn (D : Addr) (g1 : TG) (tt1 : TT) (te : TE) (vs1 : List Nat) (σ2 : L2.St) (Nx : Hp → Prop) (J1 : It) (H4 : Hp) : Prop := ∃ W1 : Nat → Nat → Hp → Prop, (∃ m, W1 0 m H4) ∧ ∀ j k H, W1 j k H →
      (J1.stop j H ∧ Nx H) ∨ (J1.go j H ∧ ∃ Nx1 : Hp → Prop, (∀ H', Nx1 H' → ∃ k', k' < k ∧ W1 (j + 1) k' H') ∧ ∀ x H', J1.yld j H x H' → g1 x (wipe σ2 vs1) H' fun σ3 H5 => wipe σ3 vs1 = wipe σ2 vs1 ∧ tt1 σ3 H5 fun b H6 =>
        if b = true then te σ3 H6 fun y H7 => ∃ acc, H7 D = some (.lst acc) ∧ acc.length < sizeLine ∧ Nx1 (upd H7 D (.lst (acc ++ [y]))) else Nx1 H6)
theorem lcout_it {J : It} {n : Nat} {G : Hp → Prop} {Y : Nat → Hp → V → Hp → Prop} (w : Walk J n G Y) {g g1 : TG} {tt tt1 : TT} {wi1 : TI} {te : TE} {vs vs1 : List Nat} {σ : L2.St} {H1 : Hp} {D : Addr} {Qd : Hp → Prop} (Pv : Nat → Hp → Prop) (h0 : Pv 0 (upd H1 D (.lst []))) (hG : ∀ i H, i ≤ n → Pv i H → G H)
    (hs : ∀ i x H H', i < n → Pv i H → Y i H x H' → g x (wipe σ vs) H' fun τ H2 => wipe τ vs = wipe σ vs ∧ tt τ H2 fun b H3 => if b = true then wi1 τ H3 fun J1 H4 => LcIn D g1 tt1 te vs1 τ (Pv (i + 1)) J1 H4 else Pv (i + 1) H3)
    (hd : ∀ H, Pv n H → Qd H) : ∃ W : Nat → Nat → Hp → Prop, (∃ m, W 0 m (upd H1 D (.lst []))) ∧ ∀ i m H, W i m H → (J.stop i H ∧ Qd H) ∨ (J.go i H ∧ ∃ Nx : Hp → Prop, (∀ H', Nx H' → ∃ m', m' < m ∧ W (i + 1) m' H') ∧
      ∀ x H', J.yld i H x H' → g x (wipe σ vs) H' fun τ H2 => wipe τ vs = wipe σ vs ∧ tt τ H2 fun b H3 => if b = true then wi1 τ H3 fun J1 H4 => LcIn D g1 tt1 te vs1 τ Nx J1 H4 else Nx H3) := by
  refine ⟨fun i m H => m = n - i ∧ i ≤ n ∧ Pv i H, ⟨n, rfl, Nat.zero_le _, h0⟩, fun i m H ⟨em, hi, p⟩ => ?_⟩
  by_cases hlt : i < n
  · refine .inr ⟨w.goes i H hlt (hG i H hi p), Pv (i + 1), fun H' p' => ⟨n - (i + 1), by omega, rfl, hlt, p'⟩, fun x H' y => ?_⟩
    exact hs i x H H' hlt p (w.yields i H x H' hlt (hG i H hi p) y)
  · obtain rfl : i = n := by omega
    exact .inl ⟨w.stops H (hG i H hi p), hd H p⟩
theorem piT_at {X : Cx} {K : PySem.W.Frag} {tg l : Expr} {t : TE} (h : X.K = K) (hl : PE X l t) : PI X tg l (iTup K t) := by
  subst h
  exact pi_tup hl
theorem piL_at {X : Cx} {K : PySem.W.Frag} {tg l : Expr} {t : TE} (h : X.K = K) (hl : PE X l t) : PI X tg l (iList K t) := by
  subst h
  exact pi_list hl
theorem putK_new {κ : Type} [DecidableEq κ] : ∀ {kvs : List (κ × V)} {k : κ} {v : V}, k ∉ kvs.map (·.1) → putK kvs k v = kvs ++ [(k, v)] := by
  intro kvs k v h
  unfold putK
  rw [if_neg]
  rw [List.any_eq_true]
  rintro ⟨x, hx, e⟩
  exact h (List.mem_map.mpr ⟨x, hx, of_decide_eq_true e⟩)
theorem valV_mem {κ : Type} [DecidableEq κ] : ∀ {kvs : List (κ × V)} {k : κ} {v : V}, (kvs.map (·.1)).Nodup → (k, v) ∈ kvs → valV kvs k = some v
  | [], _, _, _, h => nomatch h
  | p :: r, k, v, nd, h => by
    rw [List.map_cons, List.nodup_cons] at nd
    rcases List.mem_cons.mp h with e | e
    · subst e
      exact valV_pos rfl
    · have : ¬ p.1 = k := fun z => nd.1 (z ▸ List.mem_map.mpr ⟨_, e, rfl⟩)
      rw [valV_neg this]
      exact valV_mem nd.2 e
theorem valV_none {κ : Type} [DecidableEq κ] : ∀ {kvs : List (κ × V)} {k : κ}, k ∉ kvs.map (·.1) → valV kvs k = none
  | [], _, _ => rfl
  | p :: r, k, h => by
    rw [List.map_cons, List.mem_cons, not_or] at h
    rw [valV_neg fun z => h.1 z.symm]
    exact valV_none h.2
theorem Rd.mono {H H' : Hp} {a : Addr} {u : HO} (h : Rd H a u) (s : Same H H') : Rd H' a u := h.elim (fun e => .inl (s _ _ e)) fun ⟨o, e⟩ => .inr ⟨o, s _ _ e⟩
end Kb
/-! comprehensions whose items are told beforehand; zip and enumerate of tuples as walks. -/
namespace Kb
open PySem PySem.Spec PyProof.Rows L2
theorem iteYes {c : Bool} {A B : Prop} (h : c = true) (a : A) : if c = true then A else B := by
  rw [if_pos h]
  exact a
theorem iteNo {c : Bool} {A B : Prop} (h : c = false) (b : B) : if c = true then A else B := by
  rw [h]
  exact iteF b
/-- the list at D holds the first i of ys, all else stands -/
def Lp (H1 : Hp) (D : Addr) (ys : List V) (i : Nat) (H : Hp) : Prop := Same H1 H ∧ H D = some (.lst (ys.take i))
theorem Lp.put {H1 H H4 : Hp} {D : Addr} {ys : List V} {i : Nat} {y : V} (h : Lp H1 D ys i H) (nD : H1 D = none) (s : Same H H4) (hy : ys[i]? = some y) (hl : ys.length ≤ 1000000) :
    ∃ acc, H4 D = some (.lst acc) ∧ acc.length < sizeLine ∧ Lp H1 D ys (i + 1) (upd H4 D (.lst (acc ++ [y]))) := by
  have hi := (List.getElem?_eq_some_iff.mp hy).1
  refine ⟨_, s _ _ h.2, Nat.lt_of_lt_of_le (m := ys.length) (by rw [List.length_take]; omega) (smallE hl), fun c u e => ?_, ?_⟩
  · rw [upd_ne (ne_of_none e nD)]
    exact s _ _ (h.1 _ _ e)
  · rw [upd_same, take_of_get hy]
section
variable {J : It} {n : Nat} {G : Hp → Prop} {Y : Nat → Hp → V → Hp → Prop}
theorem lc_pure (w : Walk J n G Y) {g : TG} {tt : TT} {te : TE} {vs : List Nat} {σ : L2.St} {H1 : Hp} {D : Addr} {Qd : Hp → Prop} (ys : List V) (hn : ys.length = n) (nD : H1 D = none) (hG : ∀ H, Same H1 H → G H)
    (hs : ∀ i x H H', i < n → Lp H1 D ys i H → Y i H x H' → g x (wipe σ vs) H' fun σ2 H2 => wipe σ2 vs = wipe σ vs ∧ tt σ2 H2 fun b H3 =>
      if b = true then te σ2 H3 fun y H4 => ∃ acc, H4 D = some (.lst acc) ∧ acc.length < sizeLine ∧ Lp H1 D ys (i + 1) (upd H4 D (.lst (acc ++ [y]))) else Lp H1 D ys (i + 1) H3) (hd : ∀ H, Same H1 H → H D = some (.lst ys) → Qd H) :
    ∃ W : Nat → Nat → Hp → Prop, (∃ m, W 0 m (upd H1 D (.lst []))) ∧ ∀ i m H, W i m H →
      (J.stop i H ∧ Qd H) ∨ (J.go i H ∧ ∃ Nx : Hp → Prop, (∀ H', Nx H' → ∃ m', m' < m ∧ W (i + 1) m' H') ∧ ∀ x H', J.yld i H x H' → g x (wipe σ vs) H' fun σ2 H2 => wipe σ2 vs = wipe σ vs ∧ tt σ2 H2 fun b H3 =>
        if b = true then te σ2 H3 fun y H4 => ∃ acc, H4 D = some (.lst acc) ∧ acc.length < sizeLine ∧ Nx (upd H4 D (.lst (acc ++ [y]))) else Nx H3) :=
  lc_it w (Lp H1 D ys) ⟨same_new nD, upd_same⟩ (fun i H _ h => hG H h.1) hs fun H h => hd H h.1 (by rw [h.2, List.take_of_length_le (by omega)])
end
section
variable {K : PySem.W.Frag} {a b : Addr} {xs ys : List V}
theorem walk_enumT : Walk (Ka.Iet K a) xs.length (fun H => SqT K H a xs) (YPair (fun i => some (.int (i : Nat))) (fun i => xs[i]?)) :=
  ⟨fun i _ hi q => ⟨xs, xs[i], q, by simp [hi]⟩, fun _ q => ⟨xs, q, Nat.le_refl _⟩, fun i H x H' _ q y => by
    obtain ⟨T, z, e, nT, e2, hz⟩ := y
    exact ⟨T, .int (i : Nat), z, e, nT, e2, rfl, hz xs q⟩⟩
theorem walk_zipT {n : Nat} (hn : n = min xs.length ys.length) : Walk (RZ.ItzT K a b) n (fun H => SqT K H a xs ∧ SqT K H b ys) (YPair (fun i => xs[i]?) (fun i => ys[i]?)) :=
  ⟨fun i _ hi q => ⟨xs, ys, xs[i]'(by omega), ys[i]'(by omega), q.1, q.2, List.getElem?_eq_getElem _, List.getElem?_eq_getElem _⟩, fun _ q => ⟨xs, ys, q.1, q.2, by omega⟩, fun i H x H' _ q y => by
    obtain ⟨T, u, v, e, nT, e2, hx, hy⟩ := y
    exact ⟨T, u, v, e, nT, e2, hx xs q.1, hy ys q.2⟩⟩
theorem tup_at {X : Cx} {K : PySem.W.Frag} {es : List Expr} {k : Nat} {pos : Pos} {t : TGs} {n : Nat} (h : X.K = K) (hc : X.calm = true) (hg : PGs X es t) (hst : List.findIdx? (fun x => x.fst) (assignEach es X.env) = none := by rfl) (hn : (assignEach es X.env).length = n := by rfl) : PG X (.Tuple es k pos) (gTup K n t) := by
  subst h
  subst hn
  exact pg_tup hc hg rfl hst
end
end Kb
namespace Kb
open PySem PySem.Spec PyProof.Rows L2
def Rows (H : Hp) (rs : List Ka.Row) : Prop := ∀ r ∈ rs, H r.1 = some (.tup (r.2.map V.str))
def adV (rs : List Ka.Row) : List V := rs.map fun r => V.ref r.1
/-! ### values as data: places, rows, lists of them -/
def natD (g : List Nat) : PyData := .tuple (g.map fun (i : Nat) => .int (i : Int))
/-- the lists of codes are the same: the texts are -/
theorem str_beq (x y : Str) : (x == y) = decide (x = y) := by
  by_cases h : x = y
  · subst h
    simp
  · rw [decide_eq_false h]
    exact beq_eq_false_iff_ne.mpr h
theorem eqvAll_map {α : Type} [DecidableEq α] {f : α → PyData} (h : ∀ a b, PyData.eqv (f a) (f b) = decide (a = b)) : ∀ l m : List α, PyData.eqvAll (l.map f) (m.map f) = decide (l = m)
  | [], [] => by simp [PyData.eqvAll]
  | [], _ :: _ => by simp [PyData.eqvAll]
  | _ :: _, [] => by simp [PyData.eqvAll]
  | x :: l, y :: m => by
    rw [List.map_cons, List.map_cons, PyData.eqvAll, h, eqvAll_map h l m]
    by_cases h1 : x = y <;> by_cases h2 : l = m <;> simp [h1, h2]
theorem eq_int (a b : Nat) : PyData.eqv (.int (a : Int)) (.int (b : Int)) = decide (a = b) := by
  rw [PyData.eqv]
  by_cases h : a = b
  · subst h
    simp
  · rw [decide_eq_false h]
    exact beq_eq_false_iff_ne.mpr (by omega)
theorem eq_str (a b : Str) : PyData.eqv (.str a) (.str b) = decide (a = b) := by
  rw [PyData.eqv, str_beq]
theorem eqN (g g' : List Nat) : PyData.eqv (natD g) (natD g') = decide (g = g') := by
  unfold natD
  rw [PyData.eqv, eqvAll_map (f := fun (i : Nat) => PyData.int (i : Int)) eq_int]
theorem eqR (r r' : List Str) : PyData.eqv (Ka.rowD r) (Ka.rowD r') = decide (r = r') := by
  unfold Ka.rowD
  rw [PyData.eqv, eqvAll_map eq_str]
theorem eqRows (l m : List (List Str)) : PyData.eqvAll (l.map Ka.rowD) (m.map Ka.rowD) = decide (l = m) := eqvAll_map eqR l m
theorem dep_le {α : Type} {f : α → PyData} {n : Nat} (h : ∀ a, (f a).depth ≤ n) : ∀ l : List α, PyData.depthAll (l.map f) ≤ n
  | [] => by simp [PyData.depthAll]
  | x :: l => by
    have h1 := h x
    have h2 := dep_le h l
    rw [List.map_cons]
    simp only [PyData.depthAll]
    omega
theorem lay_all {α : Type} {f : α → PyData} : ∀ l : List α, (∀ a ∈ l, (f a).canLay0 = true) → PyData.canLayAll0 (l.map f) = true
  | [], _ => by simp [PyData.canLayAll0]
  | x :: l, h => by
    rw [List.map_cons, PyData.canLayAll0, h x List.mem_cons_self, lay_all l fun a ha => h a (List.mem_cons_of_mem _ ha)]
    rfl
theorem shaped_of {d : PyData} (h1 : d.canLay0 = true) (h2 : d.depth ≤ 64) : SeqAt.shaped d = true := by
  unfold SeqAt.shaped
  rw [h1, decide_eq_true h2]
  rfl
theorem depN (g : List Nat) : (natD g).depth ≤ 2 := by
  unfold natD
  have := dep_le (f := fun (i : Nat) => PyData.int (i : Int)) (n := 1) (fun a => by simp [PyData.depth]) g
  simp only [PyData.depth]
  omega
theorem layN (g : List Nat) : (natD g).canLay0 = true := by
  unfold natD
  rw [PyData.canLay0]
  exact lay_all g fun a _ => by rw [PyData.canLay0]
theorem shN (g : List Nat) : SeqAt.shaped (natD g) = true := shaped_of (layN g) (Nat.le_trans (depN g) (by decide))
theorem depR (r : List Str) : (Ka.rowD r).depth ≤ 2 := by
  unfold Ka.rowD
  have := dep_le (f := PyData.str) (n := 1) (fun a => by simp [PyData.depth]) r
  simp only [PyData.depth]
  omega
theorem name_ok {z : Str} (h : isName z = true) : PyData.strOk z = true := by
  unfold isName at h
  rw [Bool.and_eq_true] at h
  unfold PyData.strOk
  rw [← Array.all_toList, List.all_eq_true]
  intro c hc
  have := List.all_eq_true.mp h.2 c hc
  unfold lowC at this
  rw [Bool.and_eq_true] at this
  have := of_decide_eq_true this.2
  exact decide_eq_true (by omega)
theorem layR {r : List Str} (h : ∀ z ∈ r, isName z = true) : (Ka.rowD r).canLay0 = true := by
  unfold Ka.rowD
  rw [PyData.canLay0]
  exact lay_all r fun a ha => by rw [PyData.canLay0]; exact name_ok (h a ha)
theorem shR {r : List Str} (h : ∀ z ∈ r, isName z = true) : SeqAt.shaped (Ka.rowD r) = true := shaped_of (layR h) (Nat.le_trans (depR r) (by decide))
theorem shRows {l : List (List Str)} (h : ∀ r ∈ l, ∀ z ∈ r, isName z = true) : SeqAt.shaped (.list (l.map Ka.rowD)) = true ∧ SeqAt.shaped (.tuple (l.map Ka.rowD)) = true := by
  have h1 := dep_le (f := Ka.rowD) (n := 2) depR l
  have h2 := lay_all (f := Ka.rowD) l fun r hr => layR (h r hr)
  exact ⟨shaped_of (by rw [PyData.canLay0]; exact h2) (by simp only [PyData.depth]; omega), shaped_of (by rw [PyData.canLay0]; exact h2) (by simp only [PyData.depth]; omega)⟩
section
variable {K : PySem.W.Frag} {H : Hp}
theorem dpNs : ∀ g : List Nat, DpAll K H (natV g) (g.map fun (i : Nat) => .int (i : Int))
  | [] => .nil
  | i :: g => .cons (.int _) (dpNs g)
theorem dpN {p : Addr} {g : List Nat} (h : H p = some (.tup (natV g))) : Dp K H (.ref p) (natD g) := .tup (sqT_new h) (dpNs g)
theorem dpRs : ∀ r : List Str, DpAll K H (r.map V.str) (r.map .str)
  | [] => .nil
  | i :: g => .cons (.str _) (dpRs g)
theorem dpR {p : Addr} {r : List Str} (h : H p = some (.tup (r.map V.str))) : Dp K H (.ref p) (Ka.rowD r) := .tup (sqT_new h) (dpRs r)
theorem dpRows : ∀ {rs : List Ka.Row}, Rows H rs → DpAll K H (adV rs) ((rs.map (·.2)).map Ka.rowD)
  | [], _ => .nil
  | r :: rs, h => .cons (dpR (h r List.mem_cons_self)) (dpRows fun q hq => h q (List.mem_cons_of_mem _ hq))
end
end Kb
namespace Kb
open PySem PySem.Spec PyProof.Rows L2
/-! ### courses as data -/
structure Stp where
  n : Nat
  call : Bool
  nm : Str
  o : Nat
  deriving DecidableEq
def kindS (c : Bool) : Str := if c = true then "call" else "do"
def stpK (s : Stp) : List L2.Key := [.inl (s.n : Int), .inr (kindS s.call), .inr s.nm, .inl (s.o : Int)]
def stpV (s : Stp) : List V := [.int (s.n : Int), .str (kindS s.call), .str s.nm, .int (s.o : Int)]
theorem stpKV (s : Stp) : (stpK s).map kV = stpV s := rfl
theorem kindS_inj {a b : Bool} (h : kindS a = kindS b) : a = b := by
  cases a <;> cases b <;> first | rfl | exact absurd h (by decide +kernel)
theorem stpK_inj {s t : Stp} (h : stpK s = stpK t) : s = t := by
  cases s with | mk a b c d => cases t with | mk a' b' c' d' =>
  unfold stpK at h
  injection h with h1 h
  injection h with h2 h
  injection h with h3 h
  injection h with h4 h
  have h1 := Sum.inl.inj h1
  have h2 := kindS_inj (Sum.inr.inj h2)
  have h3 := Sum.inr.inj h3
  have h4 := Sum.inl.inj h4
  have h1 : (a : Int) = (a' : Int) := h1
  have h4 : (d : Int) = (d' : Int) := h4
  obtain rfl : a = a' := by omega
  obtain rfl : d = d' := by omega
  have h2 : b = b' := h2
  have h3 : c = c' := h3
  rw [h2, h3]
def StpOk (n : Nat) (s : Stp) : Prop := s.n < n ∧ s.o < n ∧ isName s.nm = true
/-- a course where it stands -/
structure CA where
  a : Addr
  nm : Str
  n : Nat
  ea : Addr
  es : List Nat
  sa : Addr
  ss : List (Addr × Stp)
def crsV (c : CA) : List V := [.str c.nm, .int (c.n : Int), .ref c.ea, .ref c.sa]
structure CrsAt (K : PySem.W.Frag) (H : Hp) (c : CA) : Prop where
  t : SqT K H c.a (crsV c)
  e : SqT K H c.ea (natV c.es)
  s : SqT K H c.sa (c.ss.map fun p => V.ref p.1)
  p : ∀ p ∈ c.ss, H p.1 = some (.tup (stpV p.2))
theorem CrsAt.mono {K : PySem.W.Frag} {H H' : Hp} {c : CA} (s : Same H H') (h : CrsAt K H c) : CrsAt K H' c := ⟨Same.sqT s h.t, Same.sqT s h.e, Same.sqT s h.s, fun p hp => s _ _ (h.p p hp)⟩
structure CrsOk (c : CA) : Prop where
  nm : isName c.nm = true
  n0 : 1 ≤ c.n
  n1 : c.n ≤ 20
  el : ∀ e ∈ c.es, e < c.n
  asc : c.es.Pairwise (· < ·)
  sl : ∀ p ∈ c.ss, StpOk c.n p.2
  nd : (c.ss.map (·.2)).Nodup
  sz : c.ss.length ≤ 10000
  ez : c.es.length ≤ 10000
theorem name_len {s : Str} (h : isName s = true) : s.length ≤ sizeLine := by
  unfold isName at h
  rw [Bool.and_eq_true, Bool.and_eq_true] at h
  have := of_decide_eq_true h.1.2
  exact smallE (by show s.cps.size ≤ 1000000; omega)
theorem all_trueL (n : Nat) : (List.replicate n true).all id = true := by simp
section
variable {P : Program} {w : World} {K : PySem.W.Frag} {mg : Str → Option Value} {base : Heap}
def spIsLot (K : PySem.W.Frag) : Sp := fun vs H Q _ => ∃ (a : Addr) (l : List Nat), vs = [.ref a] ∧ SqT K H a (natV l) ∧ l.length ≤ 10000 ∧ l.Pairwise (· < ·) ∧ ∀ H', Same H H' → Q (.bl true) H'
abbrev nIl : List Str := ["values", "at"]
theorem scIl : FnScope nIl ["values"] (defScope sIsLot) := ⟨rfl, rfl, rfl, by decide +kernel, rfl, by decide +kernel, by decide +kernel⟩
theorem ok_islot {f : Addr} {fd : FuncData} (F : Fun K "is_lot" "is_lot" sIsLot f fd) (N : Nones mg) : FnOk P w K mg base CX0 1 f fd ["values"] (spIsLot K) := by
  refine F.ok scIl (fun vs H Q E h => ?_) (fun cdv A outer s H vs Q E hr h => ?_)
  · obtain ⟨a, l, rfl, _⟩ := h
    rfl
  · obtain ⟨a, l, rfl, hA, hl, asc, q⟩ := h
    refine ⟨_, pss_one (ps_ret (pe_callB (cr_all rfl) (by rfl) N.all (by decide +kernel) (pa_cons (pe_lc (own := [("at", 1)]) (g := gName 1) (tt := tYes) rfl scIl.nd (pi_range1 (by rfl) N.range (pa_cons (pe_op op_sub (pe_callB call_len_seq (by rfl) N.len PySem.boot_len (pa_cons (pv 0) pa_nil)) pe_int) pa_nil)) (blkOk_by (own := [("at", 1)]) (N := nIl) (sc := defScope sIsLot) (by decide +kernel)) (fun _ _ _ _ _ => (pg_name (i := 1) scIl.nd rfl (Or.inl rfl))) (fun _ _ _ _ _ => pts_nil) (fun _ _ _ _ _ => (pe_cmpR op_lt (pe_ix (ixT_at (K := K) rfl) (pv 0) (pv 1) (fun _ _ => rfl)) (pe_ix (ixT_at (K := K) rfl) (pv 0) (pe_op op_add (pv 1) pe_int) (fun _ _ => rfl)) (nomark _)))) pa_nil))), ?_⟩
    refine ⟨.ref a, rfl, a, _, rfl, .inr hA, _, 1, rfl, rfl, _, rfl, (by rw [natV_len]; omega), (by rw [natV_len]; omega), fun D nD => ?_⟩
    have em : (((natV l).length : Int) - 1).toNat = l.length - 1 := by rw [natV_len]; omega
    rw [em]
    refine lc_pure (walk_r0 (n := l.length - 1)) ((List.replicate (l.length - 1) true).map V.bl) (by rw [List.length_map, List.length_replicate]) nD (fun _ _ => True.intro) (fun i x H0 H' hi h0 y => ?_) (fun H' s' e => ?_)
    · obtain ⟨rfl, rfl⟩ := y
      have h1 : l[i]? = some (l[i]'(by omega)) := List.getElem?_eq_getElem _
      have h2 : l[i + 1]? = some (l[i + 1]'(by omega)) := List.getElem?_eq_getElem _
      refine ⟨rfl, .ref a, rfl, .int (i : Nat), rfl, a, _, _, _, rfl, rfl, Same.sqT h0.1 hA, atI_nat (natV_get h1), .ref a, rfl, .int (i : Nat), rfl, _, 1, rfl, rfl, a, _, _, .int ((l[i + 1]'(by omega) : Nat) : Int), rfl, rfl, Same.sqT h0.1 hA, ?_, _, _, rfl, rfl, ?_⟩
      · rw [show (i : Int) + 1 = ((i + 1 : Nat) : Int) from rfl]
        exact atI_nat (natV_get h2)
      · have lt : l[i]'(by omega) < l[i + 1]'(by omega) := List.pairwise_iff_getElem.mp asc i (i + 1) _ _ (Nat.lt_succ_self i)
        have e : decide (((l[i]'(by omega) : Nat) : Int) < ((l[i + 1]'(by omega) : Nat) : Int)) = true := decide_eq_true (by omega)
        dsimp only
        rw [e]
        refine h0.put nD (fun _ _ h => h) ?_ (by rw [List.length_map, List.length_replicate]; omega)
        rw [List.getElem?_map, List.getElem?_replicate, if_pos hi]
        rfl
    · refine ⟨D, _, rfl, sqL_new e, ?_⟩
      rw [all_trueL]
      exact q H' s'
end
end Kb
namespace Kb
open PySem PySem.Spec PyProof.Rows L2
/-! ### is_step, are_ends, are_steps, is_course: of good ones -/
section
variable {P : Program} {w : World} {K : PySem.W.Frag} {mg : Str → Option Value} {base : Heap}
def spIsStep : Sp := fun vs H Q _ => ∃ (a : Addr) (n : Nat) (s : Stp), vs = [.ref a, .int (n : Int)] ∧ H a = some (.tup (stpV s)) ∧ StpOk n s ∧ ∀ H', Same H H' → Q (.bl true) H'
abbrev nIs : List Str := ["value", "stages", "number", "kind", "name", "onto"]
theorem scIs : FnScope nIs ["value", "stages"] (defScope sIsStep) := ⟨rfl, rfl, rfl, by decide +kernel, rfl, by decide +kernel, by decide +kernel⟩
theorem ok_isstep {f fT fN : Addr} {fd fdT fdN : FuncData} (F : Fun K "is_step" "is_step" sIsStep f fd) (N : Nones mg) (G_is_number_to : FnOk P w K mg base CX0 3 fT fdT ["value", "most"] spIsNumTo) (C_is_number_to : CallC K mg "is_number_to" ["value", "most"] fT fdT) (G_is_name : FnOk P w K mg base CX0 2 fN fdN ["value"] (spName K)) (C_is_name : CallC K mg "is_name" ["value"] fN fdN) : FnOk P w K mg base CX0 4 f fd ["value", "stages"] spIsStep := by
  refine F.ok scIs (fun vs H Q E h => ?_) (fun cdv A outer s H vs Q E hr h => ?_)
  · obtain ⟨a, n, t, rfl, _⟩ := h
    rfl
  · obtain ⟨a, n, t, rfl, ha, ⟨o1, o2, o3⟩, q⟩ := h
    refine ⟨_, pss_cons (ps_if (PW.pt (pw_or (pt_not (pt_val (pe_callB call_isi (by rfl) N.isinstance (by decide +kernel) (pa_cons (pv 0) (pa_cons (pe_bltn (v := .ty "tuple") (by rfl) N.tuple (by decide +kernel) rfl) pa_nil))))) (pw_or1 (pt_cmpR op_ne (pe_callB call_len_seq (by rfl) N.len PySem.boot_len (pa_cons (pv 0) pa_nil)) pe_int (nomark _))))) (pss_one (ps_ret pe_bl)) pss_nil)
      (pss_cons (ps_asg (pv 0) (pg_tup rfl (pgs_cons (pg_name (i := 2) scIs.nd rfl (Or.inl rfl)) (pgs_cons (pg_name (i := 3) scIs.nd rfl (Or.inl rfl)) (pgs_cons (pg_name (i := 4) scIs.nd rfl (Or.inl rfl)) (pgs_cons (pg_name (i := 5) scIs.nd rfl (Or.inl rfl)) pgs_nil))))))
      (pss_cons (ps_if (PW.pt (pw_or (pt_not (pt_val (pe_call G_is_number_to (hr.mono (by decide)) (by rfl) C_is_number_to.g C_is_number_to.kp C_is_number_to.b .nil pass0 (pa_cons (pv 2) (pa_cons (pe_op op_sub (pv 1) pe_int) pa_nil))))) (pw_or1 (pt_not (pt_val (pe_call G_is_number_to (hr.mono (by decide)) (by rfl) C_is_number_to.g C_is_number_to.kp C_is_number_to.b .nil pass0 (pa_cons (pv 5) (pa_cons (pe_op op_sub (pv 1) pe_int) pa_nil)))))))) (pss_one (ps_ret pe_bl)) pss_nil)
      (pss_one (ps_ret (pe_and (pe_callB call_isi (by rfl) N.isinstance (by decide +kernel) (pa_cons (pv 3) (pa_cons (pe_bltn (v := .ty "str") (by rfl) N.str (by decide +kernel) rfl) pa_nil))) (pe_and (pe_cmpR op_in_seq (pv 3) (pe_tup (pa_cons pe_str (pa_cons pe_str pa_nil))) (by rfl)) (pe_one (pe_call G_is_name (hr.mono (by decide)) (by rfl) C_is_name.g C_is_name.kp C_is_name.b .nil pass0 (pa_cons (pv 4) pa_nil))))))))), ?_⟩
    have hA : SqT K H a (stpV t) := sqT_new ha
    refine ⟨.ref a, rfl, .ref a, .ty "tuple", .type "tuple", .type "tuple", true, rfl, .ty "tuple", tyT hA, kit_ty (by decide +kernel), true, rfl, iteF ?_⟩
    refine ⟨.ref a, rfl, a, _, rfl, .inr hA, rfl, _, rfl, iteNo (by simp [stpV]) ?_⟩
    refine ⟨.ref a, rfl, a, _, rfl, hA, rfl, _, _, rfl, _, _, rfl, _, _, rfl, _, _, rfl, rfl, ?_⟩
    have y1 : (decide ((0 : Int) ≤ (t.n : Int)) && decide ((t.n : Int) ≤ (n : Int) - 1)) = true := by
      rw [decide_eq_true (by omega), decide_eq_true (by omega)]
      rfl
    have y2 : (decide ((0 : Int) ≤ (t.o : Int)) && decide ((t.o : Int) ≤ (n : Int) - 1)) = true := by
      rw [decide_eq_true (by omega), decide_eq_true (by omega)]
      rfl
    refine ⟨_, rfl, _, rfl, _, _, rfl, rfl, _, _, rfl, ?_⟩
    rw [y1]
    refine ⟨true, rfl, iteF ⟨_, rfl, _, rfl, _, _, rfl, rfl, _, _, rfl, ?_⟩⟩
    rw [y2]
    refine ⟨true, rfl, iteF ?_⟩
    refine ⟨_, rfl, .str (kindS t.call), .ty "str", .type "str", .type "str", true, rfl, .ty "str", .base (.str _), kit_ty (by decide +kernel), _, rfl, ite2 (fun _ => ?_) (fun c => absurd rfl c)⟩
    have hin : inV (V.str (kindS t.call)) [V.str "do", V.str "call"] = true := by
      cases t.call <;> decide +kernel
    refine ⟨_, rfl, smallE (by show 2 ≤ 1000000; decide), fun p np => ⟨p, _, rfl, .inr (sqT_new upd_same), rfl, rfl, ?_⟩⟩
    have s1 : Same H (upd H p (.tup [V.str "do", V.str "call"])) := same_new np
    refine ⟨_, rfl, iteYes hin ?_⟩
    exact ⟨_, rfl, _, rfl, .inr ⟨_, rfl, name_len o3, fun H' s' => by rw [o3]; exact q H' (s1.trans s')⟩⟩
def spAreEnds (K : PySem.W.Frag) : Sp := fun vs H Q _ => ∃ (a : Addr) (n : Nat) (l : List Nat), vs = [.ref a, .int (n : Int)] ∧ SqT K H a (natV l) ∧ l.length ≤ 10000 ∧ l.Pairwise (· < ·) ∧ (∀ e ∈ l, e < n) ∧ ∀ H', Same H H' → Q (.bl true) H'
abbrev nAe : List Str := ["ends", "stages", "number"]
theorem scAe : FnScope nAe ["ends", "stages"] (defScope sAreEnds) := ⟨rfl, rfl, rfl, by decide +kernel, rfl, by decide +kernel, by decide +kernel⟩
theorem ok_areends {f fT fN : Addr} {fd fdT fdN : FuncData} (F : Fun K "are_ends" "are_ends" sAreEnds f fd) (N : Nones mg) (G_is_number_to : FnOk P w K mg base CX0 3 fT fdT ["value", "most"] spIsNumTo) (C_is_number_to : CallC K mg "is_number_to" ["value", "most"] fT fdT) (G_is_lot : FnOk P w K mg base CX0 1 fN fdN ["values"] (spIsLot K)) (C_is_lot : CallC K mg "is_lot" ["values"] fN fdN) : FnOk P w K mg base CX0 4 f fd ["ends", "stages"] (spAreEnds K) := by
  refine F.ok scAe (fun vs H Q E h => ?_) (fun cdv A outer s H vs Q E hr h => ?_)
  · obtain ⟨a, n, t, rfl, _⟩ := h
    rfl
  · obtain ⟨a, n, l, rfl, hA, hz, asc, lt, q⟩ := h
    refine ⟨_, pss_cons (ps_if (pt_not (pt_val (pe_callB call_isi (by rfl) N.isinstance (by decide +kernel) (pa_cons (pv 0) (pa_cons (pe_bltn (v := .ty "tuple") (by rfl) N.tuple (by decide +kernel) rfl) pa_nil))))) (pss_one (ps_ret pe_bl)) pss_nil)
      (pss_one (ps_ret (pe_and (pe_callB (cr_all rfl) (by rfl) N.all (by decide +kernel) (pa_cons (pe_lc (own := [("number", 2)]) (g := gName 2) (tt := tYes) rfl scAe.nd (pi_tup (pv 0)) (blkOk_by (own := [("number", 2)]) (N := nAe) (sc := defScope sAreEnds) (by decide +kernel)) (fun _ _ _ _ _ => (pg_name (i := 2) scAe.nd rfl (Or.inl rfl))) (fun _ _ _ _ _ => pts_nil) (fun _ _ _ _ _ => (pe_call G_is_number_to (hr.mono (by decide)) (by rfl) C_is_number_to.g C_is_number_to.kp C_is_number_to.b .nil pass0 (pa_cons (pv 2) (pa_cons (pe_op op_sub (pv 1) pe_int) pa_nil))))) pa_nil)) (pe_one (pe_call G_is_lot (hr.mono (by decide)) (by rfl) C_is_lot.g C_is_lot.kp C_is_lot.b .nil pass0 (pa_cons (pv 0) pa_nil)))))), ?_⟩
    refine ⟨.ref a, rfl, .ref a, .ty "tuple", .type "tuple", .type "tuple", true, rfl, .ty "tuple", tyT hA, kit_ty (by decide +kernel), true, rfl, iteF ?_⟩
    refine ⟨.ref a, rfl, a, rfl, ⟨_, hA⟩, fun D nD => ?_⟩
    refine lc_pure (walk_tup (K := K) (a := a) (xs := natV l)) ((List.replicate l.length true).map V.bl) (by rw [List.length_map, List.length_replicate, natV_len]) nD (fun _ s => Same.sqT s hA) (fun i x H0 H' hi h0 y => ?_) (fun H' s' e => ?_)
    · obtain ⟨rfl, hx⟩ := y
      rw [natV_len] at hi
      have hg : l[i]? = some (l[i]'hi) := List.getElem?_eq_getElem _
      have hx' := natV_get hg
      rw [hx] at hx'
      cases hx'
      have lti := lt _ (List.getElem_mem hi)
      refine ⟨rfl, _, rfl, _, rfl, _, _, rfl, rfl, _, _, rfl, ?_⟩
      have y1 : (decide ((0 : Int) ≤ ((l[i]'hi : Nat) : Int)) && decide (((l[i]'hi : Nat) : Int) ≤ (n : Int) - 1)) = true := by
        rw [decide_eq_true (by omega), decide_eq_true (by omega)]
        rfl
      rw [y1]
      refine h0.put nD (fun _ _ h => h) ?_ (by rw [List.length_map, List.length_replicate]; omega)
      rw [List.getElem?_map, List.getElem?_replicate, if_pos hi]
      rfl
    · refine ⟨D, _, rfl, sqL_new e, ?_⟩
      rw [all_trueL]
      refine ⟨_, rfl, iteYes rfl ?_⟩
      exact ⟨.ref a, rfl, a, l, rfl, Same.sqT s' hA, hz, asc, fun H2 s2 => q H2 (s'.trans s2)⟩
def spAreSteps (K : PySem.W.Frag) : Sp := fun vs H Q _ => ∃ (a : Addr) (n : Nat) (l : List (Addr × Stp)), vs = [.ref a, .int (n : Int)] ∧ SqT K H a (l.map fun p => V.ref p.1) ∧ (∀ p ∈ l, H p.1 = some (.tup (stpV p.2))) ∧ l.length ≤ 10000 ∧ (l.map (·.2)).Nodup ∧ (∀ p ∈ l, StpOk n p.2) ∧ ∀ H', Same H H' → Q (.bl true) H'
abbrev nAt : List Str := ["steps", "stages", "step"]
theorem scAt : FnScope nAt ["steps", "stages"] (defScope sAreSteps) := ⟨rfl, rfl, rfl, by decide +kernel, rfl, by decide +kernel, by decide +kernel⟩
theorem ok_aresteps {f fT : Addr} {fd fdT : FuncData} (F : Fun K "are_steps" "are_steps" sAreSteps f fd) (N : Nones mg) (G_is_step : FnOk P w K mg base CX0 4 fT fdT ["value", "stages"] spIsStep) (C_is_step : CallC K mg "is_step" ["value", "stages"] fT fdT) : FnOk P w K mg base CX0 5 f fd ["steps", "stages"] (spAreSteps K) := by
  refine F.ok scAt (fun vs H Q E h => ?_) (fun cdv A outer s H vs Q E hr h => ?_)
  · obtain ⟨a, n, t, rfl, _⟩ := h
    rfl
  · obtain ⟨a, n, l, rfl, hA, hP, hz, nd, ok, q⟩ := h
    refine ⟨_, pss_cons (ps_if (PW.pt (pw_or (pt_not (pt_val (pe_callB call_isi (by rfl) N.isinstance (by decide +kernel) (pa_cons (pv 0) (pa_cons (pe_bltn (v := .ty "tuple") (by rfl) N.tuple (by decide +kernel) rfl) pa_nil))))) (pw_or1 (pt_not (pt_val (pe_callB (cr_all rfl) (by rfl) N.all (by decide +kernel) (pa_cons (pe_lc (own := [("step", 2)]) (g := gName 2) (tt := tYes) rfl scAt.nd (pi_tup (pv 0)) (blkOk_by (own := [("step", 2)]) (N := nAt) (sc := defScope sAreSteps) (by decide +kernel)) (fun _ _ _ _ _ => (pg_name (i := 2) scAt.nd rfl (Or.inl rfl))) (fun _ _ _ _ _ => pts_nil) (fun _ _ _ _ _ => (pe_call G_is_step (hr.mono (by decide)) (by rfl) C_is_step.g C_is_step.kp C_is_step.b .nil pass0 (pa_cons (pv 2) (pa_cons (pv 1) pa_nil))))) pa_nil))))))) (pss_one (ps_ret pe_bl)) pss_nil)
      (pss_one (ps_ret (pe_cmpR op_eq (pe_callB call_len_dT (by rfl) N.len PySem.boot_len (pa_cons (Ka.pe_dcT (own := [("step", 2)]) (g := gName 2) rfl (hu_of hr) scAt.nd (pi_tup (pv 0)) (blkOk_by (own := [("step", 2)]) (N := nAt) (sc := defScope sAreSteps) (by decide +kernel)) (fun _ _ _ _ _ => (pg_name (i := 2) scAt.nd rfl (Or.inl rfl))) (fun _ _ _ _ _ => (pv 2)) (fun _ _ _ _ _ => pe_bl)) pa_nil)) (pe_callB call_len_seq (by rfl) N.len PySem.boot_len (pa_cons (pv 0) pa_nil)) (nomark _)))), ?_⟩
    refine ⟨.ref a, rfl, .ref a, .ty "tuple", .type "tuple", .type "tuple", true, rfl, .ty "tuple", tyT hA, kit_ty (by decide +kernel), true, rfl, iteF ?_⟩
    refine ⟨.ref a, rfl, a, rfl, ⟨_, hA⟩, fun D nD => ?_⟩
    refine lc_pure (walk_tup (K := K) (a := a) (xs := l.map fun p => V.ref p.1)) ((List.replicate l.length true).map V.bl) (by rw [List.length_map, List.length_replicate, List.length_map]) nD (fun _ s => Same.sqT s hA) (fun i x H0 H' hi h0 y => ?_) (fun H' s' e => ?_)
    · obtain ⟨rfl, hx⟩ := y
      rw [List.length_map] at hi
      obtain ⟨p, hp, rfl⟩ := get_map hx
      have mp := List.mem_of_getElem? hp
      refine ⟨rfl, _, rfl, _, rfl, p.1, n, p.2, rfl, h0.1 _ _ (hP p mp), ok p mp, fun H2 s2 => ?_⟩
      refine h0.put nD s2 ?_ (by rw [List.length_map, List.length_replicate]; omega)
      rw [List.getElem?_map, List.getElem?_replicate, if_pos hi]
      rfl
    · refine ⟨D, _, rfl, sqL_new e, ?_⟩
      rw [all_trueL]
      refine ⟨true, rfl, iteF ?_⟩
      refine ⟨.ref a, rfl, a, rfl, ⟨_, Same.sqT s' hA⟩, fun D2 nD2 => ?_⟩
      refine dcT_it (walk_tup (K := K) (a := a) (xs := l.map fun p => V.ref p.1)) (fun i H2 => Same H' H2 ∧ H2 D2 = some (.dT ((l.take i).map fun p => (stpK p.2, V.bl true)))) ⟨same_new nD2, upd_same⟩ (fun _ _ _ h => Same.sqT h.1 (Same.sqT s' hA)) (fun i x H0 H2 hi h0 y => ?_) (fun H2 h => ?_)
      · obtain ⟨rfl, hx⟩ := y
        rw [List.length_map] at hi
        obtain ⟨p, hp, rfl⟩ := get_map hx
        have mp := List.mem_of_getElem? hp
        refine ⟨rfl, _, rfl, _, stpK p.2, p.1, rfl, h0.1 _ _ (s' _ _ (hP p mp)), h0.2, ?_, fun c o e => ?_, ?_⟩
        · rw [List.length_map, List.length_take]
          exact small (by omega)
        · rw [upd_ne (ne_of_none e nD2)]
          exact h0.1 _ _ e
        · rw [upd_same, putK_new, take_of_get hp, List.map_append, List.map_singleton]
          rw [List.map_map]
          intro hm
          obtain ⟨p2, hp2, e2⟩ := List.mem_map.mp hm
          have e2 : p2.2 = p.2 := stpK_inj e2
          obtain ⟨j, hj⟩ := List.getElem?_of_mem hp2
          rw [List.getElem?_take] at hj
          split at hj
          · rename_i hlt
            have g1 : (l.map (·.2))[j]? = some p.2 := by rw [List.getElem?_map, hj, ← e2]; rfl
            have g2 : (l.map (·.2))[i]? = some p.2 := by rw [List.getElem?_map, hp]; rfl
            have := (List.getElem?_inj (by rw [List.length_map]; omega) nd).mp (g1.trans g2.symm)
            omega
          · cases hj
      · obtain ⟨s2, e2⟩ := h
        rw [List.length_map, List.take_of_length_le (Nat.le_refl _)] at e2
        refine ⟨D2, _, rfl, e2, .ref a, rfl, a, _, rfl, .inr (Same.sqT s2 (Same.sqT s' hA)), rfl, ?_⟩
        have e3 : decide (V.int (((l.map fun p => (stpK p.2, V.bl true)).length : Nat) : Int) = V.int (((l.map fun p => V.ref p.1).length : Nat) : Int)) = true := decide_eq_true (by rw [List.length_map, List.length_map])
        dsimp only
        rw [e3]
        exact q _ (s'.trans s2)
def spIsCourse (K : PySem.W.Frag) : Sp := fun vs H Q _ => ∃ (c : CA), vs = [.ref c.a] ∧ CrsAt K H c ∧ CrsOk c ∧ ∀ H', Same H H' → Q (.bl true) H'
abbrev nIc : List Str := ["value", "name", "stages", "ends", "steps"]
theorem scIc : FnScope nIc ["value"] (defScope sIsCourse) := ⟨rfl, rfl, rfl, by decide +kernel, rfl, by decide +kernel, by decide +kernel⟩
theorem ok_iscourse {f fT fN fE fS : Addr} {fd fdT fdN fdE fdS : FuncData} (F : Fun K "is_course" "is_course" sIsCourse f fd) (N : Nones mg) {tag : Nat} (g_MOST_STAGES : mg "MOST_STAGES" = some (.int 20 tag)) (G_is_number_to : FnOk P w K mg base CX0 3 fT fdT ["value", "most"] spIsNumTo) (C_is_number_to : CallC K mg "is_number_to" ["value", "most"] fT fdT) (G_is_name : FnOk P w K mg base CX0 2 fN fdN ["value"] (spName K)) (C_is_name : CallC K mg "is_name" ["value"] fN fdN)
    (G_are_ends : FnOk P w K mg base CX0 4 fE fdE ["ends", "stages"] (spAreEnds K)) (C_are_ends : CallC K mg "are_ends" ["ends", "stages"] fE fdE) (G_are_steps : FnOk P w K mg base CX0 5 fS fdS ["steps", "stages"] (spAreSteps K)) (C_are_steps : CallC K mg "are_steps" ["steps", "stages"] fS fdS) : FnOk P w K mg base CX0 6 f fd ["value"] (spIsCourse K) := by
  refine F.ok scIc (fun vs H Q E h => ?_) (fun cdv A outer s H vs Q E hr h => ?_)
  · obtain ⟨c, rfl, _⟩ := h
    rfl
  · obtain ⟨c, rfl, hc, ok, q⟩ := h
    refine ⟨_, pss_cons (ps_if (PW.pt (pw_or (pt_not (pt_val (pe_callB call_isi (by rfl) N.isinstance (by decide +kernel) (pa_cons (pv 0) (pa_cons (pe_bltn (v := .ty "tuple") (by rfl) N.tuple (by decide +kernel) rfl) pa_nil))))) (pw_or1 (pt_cmpR op_ne (pe_callB call_len_seq (by rfl) N.len PySem.boot_len (pa_cons (pv 0) pa_nil)) pe_int (nomark _))))) (pss_one (ps_ret pe_bl)) pss_nil)
      (pss_cons (ps_asg (pv 0) (pg_tup rfl (pgs_cons (pg_name (i := 1) scIc.nd rfl (Or.inl rfl)) (pgs_cons (pg_name (i := 2) scIc.nd rfl (Or.inl rfl)) (pgs_cons (pg_name (i := 3) scIc.nd rfl (Or.inl rfl)) (pgs_cons (pg_name (i := 4) scIc.nd rfl (Or.inl rfl)) pgs_nil))))))
      (pss_cons (ps_if (PW.pt (pw_or (pt_not (pt_val (pe_call G_is_name (hr.mono (by decide)) (by rfl) C_is_name.g C_is_name.kp C_is_name.b .nil pass0 (pa_cons (pv 1) pa_nil)))) (pw_or (pt_not (pt_val (pe_call G_is_number_to (hr.mono (by decide)) (by rfl) C_is_number_to.g C_is_number_to.kp C_is_number_to.b .nil pass0 (pa_cons (pv 2) (pa_cons (pe_glob (v := .int 20) rfl g_MOST_STAGES ⟨_, rfl⟩) pa_nil))))) (pw_or1 (pt_cmpR op_eq (pv 2) pe_int (nomark _)))))) (pss_one (ps_ret pe_bl)) pss_nil)
      (pss_one (ps_ret (pe_and (pe_call G_are_ends (hr.mono (by decide)) (by rfl) C_are_ends.g C_are_ends.kp C_are_ends.b .nil pass0 (pa_cons (pv 3) (pa_cons (pv 2) pa_nil))) (pe_one (pe_call G_are_steps (hr.mono (by decide)) (by rfl) C_are_steps.g C_are_steps.kp C_are_steps.b .nil pass0 (pa_cons (pv 4) (pa_cons (pv 2) pa_nil))))))))), ?_⟩
    have hA := hc.t
    refine ⟨_, rfl, .ref c.a, .ty "tuple", .type "tuple", .type "tuple", true, rfl, .ty "tuple", tyT hA, kit_ty (by decide +kernel), true, rfl, iteF ?_⟩
    refine ⟨_, rfl, c.a, _, rfl, .inr hA, rfl, _, rfl, iteNo (by simp [crsV]) ?_⟩
    refine ⟨_, rfl, c.a, _, rfl, hA, rfl, _, _, rfl, _, _, rfl, _, _, rfl, _, _, rfl, rfl, ?_⟩
    have y1 : (decide ((0 : Int) ≤ (c.n : Int)) && decide ((c.n : Int) ≤ 20)) = true := by
      have := ok.n1
      rw [decide_eq_true (by omega), decide_eq_true (by omega)]
      rfl
    refine ⟨_, rfl, _, rfl, .inr ⟨_, rfl, name_len ok.nm, fun H1 s1 => ?_⟩⟩
    rw [ok.nm]
    refine ⟨true, rfl, iteF ?_⟩
    refine ⟨_, rfl, _, _, rfl, ?_⟩
    rw [y1]
    refine ⟨true, rfl, iteF ?_⟩
    have n0 := ok.n0
    refine ⟨_, rfl, rfl, _, rfl, iteNo (decide_eq_false fun h => by injection h with h; omega) ?_⟩
    refine ⟨_, rfl, _, rfl, c.ea, c.n, c.es, rfl, Same.sqT s1 hc.e, ok.ez, ok.asc, ok.el, fun H2 s2 => ?_⟩
    refine ⟨_, rfl, iteYes rfl ?_⟩
    exact ⟨_, rfl, _, rfl, c.sa, c.n, c.ss, rfl, Same.sqT (s1.trans s2) hc.s, fun p hp => (s1.trans s2) _ _ (hc.p p hp), ok.sz, ok.nd, ok.sl, fun H3 s3 => q H3 ((s1.trans s2).trans s3)⟩
end
end Kb
namespace Kb
open PySem PySem.Spec PyProof.Rows L2
/-! ### the deeds of courses -/
def addD (l : List Str) (d : Str) : List Str := if d ∈ l then l else l ++ [d]
/-- each text once, where it stands first -/
def uniq (l : List Str) : List Str := l.foldl addD []
theorem uniq_snoc (l : List Str) (d : Str) : uniq (l ++ [d]) = addD (uniq l) d := by
  unfold uniq
  rw [List.foldl_append]
  rfl
theorem uniq_ind {C : List Str → List Str → Prop} (h0 : C [] []) (h1 : ∀ l d, C l (uniq l) → C (l ++ [d]) (addD (uniq l) d)) : ∀ l, C l (uniq l) := by
  intro l
  have : ∀ n, ∀ l : List Str, l.length = n → C l (uniq l) := by
    intro n
    induction n with
    | zero =>
      intro l h
      rw [List.eq_nil_of_length_eq_zero h]
      exact h0
    | succ n ih =>
      intro l h
      have hne : l ≠ [] := by
        intro z
        rw [z] at h
        cases h
      have e := List.dropLast_concat_getLast hne
      rw [← e, uniq_snoc]
      exact h1 _ _ (ih _ (by rw [List.length_dropLast, h]; rfl))
  exact this _ l rfl
theorem mem_uniq (l : List Str) (x : Str) : x ∈ uniq l ↔ x ∈ l := by
  refine uniq_ind (C := fun l u => x ∈ u ↔ x ∈ l) (Iff.rfl) (fun l d h => ?_) l
  unfold addD
  by_cases hd : d ∈ uniq l
  · rw [if_pos hd, h, List.mem_append, List.mem_singleton]
    refine ⟨.inl, fun z => z.elim id fun z => ?_⟩
    rw [z] at h ⊢
    exact h.mp hd
  · rw [if_neg hd, List.mem_append, List.mem_append, h]
theorem uniq_nd (l : List Str) : (uniq l).Nodup := by
  refine uniq_ind (C := fun l u => u.Nodup) List.nodup_nil (fun l d h => ?_) l
  unfold addD
  by_cases hd : d ∈ uniq l
  · rw [if_pos hd]
    exact h
  · rw [if_neg hd, List.nodup_append]
    exact ⟨h, by simp, fun a ha b hb e => hd (by rw [← List.mem_singleton.mp hb, ← e]; exact ha)⟩
theorem uniq_len (l : List Str) : (uniq l).length ≤ l.length := by
  refine uniq_ind (C := fun l u => u.length ≤ l.length) (Nat.le_refl _) (fun l d h => ?_) l
  unfold addD
  rw [List.length_append]
  split
  · exact Nat.le_trans h (Nat.le_add_right _ _)
  · rw [List.length_append]
    exact Nat.add_le_add_right h _
def deedKV (l : List Str) : List (L2.Key × V) := l.map fun d => (Sum.inr d, V.bl true)
theorem deedKV_keys (l : List Str) : (deedKV l).map (·.1) = l.map Sum.inr := by
  unfold deedKV
  rw [List.map_map]
  rfl
theorem deedKV_len (l : List Str) : (deedKV l).length = l.length := List.length_map _
theorem put_deed (l : List Str) (d : Str) : putK (deedKV l) (Sum.inr d : L2.Key) (V.bl true) = deedKV (addD l d) := by
  unfold addD
  by_cases h : d ∈ l
  · rw [if_pos h]
    unfold putK
    have hany : ((deedKV l).any fun q => decide (q.1 = (Sum.inr d : L2.Key))) = true := by
      rw [List.any_eq_true]
      exact ⟨(Sum.inr d, V.bl true), List.mem_map.mpr ⟨d, h, rfl⟩, decide_eq_true rfl⟩
    rw [if_pos hany]
    have : ∀ q ∈ deedKV l, (if q.1 = (Sum.inr d : L2.Key) then ((q.1, V.bl true) : L2.Key × V) else q) = q := by
      intro q hq
      obtain ⟨x, hx, rfl⟩ := List.mem_map.mp hq
      split <;> rfl
    exact (List.map_congr_left this).trans (List.map_id _)
  · rw [if_neg h, putK_new, deedKV, deedKV, List.map_append]
    · rfl
    · rw [deedKV_keys]
      intro z
      obtain ⟨y, hy, e⟩ := List.mem_map.mp z
      exact h (by rw [← Sum.inr.inj e]; exact hy)
/-- the deeds of some steps, in their order -/
def dn (ss : List (Addr × Stp)) : List Str := (ss.filter fun p => !p.2.call).map (·.2.nm)
def dns (cs : List CA) : List Str := cs.flatMap fun c => dn c.ss
theorem dn_snoc {ss : List (Addr × Stp)} {i : Nat} {p : Addr × Stp} (h : ss[i]? = some p) : dn (ss.take (i + 1)) = dn (ss.take i) ++ (if p.2.call = true then [] else [p.2.nm]) := by
  unfold dn
  rw [take_of_get h, List.filter_append, List.map_append]
  cases e : p.2.call
  · simp [e]
  · simp [e]
theorem dns_snoc {cs : List CA} {i : Nat} {c : CA} (h : cs[i]? = some c) : dns (cs.take (i + 1)) = dns (cs.take i) ++ dn c.ss := by
  unfold dns
  rw [take_of_get h, List.flatMap_append]
  simp
theorem dn_len (ss : List (Addr × Stp)) : (dn ss).length ≤ ss.length := by
  unfold dn
  rw [List.length_map]
  exact List.length_filter_le _ _
theorem dns_le {cs : List CA} {i j : Nat} {c : CA} (h : cs[i]? = some c) : (dns (cs.take i) ++ dn (c.ss.take j)).length ≤ (dns cs).length := by
  have e : cs = cs.take i ++ c :: cs.drop (i + 1) := by
    conv => lhs; rw [← List.take_append_drop i cs, drop_of_get h]
  have e2 : dns cs = dns (cs.take i) ++ (dn c.ss ++ dns (cs.drop (i + 1))) := by
    conv => lhs; rw [e]
    unfold dns
    rw [List.flatMap_append, List.flatMap_cons]
  rw [e2, List.length_append, List.length_append, List.length_append]
  have : (dn (c.ss.take j)).length ≤ (dn c.ss).length := by
    unfold dn
    rw [List.length_map, List.length_map]
    exact (List.Sublist.filter _ (List.take_sublist j c.ss)).length_le
  omega
def CsAt (K : PySem.W.Frag) (H : Hp) (a : Addr) (cs : List CA) : Prop := SqT K H a (cs.map fun c => V.ref c.a) ∧ ∀ c ∈ cs, CrsAt K H c
theorem CsAt.mono {K : PySem.W.Frag} {H H' : Hp} {a : Addr} {cs : List CA} (s : Same H H') (h : CsAt K H a cs) : CsAt K H' a cs := ⟨Same.sqT s h.1, fun c hc => (h.2 c hc).mono s⟩
section
variable {P : Program} {w : World} {K : PySem.W.Frag} {mg : Str → Option Value} {base : Heap}
def spDeedsIn (K : PySem.W.Frag) : Sp := fun vs H Q _ => ∃ (a : Addr) (cs : List CA), vs = [.ref a] ∧ CsAt K H a cs ∧ (dns cs).length ≤ 100000 ∧ ∀ H' D, Same H H' → H D = none → H' D = some (.dK (deedKV (uniq (dns cs)))) → Q (.ref D) H'
abbrev nDi : List Str := ["courses", "course", "step"]
theorem scDi : FnScope nDi ["courses"] (defScope sDeedsIn) := ⟨rfl, rfl, rfl, by decide +kernel, rfl, by decide +kernel, by decide +kernel⟩
theorem ok_deedsin {f : Addr} {fd : FuncData} (F : Fun K "deeds_in" "deeds_in" sDeedsIn f fd) : FnOk P w K mg base CX0 1 f fd ["courses"] (spDeedsIn K) := by
  refine F.ok scDi (fun vs H Q E h => ?_) (fun cdv A outer s H vs Q E hr h => ?_)
  · obtain ⟨a, cs, rfl, _⟩ := h
    rfl
  · obtain ⟨a, cs, rfl, hC, hz, q⟩ := h
    refine ⟨_, pss_one (ps_ret (Ka.pe_dc2 (own := [("course", 1), ("step", 2)]) (vs1 := [2]) (g := gName 1) (g1 := gName 2) (tt := tYes) Ka.storeK rfl scDi.nd (pi_tup (pv 0)) (blkOk_by (own := [("course", 1), ("step", 2)]) (N := nDi) (sc := defScope sDeedsIn) (by decide +kernel)) (by decide) (fun _ _ _ _ _ => (pg_name (i := 1) scDi.nd rfl (Or.inl rfl))) (fun _ _ _ _ _ => pts_nil) (fun _ _ _ _ _ => (piT_at (K := K) rfl (pe_ix (ixT_at (K := K) rfl) (pv 1) pe_int (fun _ _ => rfl)))) (fun _ _ _ _ _ => (pg_name (i := 2) scDi.nd rfl (Or.inl rfl))) (fun _ _ _ _ _ => pts_one (pt_cmpR op_eq (pe_ix (ixT_at (K := K) rfl) (pv 2) pe_int (fun _ _ => rfl)) pe_str (nomark _))) (fun _ _ _ _ _ => (pe_ix (ixT_at (K := K) rfl) (pv 2) pe_int (fun _ _ => rfl))) (fun _ _ _ _ _ => pe_bl))), ?_⟩
    refine ⟨.ref a, rfl, a, rfl, ⟨_, hC.1⟩, fun D nD => ?_⟩
    refine out_it (walk_tup (K := K) (a := a) (xs := cs.map fun c => V.ref c.a)) (fun i G => Same H G ∧ G D = some (.dK (deedKV (uniq (dns (cs.take i)))))) ⟨same_new nD, upd_same⟩ (fun _ _ _ h => Same.sqT h.1 hC.1) (fun i x G G' hi h y => ?_) (fun G h => ?_)
    · obtain ⟨rfl, hx⟩ := y
      obtain ⟨c, hc, rfl⟩ := get_map hx
      have mc := hC.2 c (List.mem_of_getElem? hc)
      obtain ⟨sG, eG⟩ := h
      have mcG := mc.mono sG
      refine ⟨rfl, ⟨_, rfl, c.a, _, _, .ref c.sa, rfl, rfl, mcG.t, rfl, c.sa, rfl, ⟨_, mcG.s⟩, ?_⟩⟩
      refine in_it (walk_tup (K := K) (a := c.sa) (xs := c.ss.map fun p => V.ref p.1)) (fun j G2 => Same H G2 ∧ G2 D = some (.dK (deedKV (uniq (dns (cs.take i) ++ dn (c.ss.take j)))))) ⟨sG, by rw [eG]; simp [dn]⟩ (fun _ _ _ h => Same.sqT h.1 mc.s) (fun j x G2 G3 hj h2 y => ?_) (fun G2 h2 => ?_)
      · obtain ⟨rfl, hx⟩ := y
        obtain ⟨p, hp, rfl⟩ := get_map hx
        obtain ⟨s2, e2⟩ := h2
        have hpt := s2 _ _ (mc.p p (List.mem_of_getElem? hp))
        have hle := Nat.le_trans (uniq_len _) (dns_le (j := j) hc)
        refine ⟨rfl, _, rfl, p.1, _, _, .str (kindS p.2.call), rfl, rfl, sqT_new hpt, rfl, rfl, _, rfl, ?_⟩
        cases ec : p.2.call with
        | true =>
          refine iteNo (by show decide (V.str (kindS true) = V.str "do") = false; decide +kernel) ?_
          refine ⟨s2, ?_⟩
          rw [e2, dn_snoc hp, ec, if_pos rfl, List.append_nil]
        | false =>
          refine iteYes (by show decide (V.str (kindS false) = V.str "do") = true; decide +kernel) ?_
          refine ⟨_, rfl, p.1, _, _, .str p.2.nm, rfl, rfl, sqT_new hpt, rfl, _, Sum.inr p.2.nm, rfl, e2, ?_, fun b o e => ?_, ?_⟩
          · rw [deedKV_len]
            exact small (by omega)
          · rw [upd_ne (ne_of_none e nD)]
            exact s2 _ _ e
          · rw [upd_same, put_deed, ← uniq_snoc, dn_snoc hp, ec, if_neg Bool.false_ne_true, List.append_assoc]
      · refine ⟨h2.1, ?_⟩
        rw [h2.2, dns_snoc hc, List.length_map, List.take_of_length_le (Nat.le_refl _)]
    · obtain ⟨sG, eG⟩ := h
      rw [List.length_map, List.take_of_length_le (Nat.le_refl _)] at eG
      exact q G D sG nD eG
end
end Kb
namespace Kb
open PySem PySem.Spec PyProof.Rows L2
/-! ### check_each, check_together: of good courses -/
theorem deed_no {l : List Str} {d : Str} (h : d ∉ l) : valV (deedKV l) (Sum.inr d : L2.Key) = none := valV_none (by
  rw [deedKV_keys]
  intro z
  obtain ⟨y, hy, e⟩ := List.mem_map.mp z
  exact h (by rw [← Sum.inr.inj e]; exact hy))
theorem deed_yes {l : List Str} {d : Str} (h : d ∈ l) : (valV (deedKV l) (Sum.inr d : L2.Key)).isSome = true := by
  rw [← valV_any, List.any_eq_true]
  exact ⟨(Sum.inr d, V.bl true), List.mem_map.mpr ⟨d, h, rfl⟩, decide_eq_true rfl⟩
theorem nodup_le : ∀ {l m : List Str}, l.Nodup → (∀ x ∈ l, x ∈ m) → l.length ≤ m.length
  | [], _, _, _ => Nat.zero_le _
  | x :: l, m, nd, h => by
    rw [List.nodup_cons] at nd
    have hx := h x List.mem_cons_self
    have := nodup_le (l := l) (m := m.erase x) nd.2 fun y hy => (List.mem_erase_of_ne fun e => nd.1 (by rw [← e]; exact hy)).mpr (h y (List.mem_cons_of_mem _ hy))
    rw [List.length_erase_of_mem hx] at this
    have := List.length_pos_of_mem hx
    rw [List.length_cons]
    omega
theorem merge_deeds : ∀ (m l : List Str), l.Nodup → ∃ r, mergeK (deedKV l) (deedKV m) = deedKV r ∧ r.Nodup ∧ ∀ x ∈ r, x ∈ l ∨ x ∈ m
  | [], l, nd => ⟨l, rfl, nd, fun x hx => .inl hx⟩
  | d :: m, l, nd => by
    have e : mergeK (deedKV l) (deedKV (d :: m)) = mergeK (deedKV (addD l d)) (deedKV m) := by
      show mergeK (putK (deedKV l) (Sum.inr d) (V.bl true)) (deedKV m) = _
      rw [put_deed]
    have nd2 : (addD l d).Nodup := by
      unfold addD
      by_cases hd : d ∈ l
      · rw [if_pos hd]
        exact nd
      · rw [if_neg hd, List.nodup_append]
        exact ⟨nd, by simp, fun a ha b hb e => hd (by rw [← List.mem_singleton.mp hb, ← e]; exact ha)⟩
    obtain ⟨r, h1, h2, h3⟩ := merge_deeds m (addD l d) nd2
    refine ⟨r, e.trans h1, h2, fun x hx => ?_⟩
    rcases h3 x hx with z | z
    · unfold addD at z
      split at z
      · exact .inl z
      · rcases List.mem_append.mp z with z | z
        · exact .inl z
        · exact .inr (by rw [List.mem_singleton.mp z]; exact List.mem_cons_self)
    · exact .inr (List.mem_cons_of_mem _ z)
theorem dns_one (c : CA) : dns [c] = dn c.ss := by
  unfold dns
  simp
theorem dns_mem {cs : List CA} {c : CA} (h : c ∈ cs) {x : Str} (hx : x ∈ dn c.ss) : x ∈ dns cs := List.mem_flatMap.mpr ⟨c, h, hx⟩
def calls (ss : List (Addr × Stp)) : List Str := (ss.filter fun p => p.2.call).map (·.2.nm)
def nStages (cs : List CA) : Nat := (cs.map (·.n)).foldr (· + ·) 0
theorem calls_snoc {ss : List (Addr × Stp)} {i : Nat} {p : Addr × Stp} (h : ss[i]? = some p) : calls (ss.take (i + 1)) = calls (ss.take i) ++ (if p.2.call = true then [p.2.nm] else []) := by
  unfold calls
  rw [take_of_get h, List.filter_append, List.map_append]
  cases e : p.2.call
  · simp [e]
  · simp [e]
theorem calls_len (ss : List (Addr × Stp)) : (calls ss).length ≤ ss.length := by
  unfold calls
  rw [List.length_map]
  exact List.length_filter_le _ _
theorem nStages_snoc {cs : List CA} {i : Nat} {c : CA} (h : cs[i]? = some c) : nStages (cs.take (i + 1)) = nStages (cs.take i) + c.n := by
  unfold nStages
  rw [take_of_get h, List.map_append, List.map_singleton, List.foldr_append]
  have : ∀ (l : List Nat) (x : Nat), l.foldr (· + ·) x = l.foldr (· + ·) 0 + x := by
    intro l x
    induction l with
    | nil => simp
    | cons y l ih => rw [List.foldr_cons, List.foldr_cons, ih]; omega
  rw [this]
  simp
theorem nStages_le (cs : List CA) (i : Nat) : nStages (cs.take i) ≤ nStages cs := by
  induction cs generalizing i with
  | nil => simp
  | cons c cs ih =>
    cases i with
    | zero => exact Nat.zero_le _
    | succ i =>
      have := ih i
      unfold nStages at this ⊢
      rw [List.take_succ_cons, List.map_cons, List.map_cons, List.foldr_cons, List.foldr_cons]
      omega
/-- courses of which a book is made -/
structure CsOk (cs : List CA) : Prop where
  n8 : cs.length ≤ 8
  n1 : cs ≠ []
  ok : ∀ c ∈ cs, CrsOk c
  nd : (cs.map (·.nm)).Nodup
  cl : ∀ c ∈ cs, ∀ x ∈ calls c.ss, x ∈ cs.map (·.nm)
  st : nStages cs ≤ 60
  dz : (dns cs).length ≤ 100000
  d12 : (uniq (dns cs)).length ≤ 12
section
variable {P : Program} {w : World} {K : PySem.W.Frag} {mg : Str → Option Value} {base : Heap}
def spChEach (K : PySem.W.Frag) : Sp := fun vs H Q _ => ∃ (a : Addr) (cs : List CA), vs = [.ref a] ∧ CsAt K H a cs ∧ CsOk cs ∧ ∀ H', Same H H' → Q .non H'
abbrev nCe : List Str := ["courses", "earlier", "at", "course"]
theorem scCe : FnScope nCe ["courses"] (defScope sChEach) := ⟨rfl, rfl, rfl, by decide +kernel, rfl, by decide +kernel, by decide +kernel⟩
theorem ok_cheach {f fI : Addr} {fd fdI : FuncData} (F : Fun K "check_each" "check_each" sChEach f fd) (N : Nones mg) {tag : Nat} (g_MOST_COURSES : mg "MOST_COURSES" = some (.int 8 tag)) (G_is_course : FnOk P w K mg base CX0 6 fI fdI ["value"] (spIsCourse K)) (C_is_course : CallC K mg "is_course" ["value"] fI fdI) : FnOk P w K mg base CX0 7 f fd ["courses"] (spChEach K) := by
  refine F.ok scCe (fun vs H Q E h => ?_) (fun cdv A outer s H vs Q E hr h => ?_)
  · obtain ⟨a, cs, rfl, _⟩ := h
    rfl
  · obtain ⟨a, cs, rfl, hC, ok, q⟩ := h
    refine ⟨_, pss_cons (ps_set (i := 1) scCe.nd rfl (Or.inl rfl) pe_dnewK)
      (pss_cons (ps_for PassesOwn.never rfl (Ka.pi_enumT (by rfl) N.enumerate (pa_cons (pv 0) pa_nil)) (pg_tup rfl (pgs_cons (pg_name (i := 2) scCe.nd rfl (Or.inl rfl)) (pgs_cons (pg_name (i := 3) scCe.nd rfl (Or.inl rfl)) pgs_nil)))
        (pss_cons (ps_if (PW.pt (pw_or (pt_cmpR op_ge (pv 2) (pe_glob (v := .int 8) rfl g_MOST_COURSES ⟨_, rfl⟩) (nomark _)) (pw_or (pt_not (pt_val (pe_call G_is_course (hr.mono (by decide)) (by rfl) C_is_course.g C_is_course.kp C_is_course.b .nil pass0 (pa_cons (pv 3) pa_nil)))) (pw_or1 (pt_cmp (pc_din (hu_of hr) (pe_ix ix_tup (pv 3) pe_int (fun _ _ => rfl)) (pv 1))))))) (pss_one ps_never) pss_nil)
        (pss_one (ps_dput (hu_of hr) (pv 1) (pe_ix ix_tup (pv 3) pe_int (fun _ _ => rfl)) pe_bl rfl))))
      (pss_one (ps_if (pt_not (pt_truth (pv 0) (by intro _; rfl))) (pss_one ps_never) pss_nil))), ?_⟩
    intro d nd
    refine ⟨.ref a, rfl, a, _, rfl, Same.sqT (same_new nd) hC.1, ?_⟩
    refine for_it (walk_enumT (K := K) (a := a) (xs := cs.map fun c => V.ref c.a)) (fun i σ G => ∃ x2 x3 : Option V, σ = [some (.ref a), some (.ref d), x2, x3] ∧ Same H G ∧ G d = some (.dK (deedKV ((cs.take i).map (·.nm))))) ⟨none, none, rfl, same_new nd, upd_same⟩ (fun i σ G _ h => ?_) (fun i x σ G G' hi h y => ?_) (fun σ G h => ?_)
    · obtain ⟨_, _, _, sG, _⟩ := h
      exact Same.sqT sG hC.1
    · obtain ⟨T, z, v, rfl, nT, rfl, hz, hv⟩ := y
      obtain ⟨x2, x3, rfl, sG, eG⟩ := h
      cases hz
      obtain ⟨c, hc, rfl⟩ := get_map hv
      have mc := List.mem_of_getElem? hc
      have hi := lt_of_get hc
      have s1 := sG.trans (same_new (o := .tup [V.int (i : Nat), V.ref c.a]) nT)
      have e1 := (same_new (o := .tup [V.int (i : Nat), V.ref c.a]) nT) _ _ eG
      have n8 := ok.n8
      refine ⟨T, _, rfl, sqT_new upd_same, rfl, _, _, rfl, _, _, rfl, rfl, ?_⟩
      refine ⟨_, rfl, _, _, rfl, rfl, _, rfl, iteNo (decide_eq_false (by rw [List.length_map] at *; omega)) ?_⟩
      refine ⟨_, rfl, c, rfl, (hC.2 c mc).mono s1, ok.ok c mc, fun G2 s2 => ?_⟩
      refine ⟨true, rfl, iteF ?_⟩
      have hCc := (hC.2 c mc).mono (s1.trans s2)
      refine ⟨_, rfl, c.a, _, _, .str c.nm, rfl, rfl, hCc.t, rfl, _, rfl, d, _, rfl, DGet.k (k := Sum.inr c.nm) (s2 _ _ e1), ?_⟩
      have nin : c.nm ∉ (cs.take i).map (·.nm) := by
        intro z
        have nd := ok.nd
        rw [← List.take_append_drop i cs, List.map_append, drop_of_get hc, List.map_cons, List.nodup_append] at nd
        exact nd.2.2 _ z _ List.mem_cons_self rfl
      refine ⟨_, rfl, ?_⟩
      refine iteNo (by show (valV (deedKV ((cs.take i).map (·.nm))) (Sum.inr c.nm : L2.Key)).isSome = false; rw [deed_no nin]; rfl) ?_
      refine ⟨_, rfl, _, rfl, c.a, _, _, .str c.nm, rfl, rfl, hCc.t, rfl, d, _, rfl, DPut.k (k := Sum.inr c.nm) (s2 _ _ e1) ?_, _, _, rfl, fun b o e => ?_, ?_⟩
      · rw [deedKV_len, List.length_map, List.length_take]
        exact small (by omega)
      · rw [upd_ne (ne_of_none e nd)]
        exact (s1.trans s2) _ _ e
      · rw [upd_same, put_deed, take_of_get hc, List.map_append, List.map_singleton]
        unfold addD
        rw [if_neg nin]
    · obtain ⟨x2, x3, rfl, sG, eG⟩ := h
      refine ⟨_, rfl, true, ?_, ?_⟩
      · refine .inr (.inl ⟨_, Same.sqT sG hC.1, ?_⟩)
        have := ok.n1
        cases cs with
        | nil => exact absurd rfl this
        | cons c cs => rfl
      · exact iteF (q G sG)
def spChTog (K : PySem.W.Frag) : Sp := fun vs H Q _ => ∃ (a : Addr) (cs : List CA), vs = [.ref a] ∧ CsAt K H a cs ∧ CsOk cs ∧ ∀ H', Same H H' → Q .non H'
abbrev nCt : List Str := ["courses", "names", "stages", "deeds", "at", "course", "called", "step", "name"]
theorem scCt : FnScope nCt ["courses"] (defScope sChTog) := ⟨rfl, rfl, rfl, by decide +kernel, rfl, by decide +kernel, by decide +kernel⟩
theorem ok_chtog {f fI : Addr} {fd fdI : FuncData} (F : Fun K "check_together" "check_together" sChTog f fd) (N : Nones mg) {t1 t2 : Nat} (g_MOST_STAGES_TOGETHER : mg "MOST_STAGES_TOGETHER" = some (.int 60 t1)) (g_MOST_DEEDS : mg "MOST_DEEDS" = some (.int 12 t2)) (G_deeds_in : FnOk P w K mg base CX0 1 fI fdI ["courses"] (spDeedsIn K)) (C_deeds_in : CallC K mg "deeds_in" ["courses"] fI fdI) : FnOk P w K mg base CX0 2 f fd ["courses"] (spChTog K) := by
  refine F.ok scCt (fun vs H Q E h => ?_) (fun cdv A outer s H vs Q E hr h => ?_)
  · obtain ⟨a, cs, rfl, _⟩ := h
    rfl
  · obtain ⟨a, cs, rfl, hC, ok, q⟩ := h
    refine ⟨_, pss_cons (ps_set (i := 1) scCt.nd rfl (Or.inr rfl) (pe_dc (own := [("course", 5)]) (g := gName 5) (tt := tYes) rfl scCt.nd (pi_tup (pv 0)) (blkOk_by (own := [("course", 5)]) (N := nCt) (sc := defScope sChTog) (by decide +kernel)) (fun _ _ _ _ _ => (pg_name (i := 5) scCt.nd rfl (Or.inl rfl))) (fun _ _ _ _ _ => pts_nil) (fun _ _ _ _ _ => (pe_ix (ixT_at (K := K) rfl) (pv 5) pe_int (fun _ _ => rfl))) (fun _ _ _ _ _ => pe_bl)))
      (pss_cons (ps_set (i := 2) scCt.nd rfl (Or.inl rfl) pe_int)
      (pss_cons (ps_set (i := 3) scCt.nd rfl (Or.inl rfl) pe_dnewK)
      (pss_one (ps_for PassesOwn.never rfl (Ka.pi_enumT (by rfl) N.enumerate (pa_cons (pv 0) pa_nil)) (pg_tup rfl (pgs_cons (pg_name (i := 4) scCt.nd rfl (Or.inl rfl)) (pgs_cons (pg_name (i := 5) scCt.nd rfl (Or.inl rfl)) pgs_nil)))
        (pss_cons (ps_aug (i := 2) scCt.nd rfl (Or.inl rfl) (pe_ix ix_tup (pv 5) pe_int (fun _ _ => rfl)) ip_add)
        (pss_cons (ps_expr (pe_bm PySem.F.plainAttrs_dict PySem.F.slot_dict_update PySem.F.type_dict_update Ka.mt_update (pv 3) (pa_cons (pe_call G_deeds_in (hr.mono (by decide)) (by rfl) C_deeds_in.g C_deeds_in.kp C_deeds_in.b .nil pass0 (pa_cons (pe_tup (pa_cons (pv 5) pa_nil)) pa_nil)) pa_nil)))
        (pss_cons (ps_setLc (i := 6) (own := [("step", 7)]) (g := gName 7) rfl scCt.nd rfl rfl (sw_true rfl rfl rfl rfl) (pi_tup (pe_ix ix_tup (pv 5) pe_int (fun _ _ => rfl))) (blkOk_by (own := [("step", 7)]) (N := nCt) (sc := defScope sChTog) (by decide +kernel)) (fun _ _ _ _ _ => (pg_name (i := 7) scCt.nd rfl (Or.inl rfl))) (fun _ _ _ _ _ => pts_one (pt_cmpR op_eq (pe_ix (ixT_at (K := K) rfl) (pv 7) pe_int (fun _ _ => rfl)) pe_str (nomark _))) (fun _ _ _ _ _ => (pe_ix (ixT_at (K := K) rfl) (pv 7) pe_int (fun _ _ => rfl))))
        (pss_cons (ps_if (pt_not (pt_val (pe_callB (cr_all rfl) (by rfl) N.all (by decide +kernel) (pa_cons (pe_lc (own := [("name", 8)]) (g := gName 8) (tt := tYes) rfl scCt.nd (pi_list (pv 6)) (blkOk_by (own := [("name", 8)]) (N := nCt) (sc := defScope sChTog) (by decide +kernel)) (fun _ _ _ _ _ => (pg_name (i := 8) scCt.nd rfl (Or.inl rfl))) (fun _ _ _ _ _ => pts_nil) (fun _ _ _ _ _ => (pe_cmp (pc_din (hu_of hr) (pv 8) (pv 1)) rfl))) pa_nil)))) (pss_one ps_never) pss_nil)
        (pss_one (ps_if (PW.pt (pw_or (pt_cmpR op_gt (pv 2) (pe_glob (v := .int 60) rfl g_MOST_STAGES_TOGETHER ⟨_, rfl⟩) (nomark _)) (pw_or1 (pt_cmpR op_gt (pe_callB call_lenD (by rfl) N.len PySem.boot_len (pa_cons (pv 3) pa_nil)) (pe_glob (v := .int 12) rfl g_MOST_DEEDS ⟨_, rfl⟩) (nomark _))))) (pss_one ps_never) pss_nil)))))))))), ?_⟩
    refine ⟨.ref a, rfl, a, rfl, ⟨_, hC.1⟩, fun ns nns => ?_⟩
    refine dcK_it (walk_tup (K := K) (a := a) (xs := cs.map fun c => V.ref c.a)) (fun i G => Same H G ∧ G ns = some (.dK (deedKV ((cs.take i).map (·.nm))))) ⟨same_new nns, upd_same⟩ (fun _ _ _ h => Same.sqT h.1 hC.1) (fun i x G G' hi h y => ?_) (fun G h => ?_)
    · obtain ⟨rfl, hx⟩ := y
      obtain ⟨c, hc, rfl⟩ := get_map hx
      obtain ⟨sG, eG⟩ := h
      have hi := lt_of_get hc
      have n8 := ok.n8
      have mc := (hC.2 c (List.mem_of_getElem? hc)).mono sG
      have nin : c.nm ∉ (cs.take i).map (·.nm) := by
        intro z
        have nd := ok.nd
        rw [← List.take_append_drop i cs, List.map_append, drop_of_get hc, List.map_cons, List.nodup_append] at nd
        exact nd.2.2 _ z _ List.mem_cons_self rfl
      refine ⟨rfl, _, rfl, c.a, _, _, .str c.nm, rfl, rfl, mc.t, rfl, _, Sum.inr c.nm, rfl, eG, ?_, fun b o e => ?_, ?_⟩
      · rw [deedKV_len, List.length_map, List.length_take]
        exact small (by omega)
      · rw [upd_ne (ne_of_none e nns)]
        exact sG _ _ e
      · rw [upd_same, put_deed, take_of_get hc, List.map_append, List.map_singleton]
        unfold addD
        rw [if_neg nin]
    · obtain ⟨sG, eG⟩ := h
      rw [List.length_map, List.take_of_length_le (Nat.le_refl _)] at eG
      intro d nd
      have sG2 := sG.trans (same_new (o := .dK []) nd)
      have e2 := (same_new (o := .dK []) nd) _ _ eG
      have hdn : d ≠ ns := fun w => by
        rw [w, eG] at nd
        cases nd
      have ed : upd G d (.dK []) d = some (.dK []) := upd_same
      have ndH := sG.free nd
      generalize upd G d (.dK []) = G1 at sG2 e2 ed
      refine ⟨.ref a, rfl, a, _, rfl, Same.sqT sG2 hC.1, ?_⟩
      refine for_it (walk_enumT (K := K) (a := a) (xs := cs.map fun c => V.ref c.a)) (fun i σ G => ∃ (x4 x5 x6 x7 x8 : Option V) (ds : List Str), σ = [some (.ref a), some (.ref ns), some (.int (nStages (cs.take i) : Nat)), some (.ref d), x4, x5, x6, x7, x8] ∧ Same H G ∧ G ns = some (.dK (deedKV (cs.map (·.nm)))) ∧ G d = some (.dK (deedKV ds)) ∧ ds.Nodup ∧ ∀ x ∈ ds, x ∈ uniq (dns cs)) ⟨none, none, none, none, none, [], rfl, sG2, e2, ed, List.nodup_nil, fun x hx => nomatch hx⟩ (fun i σ G _ h => ?_) (fun i x σ G G' hi h y => ?_) (fun σ G h => ?_)
      · obtain ⟨_, _, _, _, _, _, _, sG, _⟩ := h
        exact Same.sqT sG hC.1
      · obtain ⟨T, z, v, rfl, nT, rfl, hz, hv⟩ := y
        obtain ⟨x4, x5, x6, x7, x8, ds, rfl, sG, eN, eD, ndd, sub⟩ := h
        cases hz
        obtain ⟨c, hc, rfl⟩ := get_map hv
        have mc := List.mem_of_getElem? hc
        have okc := ok.ok c mc
        have sT := same_new (o := .tup [V.int (i : Nat), V.ref c.a]) nT
        have hT : upd G T (.tup [V.int (i : Nat), V.ref c.a]) T = some (.tup [V.int (i : Nat), V.ref c.a]) := upd_same
        have eN := sT _ _ eN
        have eD := sT _ _ eD
        have sG := sG.trans sT
        generalize upd G T (.tup [V.int (i : Nat), V.ref c.a]) = G1 at sG hT eN eD
        refine ⟨T, _, rfl, sqT_new hT, rfl, _, _, rfl, _, _, rfl, rfl, ?_⟩
        have hCc := (hC.2 c mc).mono sG
        refine ⟨_, rfl, _, rfl, c.a, _, _, .int (c.n : Nat), rfl, rfl, hCc.t, rfl, _, _, rfl, rfl, ?_⟩
        refine ⟨_, rfl, .inr (.inr (.inl ⟨rfl, .inl ⟨_, eD⟩⟩)), _, rfl, smallE (by show 1 ≤ 1000000; decide), fun U nU => ?_⟩
        have sU := same_new (o := .tup [V.ref c.a]) nU
        have hU : upd G1 U (.tup [V.ref c.a]) U = some (.tup ([c].map fun c => V.ref c.a)) := upd_same
        have eN := sU _ _ eN
        have eD := sU _ _ eD
        have sG := sG.trans sU
        generalize upd G1 U (.tup [V.ref c.a]) = G2 at sG hU eN eD
        refine ⟨U, [c], rfl, ⟨sqT_new hU, fun c2 h2 => ?_⟩, ?_, fun G3 W s3 nW eW => ?_⟩
        · rw [List.mem_singleton.mp h2]
          exact (hC.2 c mc).mono sG
        · rw [dns_one]
          have := dn_len c.ss
          have := okc.sz
          omega
        have dW : d ≠ W := ne_of_none eD nW
        have eN := s3 _ _ eN
        have eD := s3 _ _ eD
        have sG := sG.trans s3
        rw [dns_one] at eW
        obtain ⟨r, em, ndr, hr2⟩ := merge_deeds (uniq (dn c.ss)) ds ndd
        have subR : ∀ x ∈ r, x ∈ uniq (dns cs) := fun x hx => (hr2 x hx).elim (sub x) fun z => (mem_uniq _ _).mpr (dns_mem mc ((mem_uniq _ _).mp z))
        have l12 := ok.d12
        have lr := nodup_le ndr subR
        have lds := nodup_le ndd sub
        have lun := uniq_len (dn c.ss)
        have ldn := dn_len c.ss
        have osz := okc.sz
        refine ⟨d, W, _, _, rfl, rfl, eD, eW, dW, by rw [deedKV_len, deedKV_len]; omega, ?_⟩
        rw [em]
        have kG : ∀ b o, H b = some o → upd G3 d (.dK (deedKV r)) b = some o := fun b o e => by
          rw [upd_ne (ne_of_none e ndH)]
          exact sG _ _ e
        have eN : upd G3 d (.dK (deedKV r)) ns = some (.dK (deedKV (cs.map (·.nm)))) := by
          rw [upd_ne hdn.symm]
          exact eN
        have eD : upd G3 d (.dK (deedKV r)) d = some (.dK (deedKV r)) := upd_same
        generalize upd G3 d (.dK (deedKV r)) = G4 at kG eN eD
        have kG : Same H G4 := kG
        have hCc := (hC.2 c mc).mono kG
        refine ⟨_, rfl, c.a, _, _, .ref c.sa, rfl, rfl, hCc.t, rfl, c.sa, rfl, ⟨_, hCc.s⟩, fun L nL => ?_⟩
        refine lc_it (walk_tup (K := K) (a := c.sa) (xs := c.ss.map fun p => V.ref p.1)) (fun j Z => Same G4 Z ∧ Z L = some (.lst ((calls (c.ss.take j)).map V.str))) ⟨same_new nL, upd_same⟩ (fun _ _ _ h => Same.sqT h.1 hCc.s) (fun j x Z Z' hj h y => ?_) (fun Z h => ?_)
        · obtain ⟨rfl, hx⟩ := y
          obtain ⟨p, hp, rfl⟩ := get_map hx
          obtain ⟨sZ, eZ⟩ := h
          have hpt := sZ _ _ (hCc.p p (List.mem_of_getElem? hp))
          refine ⟨rfl, _, rfl, p.1, _, _, .str (kindS p.2.call), rfl, rfl, sqT_new hpt, rfl, rfl, _, rfl, ?_⟩
          cases ec : p.2.call with
          | false =>
            refine iteNo (by show decide (V.str (kindS false) = V.str "call") = false; decide +kernel) ?_
            refine ⟨sZ, ?_⟩
            rw [eZ, calls_snoc hp, ec, if_neg Bool.false_ne_true, List.append_nil]
          | true =>
            refine iteYes (by show decide (V.str (kindS true) = V.str "call") = true; decide +kernel) ?_
            refine ⟨_, rfl, p.1, _, _, .str p.2.nm, rfl, rfl, sqT_new hpt, rfl, _, eZ, ?_, fun b o e => ?_, ?_⟩
            · rw [List.length_map]
              have := calls_len (c.ss.take j)
              rw [List.length_take] at this
              exact small (by omega)
            · rw [upd_ne (ne_of_none e nL)]
              exact sZ _ _ e
            · rw [upd_same, calls_snoc hp, ec, if_pos rfl, List.map_append]
              rfl
        · obtain ⟨sZ, eZ⟩ := h
          rw [List.length_map, List.take_of_length_le (Nat.le_refl _)] at eZ
          have eN := sZ _ _ eN
          have eD := sZ _ _ eD
          have kZ := kG.trans sZ
          have lca := calls_len c.ss
          refine ⟨.ref L, rfl, L, rfl, ⟨_, sqL_new eZ⟩, fun M nM => ?_⟩
          refine lc_pure (walk_list (K := K) (a := L) (xs := (calls c.ss).map V.str)) ((List.replicate (calls c.ss).length true).map V.bl) (by rw [List.length_map, List.length_map, List.length_replicate]) nM (fun _ s => s.seq (sqL_new eZ)) (fun j x H0 H' hj h0 y => ?_) (fun H' s' e => ?_)
          · obtain ⟨rfl, hx⟩ := y
            obtain ⟨z, hz, rfl⟩ := get_map hx
            have hzn := ok.cl c mc z (List.mem_of_getElem? hz)
            refine ⟨rfl, _, rfl, _, rfl, ns, _, rfl, DGet.k (k := Sum.inr z) (h0.1 _ _ eN), ?_⟩
            dsimp only
            rw [deed_yes hzn]
            refine h0.put nM (fun _ _ h => h) ?_ (by rw [List.length_map, List.length_replicate]; omega)
            rw [List.getElem?_map, List.getElem?_replicate, if_pos (lt_of_get hz)]
            rfl
          · refine ⟨M, _, rfl, sqL_new e, ?_⟩
            rw [all_trueL]
            refine ⟨true, rfl, iteF ?_⟩
            have st := ok.st
            have stl := nStages_le cs (i + 1)
            have sts := nStages_snoc hc
            refine ⟨_, rfl, _, _, rfl, rfl, _, rfl, iteNo (decide_eq_false (by show ¬ (60 : Int) < ((nStages (cs.take i) : Nat) : Int) + (c.n : Int); omega)) ?_⟩
            refine ⟨_, rfl, d, _, rfl, s' _ _ eD, _, _, rfl, rfl, _, rfl, iteNo (decide_eq_false (by rw [deedKV_len]; omega)) ?_⟩
            have es : ((nStages (cs.take i) : Nat) : Int) + (c.n : Int) = ((nStages (cs.take (i + 1)) : Nat) : Int) := by omega
            refine ⟨some (.int (i : Nat)), some (.ref c.a), some (.ref L), x7, x8, r, ?_, kZ.trans s', s' _ _ eN, s' _ _ eD, ndr, subR⟩
            rw [← es]
            rfl
      · obtain ⟨_, _, _, _, _, _, rfl, sG, _⟩ := h
        exact q G sG
end
end Kb
namespace Kb
open PySem PySem.Spec PyProof.Rows L2
/-! ### the source of draws -/
/-- two whole numbers -/
def Box (H : Hp) (x : Addr) : Prop := ∃ b0 b1 : Int, H x = some (.lst [.int b0, .int b1])
/-- all but x stands -/
def But (x : Addr) (H H' : Hp) : Prop := ∀ c u, c ≠ x → H c = some u → H' c = some u
theorem But.refl {x : Addr} {H : Hp} : But x H H := fun _ _ _ e => e
theorem But.trans {x : Addr} {H H' H'' : Hp} (a : But x H H') (b : But x H' H'') : But x H H'' := fun c u h e => b c u h (a c u h e)
theorem But.of {x : Addr} {H H' : Hp} (s : Same H H') : But x H H' := fun c u _ e => s c u e
theorem But.upd {x : Addr} {H : Hp} {o : HO} : But x H (upd H x o) := fun c u h e => by
  rw [upd_ne h]
  exact e
theorem Box.mono {x : Addr} {H H' : Hp} (b : Box H x) (s : Same H H') : Box H' x := let ⟨b0, b1, e⟩ := b; ⟨b0, b1, s _ _ e⟩
theorem mod_nat (i : Int) {n : Nat} (h : 0 < n) : ∃ r : Nat, r < n ∧ i % (n : Int) = (r : Int) := by
  have h1 := Int.emod_nonneg i (show (n : Int) ≠ 0 by omega)
  have h2 := Int.emod_lt_of_pos i (show 0 < (n : Int) by omega)
  exact ⟨(i % (n : Int)).toNat, by omega, by omega⟩
theorem small_mul {k : Int} (h1 : -1000000000000 < k) (h2 : k < 1000000000000) : -(2 ^ 64) < k ∧ k < 2 ^ 64 := by omega
section
variable {P : Program} {w : World} {K : PySem.W.Frag} {mg : Str → Option Value} {base : Heap}
theorem scTake : FnScope ["box", "many", "digit", "raw"] ["box", "many"] (defScope sTake) := ⟨rfl, rfl, rfl, by decide +kernel, rfl, by decide +kernel, by decide +kernel⟩
def spTake : Sp := fun vs H Q _ => ∃ (x : Addr) (n : Nat), vs = [.ref x, .int (n : Nat)] ∧ Box H x ∧ 0 < n ∧ n < 2 ^ 60 ∧ ∀ (r : Nat) H', r < n → But x H H' → Box H' x → Q (.int (r : Nat)) H'
theorem ok_take {f : Addr} {fd : FuncData} (F : Fun K "_law_take" "_law_take" sTake f fd) (mi : mg "int" = none) : FnOk P w K mg base CX0 1 f fd ["box", "many"] spTake := by
  refine F.ok scTake (fun vs H Q E h => ?_) (fun cdv A outer s H vs Q E hr h => ?_)
  · obtain ⟨x, n, rfl, _⟩ := h
    rfl
  · obtain ⟨x, n, rfl, ⟨b0, b1, hx⟩, hn, hn2, q⟩ := h
    refine ⟨_, pss_cons (ps_if (pt_cmpR op_gt (pe_ix ix_list (pv 0) pe_int (fun _ _ => rfl)) pe_int (nomark _))
        (pss_cons (ps_set (i := 2) scTake.nd rfl (.inl rfl) (pe_op op_mod (pe_callTy call_int1 (by rfl) mi (by decide +kernel) (pa_cons (pe_ix ix_list (pv 0) pe_int (fun _ _ => rfl)) pa_nil)) (pv 1)))
          (pss_cons (ps_asg (pe_op op_fdivW (pe_ix ix_list (pv 0) pe_int (fun _ _ => rfl)) (pv 1)) (pg_sub (pv 0) pe_int set_list)) (pss_one (ps_ret (pv 2))))) pss_nil)
      (pss_cons (ps_set (i := 3) scTake.nd rfl (.inl rfl) (pe_op op_mod (pe_callTy call_int1 (by rfl) mi (by decide +kernel) (pa_cons (pe_op op_add (pe_op op_mul (pe_ix ix_list (pv 0) pe_int (fun _ _ => rfl)) pe_int) pe_int) pa_nil)) pe_int))
      (pss_cons (ps_asg (pe_op op_add (pe_op op_mod (pe_callTy call_int1 (by rfl) mi (by decide +kernel) (pa_cons (pe_op op_add (pe_op op_mul (pv 3) pe_int) pe_int) pa_nil)) pe_int) pe_int) (pg_sub (pv 0) pe_int set_list))
      (pss_one (ps_ret (pe_op op_mod (pe_callTy call_int1 (by rfl) mi (by decide +kernel) (pa_cons (pe_op op_fdivN (pe_op op_add (pe_op op_mul (pv 3) pe_int) (pe_ix ix_list (pv 0) pe_int (fun _ _ => rfl))) pe_int) pa_nil)) (pv 1)))))), ?_⟩
    refine ⟨.ref x, rfl, x, _, 0, .int b0, rfl, rfl, sqL_new hx, rfl, b0, 0, rfl, rfl, _, rfl, ite2 (fun c => ?_) (fun c => ?_)⟩
    · obtain ⟨r, hr1, hr2⟩ := mod_nat b0 hn
      refine ⟨.ref x, rfl, x, _, 0, .int b0, rfl, rfl, sqL_new hx, rfl, .inl ⟨b0, rfl, .int (n : Nat), rfl, b0, (n : Nat), rfl, rfl, (by omega), ?_⟩⟩
      refine ⟨.ref x, rfl, x, _, 0, .int b0, rfl, rfl, sqL_new hx, rfl, .int (n : Nat), rfl, b0, (n : Nat), rfl, rfl, wide_div (b := 60) (by omega) (by omega) (by decide) (by decide), .ref x, rfl, x, _, 0, 0, rfl, rfl, hx, rfl, ?_⟩
      refine ⟨_, rfl, ?_⟩
      show Q (.int (b0 % (n : Int))) _
      rw [hr2]
      exact q r _ hr1 But.upd ⟨_, _, upd_same⟩
    · refine ⟨.ref x, rfl, x, _, 1, .int b1, rfl, rfl, sqL_new hx, rfl, b1, _, rfl, rfl, .inr (by decide), _, _, rfl, rfl, .inl ⟨_, rfl, _, 2147483563, rfl, rfl, (by show (0 : Int) < 2147483563; decide), ?_⟩⟩
      refine ⟨_, rfl, _, _, rfl, rfl, .inr (by decide), _, _, rfl, rfl, .inl ⟨_, rfl, _, 2147483629, rfl, rfl, (by show (0 : Int) < 2147483629; decide), _, _, rfl, rfl, .ref x, rfl, x, _, 1, 1, rfl, rfl, hx, rfl, ?_⟩⟩
      generalize hH2 : upd H x _ = H2
      obtain ⟨c1, hx2⟩ : ∃ c1 : Int, H2 x = some (.lst [.int b0, .int c1]) := ⟨_, by rw [← hH2, upd_same]; rfl⟩
      have k2 : But x H H2 := by rw [← hH2]; exact But.upd
      refine ⟨_, rfl, _, 2147483647, rfl, rfl, .inr (by decide), .ref x, rfl, x, _, 1, .int c1, rfl, rfl, sqL_new hx2, rfl, _, c1, rfl, rfl, _, 8191, rfl, rfl, ⟨by decide, by decide⟩, .inl ⟨_, rfl, .int (n : Nat), rfl, _, (n : Nat), rfl, rfl, (by omega), ?_⟩⟩
      obtain ⟨r, hr1, hr2⟩ := mod_nat _ hn
      refine (congrArg (fun z => Q (V.int z) H2) hr2).mpr ?_
      exact q r _ hr1 k2 ⟨_, _, hx2⟩
end
end Kb
namespace Kb
open PySem PySem.Spec PyProof.Rows L2
theorem But.free {x p : Addr} {H H1 : Hp} (k : But x H H1) (b : Box H1 x) (h : H1 p = none) : H p = none := by
  cases e : H p with
  | none => rfl
  | some u =>
    by_cases w : p = x
    · obtain ⟨b0, b1, hb⟩ := b
      rw [← w, h] at hb
      cases hb
    · rw [k p u w e] at h
      cases h
theorem Box.ne {x p : Addr} {H : Hp} (b : Box H x) (h : H p = none) : p ≠ x := fun w => by
  obtain ⟨b0, b1, hb⟩ := b
  rw [← w, h] at hb
  cases hb
theorem Box.upd {x p : Addr} {H : Hp} {o : HO} (b : Box H x) (h : p ≠ x) : Box (upd H p o) x := by
  obtain ⟨b0, b1, hb⟩ := b
  exact ⟨b0, b1, by rw [upd_ne (Ne.symm h)]; exact hb⟩
section
variable {P : Program} {w : World} {K : PySem.W.Frag} {mg : Str → Option Value} {base : Heap}
theorem scPick : FnScope ["box", "some"] ["box", "some"] (defScope sPick) := ⟨rfl, rfl, rfl, by decide +kernel, rfl, by decide +kernel, by decide +kernel⟩
def spPick : Sp := fun vs H Q _ => ∃ (x a : Addr) (xs : List V), vs = [.ref x, .ref a] ∧ Box H x ∧ a ≠ x ∧ (H a = some (.lst xs) ∨ H a = some (.tup xs)) ∧ 0 < xs.length ∧ xs.length < 1000000 ∧ ∀ (i : Nat) (v : V) H', xs[i]? = some v → But x H H' → Box H' x → Q v H'
theorem ok_pick {f fT : Addr} {fd fdT : FuncData} (F : Fun K "_law_pick" "_law_pick" sPick f fd) (FT : Fun K "_law_take" "_law_take" sTake fT fdT) (bT : Binds K fdT ["box", "many"] []) (gT : mg "_law_take" = some (.ref fT)) (mi : mg "int" = none) (ml : mg "len" = none) : FnOk P w K mg base CX0 2 f fd ["box", "some"] spPick := by
  have GT : FnOk P w K mg base CX0 1 fT fdT ["box", "many"] spTake := ok_take FT mi
  refine F.ok scPick (fun vs H Q E h => ?_) (fun cdv A outer s H vs Q E hr h => ?_)
  · obtain ⟨x, a, xs, rfl, _⟩ := h
    rfl
  · obtain ⟨x, a, xs, rfl, hx, hax, ha, h0, h1, q⟩ := h
    refine ⟨_, pss_one (ps_ret (pe_ix ix_seq (pv 1) (pe_call GT hr (by rfl) gT FT.kp bT .nil pass0 (pa_cons (pv 0) (pa_cons (pe_callB call_len_seq (by rfl) ml PySem.boot_len (pa_cons (pv 1) pa_nil)) pa_nil))) (fun _ _ => rfl))), ?_⟩
    refine ⟨.ref a, rfl, .ref x, rfl, .ref a, rfl, a, xs, rfl, ha.elim (fun h => .inl (sqL_new h)) (fun h => .inr (sqT_new h)), x, xs.length, rfl, hx, h0, Nat.lt_trans h1 (by decide), fun r H' hr k b => ?_⟩
    have hg : xs[r]? = some (xs[r]'hr) := List.getElem?_eq_getElem hr
    rcases ha with ha | ha
    · exact .inl ⟨a, xs, _, _, rfl, rfl, sqL_new (k _ _ hax ha), atI_nat hg, q r _ H' hg k b⟩
    · exact .inr (.inl ⟨a, xs, _, _, rfl, rfl, sqT_new (k _ _ hax ha), atI_nat hg, q r _ H' hg k b⟩)
end
end Kb
namespace Kb
open PySem PySem.Spec PyProof.Rows L2
/-! ### leaving_of, the stages as keys -/
def skey (c : CA) (k : Nat) : List L2.Key := [.inr c.nm, .inl (k : Int)]
def keysC (c : CA) (j : Nat) : List (List L2.Key) := (List.range j).map (skey c)
def keysOf (cs : List CA) : List (List L2.Key) := cs.flatMap fun c => keysC c c.n
theorem keysOf_snoc {cs : List CA} {i : Nat} {c : CA} (h : cs[i]? = some c) : keysOf (cs.take (i + 1)) = keysOf (cs.take i) ++ keysC c c.n := by
  unfold keysOf
  rw [take_of_get h, List.flatMap_append]
  simp
theorem keysC_snoc (c : CA) (j : Nat) : keysC c (j + 1) = keysC c j ++ [skey c j] := by
  unfold keysC
  rw [List.range_succ, List.map_append]
  rfl
theorem keysC_len (c : CA) (j : Nat) : (keysC c j).length = j := by
  unfold keysC
  rw [List.length_map, List.length_range]
theorem mem_keysC {c : CA} {j k : Nat} (h : k < j) : skey c k ∈ keysC c j := List.mem_map.mpr ⟨k, List.mem_range.mpr h, rfl⟩
theorem keysOf_len : ∀ cs : List CA, (keysOf cs).length = nStages cs
  | [] => rfl
  | c :: cs => by
    have := keysOf_len cs
    unfold keysOf nStages at *
    rw [List.flatMap_cons, List.length_append, List.map_cons, List.foldr_cons, this, keysC_len]
theorem mem_keysOf {cs : List CA} {c : CA} {k : Nat} (h : c ∈ cs) (hk : k < c.n) : skey c k ∈ keysOf cs := List.mem_flatMap.mpr ⟨c, h, mem_keysC hk⟩
theorem skey_inj {c c' : CA} {k k' : Nat} (h : skey c k = skey c' k') : c.nm = c'.nm ∧ k = k' := by
  unfold skey at h
  injection h with h1 h
  injection h with h2 h
  have h1 := Sum.inr.inj h1
  have h2 := Sum.inl.inj h2
  have h2 : (k : Int) = (k' : Int) := h2
  exact ⟨h1, by omega⟩
/-- a key that has not come -/
theorem key_new {cs : List CA} (nd : (cs.map (·.nm)).Nodup) {i : Nat} {c : CA} (h : cs[i]? = some c) (j : Nat) : skey c j ∉ keysOf (cs.take i) ++ keysC c j := by
  intro z
  rcases List.mem_append.mp z with z | z
  · obtain ⟨c', hc', hk⟩ := List.mem_flatMap.mp z
    obtain ⟨k, _, e⟩ := List.mem_map.mp hk
    have e := (skey_inj e).1
    rw [← List.take_append_drop i cs, List.map_append, drop_of_get h, List.map_cons, List.nodup_append] at nd
    exact nd.2.2 _ (List.mem_map.mpr ⟨c', hc', rfl⟩) _ List.mem_cons_self e
  · obtain ⟨k, hk, e⟩ := List.mem_map.mp z
    have := (skey_inj e).2
    have := List.mem_range.mp hk
    omega
theorem keys_nd {cs : List CA} (nd : (cs.map (·.nm)).Nodup) : ∀ i, i ≤ cs.length → (keysOf (cs.take i)).Nodup
  | 0, _ => by simp [keysOf]
  | i + 1, h => by
    have hc : cs[i]? = some (cs[i]'(by omega)) := List.getElem?_eq_getElem _
    have ih := keys_nd nd i (by omega)
    rw [keysOf_snoc hc]
    have : ∀ j, (keysOf (cs.take i) ++ keysC (cs[i]'(by omega)) j).Nodup := by
      intro j
      induction j with
      | zero => simpa [keysC] using ih
      | succ j ihj =>
        rw [keysC_snoc, ← List.append_assoc, List.nodup_append]
        exact ⟨ihj, by simp, fun a ha b hb e => key_new nd hc j (by rw [← List.mem_singleton.mp hb, ← e]; exact ha)⟩
    exact this _
/-- a key, the place of a list, its items -/
abbrev TR := List L2.Key × Addr × List V
def kvT (T : List TR) : List (List L2.Key × V) := T.map fun t => (t.1, V.ref t.2.1)
theorem kvT_keys (T : List TR) : (kvT T).map (·.1) = T.map (·.1) := by
  unfold kvT
  rw [List.map_map]
  rfl
/-- the lists stand, each new since H -/
structure LsAt (H G : Hp) (D : Addr) (n : Nat) (T : List TR) : Prop where
  st : ∀ t ∈ T, G t.2.1 = some (.lst t.2.2) ∧ H t.2.1 = none ∧ t.2.1 ≠ D ∧ t.2.2.length ≤ n
  nd : (T.map (·.2.1)).Nodup
theorem LsAt.mono {H G G' : Hp} {D : Addr} {n : Nat} {T : List TR} (h : LsAt H G D n T) (s : ∀ t ∈ T, ∀ o, G t.2.1 = some o → G' t.2.1 = some o) : LsAt H G' D n T := ⟨fun t ht => ⟨s t ht _ (h.st t ht).1, (h.st t ht).2⟩, h.nd⟩
theorem LsAt.le {H G : Hp} {D : Addr} {n m : Nat} {T : List TR} (h : LsAt H G D n T) (l : n ≤ m) : LsAt H G D m T := ⟨fun t ht => ⟨(h.st t ht).1, (h.st t ht).2.1, (h.st t ht).2.2.1, Nat.le_trans (h.st t ht).2.2.2 l⟩, h.nd⟩
/-- one list gets an item -/
def pushT (T : List TR) (k : List L2.Key) (x : V) : List TR := T.map fun t => if t.1 = k then (t.1, t.2.1, t.2.2 ++ [x]) else t
theorem pushT_keys (T : List TR) (k : List L2.Key) (x : V) : (pushT T k x).map (·.1) = T.map (·.1) := by
  unfold pushT
  rw [List.map_map]
  refine List.map_congr_left fun t _ => ?_
  show (if t.1 = k then (t.1, t.2.1, t.2.2 ++ [x]) else t).1 = t.1
  split <;> rfl
theorem pushT_addr (T : List TR) (k : List L2.Key) (x : V) : (pushT T k x).map (·.2.1) = T.map (·.2.1) := by
  unfold pushT
  rw [List.map_map]
  refine List.map_congr_left fun t _ => ?_
  show (if t.1 = k then (t.1, t.2.1, t.2.2 ++ [x]) else t).2.1 = t.2.1
  split <;> rfl
theorem pushT_kv (T : List TR) (k : List L2.Key) (x : V) : kvT (pushT T k x) = kvT T := by
  unfold pushT kvT
  rw [List.map_map]
  refine List.map_congr_left fun t _ => ?_
  show ((if t.1 = k then (t.1, t.2.1, t.2.2 ++ [x]) else t).1, V.ref (if t.1 = k then (t.1, t.2.1, t.2.2 ++ [x]) else t).2.1) = (t.1, V.ref t.2.1)
  split <;> rfl
theorem inj_of_nd {α β : Type} {f : α → β} : ∀ {l : List α}, (l.map f).Nodup → ∀ {x y : α}, x ∈ l → y ∈ l → f x = f y → x = y
  | [], _, _, _, h, _, _ => nomatch h
  | z :: l, nd, x, y, hx, hy, e => by
    rw [List.map_cons, List.nodup_cons] at nd
    rcases List.mem_cons.mp hx with e1 | hx
    · rcases List.mem_cons.mp hy with e2 | hy
      · rw [e1, e2]
      · exact absurd (List.mem_map.mpr ⟨y, hy, by rw [← e, e1]⟩) nd.1
    · rcases List.mem_cons.mp hy with e2 | hy
      · exact absurd (List.mem_map.mpr ⟨x, hx, by rw [e, e2]⟩) nd.1
      · exact inj_of_nd nd.2 hx hy e
theorem LsAt.push {H G : Hp} {D : Addr} {n : Nat} {T : List TR} (h : LsAt H G D n T) (kn : (T.map (·.1)).Nodup) {t : TR} (ht : t ∈ T) {x : V} : LsAt H (upd G t.2.1 (.lst (t.2.2 ++ [x]))) D (n + 1) (pushT T t.1 x) := by
  refine ⟨fun u hu => ?_, by rw [pushT_addr]; exact h.nd⟩
  obtain ⟨u0, hu0, rfl⟩ := List.mem_map.mp hu
  obtain ⟨a1, a2, a3, a4⟩ := h.st u0 hu0
  by_cases e : u0.1 = t.1
  · have : u0 = t := inj_of_nd kn hu0 ht e
    subst this
    rw [if_pos rfl]
    exact ⟨upd_same, a2, a3, by rw [List.length_append]; exact Nat.add_le_add_right a4 1⟩
  · rw [if_neg e]
    have : u0.2.1 ≠ t.2.1 := fun z => e (by rw [inj_of_nd (f := fun t : TR => t.2.1) h.nd hu0 ht z])
    exact ⟨by rw [upd_ne this]; exact a1, a2, a3, Nat.le_succ_of_le a4⟩
theorem LsAt.snoc {H G : Hp} {D l : Addr} {n : Nat} {T : List TR} {k : List L2.Key} (h : LsAt H G D n T) (e : G l = some (.lst [])) (n0 : H l = none) (nd : l ≠ D) (nT : ∀ t ∈ T, t.2.1 ≠ l) : LsAt H G D n (T ++ [(k, l, [])]) := by
  refine ⟨fun t ht => ?_, ?_⟩
  · rcases List.mem_append.mp ht with ht | ht
    · exact h.st t ht
    · rw [List.mem_singleton.mp ht]
      exact ⟨e, n0, nd, Nat.zero_le _⟩
  · rw [List.map_append, List.nodup_append]
    refine ⟨h.nd, by simp, fun a ha b hb e => ?_⟩
    obtain ⟨t, ht, rfl⟩ := List.mem_map.mp ha
    rw [List.map_singleton, List.mem_singleton] at hb
    exact nT t ht (e.trans hb)
/-- the places of a course's steps that leave the stage k, among the first j -/
def offsTo (ss : List (Addr × Stp)) (j k : Nat) : List Nat := (List.range j).filter fun i => decide ((ss[i]?).map (·.2.n) = some k)
def offs (c : CA) (k : Nat) : List Nat := offsTo c.ss c.ss.length k
theorem offsTo_succ {ss : List (Addr × Stp)} {j : Nat} {p : Addr × Stp} (h : ss[j]? = some p) (k : Nat) : offsTo ss (j + 1) k = offsTo ss j k ++ (if p.2.n = k then [j] else []) := by
  unfold offsTo
  rw [List.range_succ, List.filter_append]
  congr 1
  rw [List.filter_cons, h]
  by_cases e : p.2.n = k
  · simp [e]
  · simp [e]
/-- the table of a book's leaving steps at q -/
def LvAt (H : Hp) (q : Addr) (cs : List CA) : Prop := ∃ M : List (List L2.Key × Addr × List Nat), H q = some (.dT (M.map fun t => (t.1, V.ref t.2.1))) ∧ M.map (·.1) = keysOf cs ∧ (∀ t ∈ M, H t.2.1 = some (.tup (natV t.2.2))) ∧ ∀ t ∈ M, ∀ c ∈ cs, ∀ k, t.1 = skey c k → t.2.2 = offs c k
theorem LvAt.mono {H H' : Hp} {q : Addr} {cs : List CA} (s : Same H H') (h : LvAt H q cs) : LvAt H' q cs := by
  obtain ⟨M, h1, h2, h3, h4⟩ := h
  exact ⟨M, s _ _ h1, h2, fun t ht => s _ _ (h3 t ht), h4⟩
/-- how far the lists have come -/
def PtT (cs : List CA) (i j : Nat) (T : List TR) : Prop := ∀ t ∈ T, ∀ (ci : Nat) (c : CA) (k : Nat), cs[ci]? = some c → t.1 = skey c k → t.2.2 = natV (offsTo c.ss (if ci < i then c.ss.length else if ci = i then j else 0) k)
theorem PtT.next {cs : List CA} {i : Nat} {c : CA} {T : List TR} (hc : cs[i]? = some c) (h : PtT cs i c.ss.length T) : PtT cs (i + 1) 0 T := fun t ht ci c' k hci e => by
  rw [h t ht ci c' k hci e]
  by_cases h1 : ci < i
  · rw [if_pos h1, if_pos (by omega)]
  · rw [if_neg h1]
    by_cases h2 : ci = i
    · subst h2
      rw [hc] at hci
      cases hci
      rw [if_pos rfl, if_pos (by omega)]
    · rw [if_neg h2, if_neg (by omega)]
      by_cases h3 : ci = i + 1
      · rw [if_pos h3]
      · rw [if_neg h3]
theorem PtT.push {cs : List CA} (nd : (cs.map (·.nm)).Nodup) {i j : Nat} {c : CA} {p : Addr × Stp} {T : List TR} {t : TR} (hc : cs[i]? = some c) (hp : c.ss[j]? = some p) (et : t.1 = skey c p.2.n) (h : PtT cs i j T) : PtT cs i (j + 1) (pushT T t.1 (.int (j : Nat))) := fun u hu ci c' k hci e => by
  obtain ⟨u0, hu0, rfl⟩ := List.mem_map.mp hu
  have same : c'.nm = c.nm → ci = i := fun en => by
    have e1 : (cs.map (·.nm))[ci]? = some c.nm := by rw [List.getElem?_map, hci, ← en]; rfl
    have e2 : (cs.map (·.nm))[i]? = some c.nm := by rw [List.getElem?_map, hc]; rfl
    exact (List.getElem?_inj (lt_of_get e1) nd).mp (e1.trans e2.symm)
  by_cases w : u0.1 = t.1
  · rw [if_pos w] at e ⊢
    have e : u0.1 = skey c' k := e
    have e3 : skey c' k = skey c p.2.n := by rw [← e, w, et]
    obtain ⟨n1, n2⟩ := skey_inj e3
    obtain rfl := same n1
    rw [hc] at hci
    cases hci
    subst n2
    show u0.2.2 ++ [V.int (j : Nat)] = _
    rw [h u0 hu0 ci c p.2.n hc e, if_neg (Nat.lt_irrefl _), if_pos rfl, if_neg (Nat.lt_irrefl _), if_pos rfl, offsTo_succ hp, if_pos rfl]
    unfold natV
    rw [List.map_append]
    rfl
  · rw [if_neg w] at e ⊢
    rw [h u0 hu0 ci c' k hci e]
    by_cases h1 : ci < i
    · rw [if_pos h1, if_pos h1]
    · rw [if_neg h1, if_neg h1]
      by_cases h2 : ci = i
      · subst h2
        rw [hc] at hci
        cases hci
        rw [if_pos rfl, if_pos rfl, offsTo_succ hp, if_neg fun z => w (by rw [e, et, z]), List.append_nil]
      · rw [if_neg h2, if_neg h2]
def rTupOf (K : PySem.W.Frag) : List V → Hp → VK → Prop := fun xs H Q => ∃ p ys, xs = [.ref p] ∧ ((SqL K H p ys ∧ ∀ l, H l = none → Q (.ref l) (upd H l (.tup ys))) ∨ (SqT K H p ys ∧ Q (.ref p) H))
theorem tupOf_at {X : Cx} {K : PySem.W.Frag} (h : X.K = K) : CallR X (.type "tuple") (rTupOf K) := by
  subst h
  exact call_tuple_of
section
variable {P : Program} {w : World} {K : PySem.W.Frag} {mg : Str → Option Value} {base : Heap}
def spLeaving (K : PySem.W.Frag) : Sp := fun vs H Q _ => ∃ (a : Addr) (cs : List CA), vs = [.ref a] ∧ CsAt K H a cs ∧ CsOk cs ∧ ∀ H' p, Same H H' → H p = none → LvAt H' p cs → Q (.ref p) H'
abbrev nLe : List Str := ["courses", "found", "course", "k", "step", "number", "stage"]
theorem scLe : FnScope nLe ["courses"] (defScope sLeaving) := ⟨rfl, rfl, rfl, by decide +kernel, rfl, by decide +kernel, by decide +kernel⟩
theorem ok_leaving {f : Addr} {fd : FuncData} (F : Fun K "leaving_of" "leaving_of" sLeaving f fd) (N : Nones mg) : FnOk P w K mg base CX0 1 f fd ["courses"] (spLeaving K) := by
  refine F.ok scLe (fun vs H Q E h => ?_) (fun cdv A outer s H vs Q E hr h => ?_)
  · obtain ⟨a, cs, rfl, _⟩ := h
    rfl
  · obtain ⟨a, cs, rfl, hC, ok, q⟩ := h
    refine ⟨_, pss_cons (ps_set (i := 1) scLe.nd rfl (Or.inr rfl) (Ka.pe_dc2 (own := [("course", 2), ("number", 5)]) (vs1 := [5]) (g := gName 2) (g1 := gName 5) (tt := tYes) (tt1 := tYes) (Ka.storeT (hu_of hr)) rfl scLe.nd (pi_tup (pv 0)) (blkOk_by (own := [("course", 2), ("number", 5)]) (N := nLe) (sc := defScope sLeaving) (by decide +kernel)) (by decide) (fun _ _ _ _ _ => (pg_name (i := 2) scLe.nd rfl (Or.inl rfl))) (fun _ _ _ _ _ => pts_nil) (fun _ _ _ _ _ => (pi_range1 (by rfl) N.range (pa_cons (pe_ix (ixT_at (K := K) rfl) (pv 2) pe_int (fun _ _ => rfl)) pa_nil))) (fun _ _ _ _ _ => (pg_name (i := 5) scLe.nd rfl (Or.inl rfl))) (fun _ _ _ _ _ => pts_nil) (fun _ _ _ _ _ => (pe_tup (pa_cons (pe_ix (ixT_at (K := K) rfl) (pv 2) pe_int (fun _ _ => rfl)) (pa_cons (pv 5) pa_nil)))) (fun _ _ _ _ _ => (pe_lst pa_nil))))
      (pss_cons (ps_for PassesOwn.never rfl (pi_tup (pv 0)) (pg_name (i := 2) scLe.nd rfl (Or.inl rfl))
        (pss_one (ps_for PassesOwn.never rfl (Ka.pi_enumT (by rfl) N.enumerate (pa_cons (pe_ix ix_tup (pv 2) pe_int (fun _ _ => rfl)) pa_nil)) (pg_tup rfl (pgs_cons (pg_name (i := 3) scLe.nd rfl (Or.inl rfl)) (pgs_cons (pg_name (i := 4) scLe.nd rfl (Or.inl rfl)) pgs_nil)))
          (pss_one (ps_expr (pe_bm PySem.F.plainAttrs_list PySem.F.slot_list_append PySem.F.type_list_append mt_append (pe_dget (hu_of hr) (pv 1) (pe_tup (pa_cons (pe_ix ix_tup (pv 2) pe_int (fun _ _ => rfl)) (pa_cons (pe_ix ix_tup (pv 4) pe_int (fun _ _ => rfl)) pa_nil))) (fun _ _ => rfl)) (pa_cons (pv 3) pa_nil)))))))
      (pss_one (ps_ret (pe_lock (Ka.pe_dcT (own := [("stage", 6)]) (g := gName 6) rfl (hu_of hr) scLe.nd (pi_keys (pv 1)) (blkOk_by (own := [("stage", 6)]) (N := nLe) (sc := defScope sLeaving) (by decide +kernel)) (fun _ _ _ _ _ => (pg_name (i := 6) scLe.nd rfl (Or.inl rfl))) (fun _ _ _ _ _ => (pv 6)) (fun _ _ _ _ _ => (pe_callTy (tupOf_at (K := K) rfl) (by rfl) N.tuple (by decide +kernel) (pa_cons (pe_dget (hu_of hr) (pv 1) (pv 6) (fun _ _ => rfl)) pa_nil)))))))), ?_⟩
    have st60 := ok.st
    refine ⟨.ref a, rfl, a, rfl, ⟨_, hC.1⟩, fun D nD => ?_⟩
    refine out_it (walk_tup (K := K) (a := a) (xs := cs.map fun c => V.ref c.a)) (fun i G => ∃ T : List TR, Same H G ∧ G D = some (.dT (kvT T)) ∧ T.map (·.1) = keysOf (cs.take i) ∧ LsAt H G D 0 T) ⟨[], same_new nD, upd_same, rfl, ⟨(fun t ht => nomatch ht), List.nodup_nil⟩⟩ (fun _ _ _ h => Same.sqT h.choose_spec.1 hC.1) (fun i x G G' hi h y => ?_) (fun G h => ?_)
    · obtain ⟨rfl, hx⟩ := y
      obtain ⟨c, hc, rfl⟩ := get_map hx
      obtain ⟨T, sG, eG, kT, lT⟩ := h
      have mc := List.mem_of_getElem? hc
      have mcG := (hC.2 c mc).mono sG
      have okc := ok.ok c mc
      have n1 := okc.n1
      refine ⟨rfl, _, rfl, c.a, _, _, .int (c.n : Nat), rfl, rfl, mcG.t, rfl, _, rfl, by omega, by omega, ?_⟩
      refine in_it (walk_r0 (n := c.n)) (fun j G2 => ∃ T : List TR, Same H G2 ∧ G2 D = some (.dT (kvT T)) ∧ T.map (·.1) = keysOf (cs.take i) ++ keysC c j ∧ LsAt H G2 D 0 T) ⟨T, sG, eG, by rw [kT]; simp [keysC], lT⟩ (fun _ _ _ _ => True.intro) (fun j x G2 G3 hj h2 y => ?_) (fun G2 h2 => ?_)
      · obtain ⟨rfl, rfl⟩ := y
        obtain ⟨T, s2, e2, kT, lT⟩ := h2
        have mc2 := (hC.2 c mc).mono s2
        refine ⟨rfl, _, rfl, c.a, _, _, .str c.nm, rfl, rfl, mc2.t, rfl, _, rfl, smallE (by show 2 ≤ 1000000; decide), fun b nb => ⟨Nat.zero_le _, fun l nl => ?_⟩⟩
        have sb := same_new (o := .tup [V.str c.nm, V.int (j : Nat)]) nb
        have eb : upd G3 b (.tup [V.str c.nm, V.int (j : Nat)]) b = some (.tup ((skey c j).map kV)) := upd_same
        have lT := lT.mono fun t _ o e => sb _ _ e
        have e2 := sb _ _ e2
        have s2 := s2.trans sb
        generalize upd G3 b (.tup [V.str c.nm, V.int (j : Nat)]) = G4 at sb eb lT e2 s2 nl
        have sl := same_new (o := .lst []) nl
        have el : upd G4 l (.lst []) l = some (.lst []) := upd_same
        have nT : ∀ t ∈ T, t.2.1 ≠ l := fun t ht => ne_of_none (lT.st t ht).1 nl
        have lT := lT.mono fun t _ o e => sl _ _ e
        have lD : l ≠ D := fun z => by
          rw [z, e2] at nl
          cases nl
        have nlH := s2.free nl
        have e2 := sl _ _ e2
        have eb := sl _ _ eb
        have s2 := s2.trans sl
        generalize upd G4 l (.lst []) = G5 at sl el lT e2 eb s2
        have len : (kvT T).length ≤ 60 := by
          have h1 : (kvT T).length = (T.map (·.1)).length := by unfold kvT; rw [List.length_map, List.length_map]
          have h2 := nStages_le cs (i + 1)
          have h3 := nStages_snoc hc
          rw [h1, kT, List.length_append, keysOf_len, keysC_len]
          omega
        refine ⟨kvT T, skey c j, b, rfl, eb, e2, small (by omega), T ++ [(skey c j, l, [])], fun b o e => ?_, ?_, ?_, ?_⟩
        · rw [upd_ne (ne_of_none e nD)]
          exact s2 _ _ e
        · rw [upd_same, putK_new]
          · unfold kvT
            rw [List.map_append]
            rfl
          · rw [kvT_keys, kT]
            exact key_new ok.nd hc j
        · rw [List.map_append, kT, keysC_snoc, List.append_assoc]
          rfl
        · refine (lT.snoc el nlH lD nT).mono fun t ht o e => ?_
          rw [upd_ne]
          · exact e
          · rcases List.mem_append.mp ht with z | z
            · exact (lT.st t z).2.2.1
            · rw [List.mem_singleton.mp z]
              exact lD
      · obtain ⟨T, s2, e2, kT, lT⟩ := h2
        exact ⟨T, s2, e2, by rw [kT, keysOf_snoc hc], lT⟩
    · obtain ⟨T, sG, eG, kT, lT⟩ := h
      rw [List.length_map, List.take_of_length_le (Nat.le_refl _)] at kT
      have kn : (T.map (·.1)).Nodup := by
        rw [kT]
        have := keys_nd ok.nd cs.length (Nat.le_refl _)
        rwa [List.take_length] at this
      refine ⟨_, rfl, a, rfl, ⟨_, Same.sqT sG hC.1⟩, ?_⟩
      refine for_it (walk_tup (K := K) (a := a) (xs := cs.map fun c => V.ref c.a)) (fun i σ Z => ∃ (x2 x3 x4 x5 x6 : Option V) (T : List TR), σ = [some (.ref a), some (.ref D), x2, x3, x4, x5, x6] ∧ Same H Z ∧ Z D = some (.dT (kvT T)) ∧ T.map (·.1) = keysOf cs ∧ LsAt H Z D (10000 * i) T ∧ PtT cs i 0 T) ⟨none, none, none, none, none, T, rfl, sG, eG, kT, lT, fun t ht ci c k hci e => by
        have z := (lT.st t ht).2.2.2
        rw [List.eq_nil_of_length_eq_zero (Nat.le_zero.mp z), if_neg (Nat.not_lt_zero _)]
        split <;> rfl⟩ (fun i σ Z _ h => ?_) (fun i x σ Z Z' hi h y => ?_) (fun σ Z h => ?_)
      · obtain ⟨_, _, _, _, _, _, _, sZ, _⟩ := h
        exact Same.sqT sZ hC.1
      · obtain ⟨rfl, hx⟩ := y
        obtain ⟨c, hc, rfl⟩ := get_map hx
        obtain ⟨x2, x3, x4, x5, x6, T, rfl, sZ, eZ, kT, lT, pT⟩ := h
        have mc := List.mem_of_getElem? hc
        have okc := ok.ok c mc
        have osz := okc.sz
        have n8 := ok.n8
        have hi8 := lt_of_get hc
        have mcZ := (hC.2 c mc).mono sZ
        refine ⟨_, rfl, c.a, _, _, .ref c.sa, rfl, rfl, mcZ.t, rfl, c.sa, _, rfl, mcZ.s, ?_⟩
        refine for_it (walk_enumT (K := K) (a := c.sa) (xs := c.ss.map fun p => V.ref p.1)) (fun j σ Y => ∃ (x3 x4 x5 x6 : Option V) (T : List TR), σ = [some (.ref a), some (.ref D), some (.ref c.a), x3, x4, x5, x6] ∧ Same H Y ∧ Y D = some (.dT (kvT T)) ∧ T.map (·.1) = keysOf cs ∧ LsAt H Y D (10000 * i + j) T ∧ PtT cs i j T) ⟨x3, x4, x5, x6, T, rfl, sZ, eZ, kT, lT, pT⟩ (fun j σ Y _ h => ?_) (fun j x σ Y Y' hj h y => ?_) (fun σ Y h => ?_)
        · obtain ⟨_, _, _, _, _, _, sY, _⟩ := h
          exact Same.sqT sY (hC.2 c mc).s
        · obtain ⟨U, z, v, rfl, nU, rfl, hz, hv⟩ := y
          obtain ⟨x3, x4, x5, x6, T, rfl, sY, eY, kT, lT, pT⟩ := h
          cases hz
          obtain ⟨p, hp, rfl⟩ := get_map hv
          have mp := List.mem_of_getElem? hp
          have hjl := lt_of_get hp
          have sU := same_new (o := .tup [V.int (j : Nat), V.ref p.1]) nU
          have hU : upd Y U (.tup [V.int (j : Nat), V.ref p.1]) U = some (.tup [V.int (j : Nat), V.ref p.1]) := upd_same
          have lT := lT.mono fun t _ o e => sU _ _ e
          have eY := sU _ _ eY
          have sY := sY.trans sU
          generalize upd Y U (.tup [V.int (j : Nat), V.ref p.1]) = Y1 at sY hU eY lT
          have mcY := (hC.2 c mc).mono sY
          refine ⟨U, _, rfl, sqT_new hU, rfl, _, _, rfl, _, _, rfl, rfl, ?_⟩
          refine ⟨_, rfl, _, rfl, c.a, _, _, .str c.nm, rfl, rfl, mcY.t, rfl, _, rfl, p.1, _, _, .int (p.2.n : Nat), rfl, rfl, sqT_new (mcY.p p mp), rfl, smallE (by show 2 ≤ 1000000; decide), fun b nb => ?_⟩
          have sb := same_new (o := .tup [V.str c.nm, V.int (p.2.n : Nat)]) nb
          have eb : upd Y1 b (.tup [V.str c.nm, V.int (p.2.n : Nat)]) b = some (.tup ((skey c p.2.n).map kV)) := upd_same
          have lT := lT.mono fun t _ o e => sb _ _ e
          have eY := sb _ _ eY
          have sY := sY.trans sb
          generalize upd Y1 b (.tup [V.str c.nm, V.int (p.2.n : Nat)]) = Y2 at sY eb eY lT
          have hk : skey c p.2.n ∈ T.map (·.1) := by
            rw [kT]
            exact mem_keysOf mc (okc.sl p mp).1
          obtain ⟨t, ht, et⟩ := List.mem_map.mp hk
          have kn : (T.map (·.1)).Nodup := by
            rw [kT]
            have := keys_nd ok.nd cs.length (Nat.le_refl _)
            rwa [List.take_length] at this
          have hv : valV (kvT T) (skey c p.2.n) = some (.ref t.2.1) := valV_mem (by rw [kvT_keys]; exact kn) (List.mem_map.mpr ⟨t, ht, by rw [et]⟩)
          obtain ⟨a1, a2, a3, a4⟩ := lT.st t ht
          refine ⟨D, .ref t.2.1, rfl, hv ▸ DGet.t eY eb, .inl ⟨rfl, _, sqL_new a1⟩, _, rfl, t.2.1, _, _, rfl, rfl, a1, small (by omega), ?_⟩
          refine ⟨some (.int (j : Nat)), some (.ref p.1), x5, x6, pushT T t.1 (.int (j : Nat)), rfl, fun b2 o e => ?_, ?_, by rw [pushT_keys]; exact kT, lT.push kn ht, pT.push ok.nd hc hp et⟩
          · rw [upd_ne (ne_of_none e a2)]
            exact sY _ _ e
          · rw [upd_ne a3.symm, pushT_kv]
            exact eY
        · obtain ⟨x3, x4, x5, x6, T, rfl, sY, eY, kT, lT, pT⟩ := h
          rw [List.length_map] at lT pT
          exact ⟨_, _, _, _, _, T, rfl, sY, eY, kT, lT.le (by omega), pT.next hc⟩
      · obtain ⟨x2, x3, x4, x5, x6, T, rfl, sZ, eZ, kT, lT, pT⟩ := h
        have kn : (T.map (·.1)).Nodup := by
          rw [kT]
          have := keys_nd ok.nd cs.length (Nat.le_refl _)
          rwa [List.take_length] at this
        refine ⟨D, _, eZ, True.intro, fun od => ?_⟩
        generalize hL : upd Z D (.frz od (.dT (kvT T))) = L
        have fL : L D = some (.frz od (.dT (kvT T))) := by rw [← hL]; exact upd_same
        have kL : But D Z L := by rw [← hL]; exact But.upd
        have lT := lT.mono fun t ht o e => kL _ _ (lT.st t ht).2.2.1 e
        have sL : Same H L := fun b o e => kL _ _ (ne_of_none e nD) (sZ _ _ e)
        refine ⟨_, rfl, D, od, rfl, .inr ⟨kvT T, fL, fun D2 nD2 => ?_⟩⟩
        have lenT : (kvT T).length ≤ 60 := by
          have h1 : (kvT T).length = (T.map (·.1)).length := by unfold kvT; rw [List.length_map, List.length_map]
          rw [h1, kT, keysOf_len]
          exact st60
        have full : ∀ t ∈ T, ∀ c ∈ cs, ∀ k, t.1 = skey c k → t.2.2 = natV (offs c k) := fun t ht c hc k e => by
          obtain ⟨ci, hci⟩ := List.getElem?_of_mem hc
          have := pT t ht ci c k hci e
          rw [if_pos (by rw [List.length_map]; exact lt_of_get hci)] at this
          exact this
        have nat : ∀ t ∈ T, ∃ ns, t.2.2 = natV ns ∧ ∀ c ∈ cs, ∀ k, t.1 = skey c k → ns = offs c k := fun t ht => by
          have : t.1 ∈ keysOf cs := by rw [← kT]; exact List.mem_map.mpr ⟨t, ht, rfl⟩
          obtain ⟨c, hc, hk⟩ := List.mem_flatMap.mp this
          obtain ⟨k, _, e⟩ := List.mem_map.mp hk
          refine ⟨offs c k, full t ht c hc k e.symm, fun c' hc' k' e' => ?_⟩
          obtain ⟨n1, n2⟩ := skey_inj (e.trans e')
          obtain ⟨ci, hci⟩ := List.getElem?_of_mem hc
          obtain ⟨cj, hcj⟩ := List.getElem?_of_mem hc'
          have e1 : (cs.map (·.nm))[ci]? = some c.nm := by rw [List.getElem?_map, hci]; rfl
          have e2 : (cs.map (·.nm))[cj]? = some c.nm := by rw [List.getElem?_map, hcj, n1]; rfl
          have := (List.getElem?_inj (lt_of_get e1) ok.nd).mp (e1.trans e2.symm)
          subst this
          rw [hci] at hcj
          cases hcj
          rw [n2]
        refine dcT_it (walk_keysT (d := D) (o := od) (kvs := kvT T)) (fun i Y => Same L Y ∧ ∃ M : List (List L2.Key × Addr × List Nat), Y D2 = some (.dT (M.map fun t => (t.1, V.ref t.2.1))) ∧ M.map (·.1) = (T.take i).map (·.1) ∧ (∀ t ∈ M, Y t.2.1 = some (.tup (natV t.2.2))) ∧ ∀ t ∈ M, ∀ c ∈ cs, ∀ k, t.1 = skey c k → t.2.2 = offs c k) ⟨same_new nD2, [], upd_same, rfl, (fun t ht => nomatch ht), fun t ht => nomatch ht⟩ (fun _ _ _ h => h.1 _ _ fL) (fun i x Y Y' hi h y => ?_) (fun Y h => ?_)
        · obtain ⟨rfl, k, v, b, hkv, rfl, hb⟩ := y
          obtain ⟨sY, M, eY, kM, tM, oM⟩ := h
          obtain ⟨t, ht, e⟩ := get_map hkv
          cases e
          have mt := List.mem_of_getElem? ht
          have hv : valV (kvT T) t.1 = some (.ref t.2.1) := valV_mem (by rw [kvT_keys]; exact kn) (List.mem_map.mpr ⟨t, mt, rfl⟩)
          have hG : DGet Y' D (.ref b) (some (.ref t.2.1)) := .inr ⟨kvT T, t.1, b, .inr ⟨od, sY _ _ fL⟩, rfl, hb, hv.symm⟩
          obtain ⟨ns, hns, hof⟩ := nat t mt
          refine ⟨rfl, _, rfl, _, rfl, _, rfl, D, _, rfl, hG, t.2.1, _, rfl, .inl ⟨sqL_new (sY _ _ (lT.st t mt).1), fun l nl => ?_⟩⟩
          have sl := same_new (o := .tup t.2.2) nl
          have el : upd Y' l (.tup t.2.2) l = some (.tup (natV ns)) := by rw [upd_same, hns]
          have eD := sl _ _ eY
          have hb2 := sl _ _ hb
          generalize upd Y' l (.tup t.2.2) = W at sl el eD hb2
          have nDt : ∀ {c : Addr} {xs : List V}, W c = some (.tup xs) → c ≠ D2 := fun e w => by
            rw [w, eD] at e
            cases e
          have lM : M.length ≤ 60 := by
            have := congrArg List.length kM
            rw [List.length_map, List.length_map, List.length_take] at this
            have h1 : (kvT T).length = T.length := by unfold kvT; rw [List.length_map]
            omega
          refine ⟨_, t.1, b, rfl, hb2, eD, by rw [List.length_map]; exact small (by omega), fun b2 o e => ?_, M ++ [(t.1, l, ns)], ?_, ?_, fun u hu => ?_, fun u hu => ?_⟩
          · rw [upd_ne (ne_of_none e nD2)]
            exact sl _ _ (sY _ _ e)
          · rw [upd_same, putK_new]
            · rw [List.map_append]
              rfl
            · rw [List.map_map]
              have : (List.map ((fun x => x.1) ∘ fun (t : List L2.Key × Addr × List Nat) => (t.1, V.ref t.2.1)) M) = M.map (·.1) := rfl
              rw [this, kM]
              intro z
              have nd2 := kn
              rw [← List.take_append_drop i T, List.map_append, drop_of_get ht, List.map_cons, List.nodup_append] at nd2
              exact nd2.2.2 _ z _ List.mem_cons_self rfl
          · rw [List.map_append, kM, take_of_get ht, List.map_append]
            rfl
          · rcases List.mem_append.mp hu with z | z
            · have a1 := sl _ _ (tM u z)
              rw [upd_ne (nDt a1)]
              exact a1
            · rw [List.mem_singleton.mp z, upd_ne (nDt el)]
              exact el
          · rcases List.mem_append.mp hu with z | z
            · exact oM u z
            · rw [List.mem_singleton.mp z]
              exact hof
        · obtain ⟨sY, M, eY, kM, tM, oM⟩ := h
          have hTl : (kvT T).length = T.length := by unfold kvT; rw [List.length_map]
          rw [hTl, List.take_of_length_le (Nat.le_refl _), kT] at kM
          have nY : ∀ {c : Addr} {o : HO}, Y c = some o → (∀ u, o ≠ .frz od u) → c ≠ D := fun e h2 z => by
            rw [z, sY _ _ fL] at e
            exact h2 _ (Option.some.inj e).symm
          refine ⟨sY _ _ fL, q _ D2 (fun b o e => ?_) (sL.free nD2) ⟨M, ?_, kM, fun t ht => ?_, oM⟩⟩
          · rw [upd_ne (ne_of_none e nD)]
            exact sY _ _ (sL _ _ e)
          · rw [upd_ne (nY eY fun _ => fun e => by cases e)]
            exact eY
          · rw [upd_ne (nY (tM t ht) fun _ => fun e => by cases e)]
            exact tM t ht
end
end Kb
namespace Kb
open PySem PySem.Spec PyProof.Rows L2
/-! ### the class Book: its constructor, deeds -/
/-- what the written part says of the class -/
structure BkC (K : PySem.W.Frag) (mg : Str → Option Value) (C : Addr) : Prop where
  cl : Cls K C
  nC : NoAttr K C "courses"
  nP : NoAttr K C "_places"
  nS : NoAttr K C "_stages"
  nE : NoAttr K C "_ends"
  nL : NoAttr K C "_leaving"
  mgC : mg "Book" = some (.ref C)
/-- a book at p -/
abbrev SP := Addr × Str × Nat
def spV (S : List SP) : List V := S.map fun t => V.ref t.1
/-- names to places -/
def plTo (cs : List CA) (i : Nat) : List (L2.Key × V) := (List.range i).map fun (j : Nat) => (Sum.inr ((cs[j]?.map (·.nm)).getD ""), V.int (j : Int))
theorem plTo_succ {cs : List CA} {i : Nat} {c : CA} (h : cs[i]? = some c) : plTo cs (i + 1) = plTo cs i ++ [(Sum.inr c.nm, V.int (i : Int))] := by
  unfold plTo
  rw [List.range_succ, List.map_append, List.map_singleton, h]
  rfl
theorem plTo_keys {cs : List CA} : ∀ i, i ≤ cs.length → (plTo cs i).map (·.1) = ((cs.take i).map (·.nm)).map Sum.inr
  | 0, _ => rfl
  | i + 1, h => by
    have hc : cs[i]? = some (cs[i]'(by omega)) := List.getElem?_eq_getElem _
    rw [plTo_succ hc, List.map_append, plTo_keys i (by omega), take_of_get hc, List.map_append, List.map_append]
    rfl
theorem plTo_len (cs : List CA) (i : Nat) : (plTo cs i).length = i := by
  unfold plTo
  rw [List.length_map, List.length_range]
/-- the ends as keys -/
def edKeys (cs : List CA) : List (List L2.Key) := cs.flatMap fun c => c.es.map (skey c)
def edKV (ks : List (List L2.Key)) : List (List L2.Key × V) := ks.map fun k => (k, V.bl true)
theorem edKV_keys (ks : List (List L2.Key)) : (edKV ks).map (·.1) = ks := by
  unfold edKV
  rw [List.map_map]
  exact List.map_id _
theorem edKV_len (ks : List (List L2.Key)) : (edKV ks).length = ks.length := List.length_map _
theorem edKeys_snoc {cs : List CA} {i : Nat} {c : CA} (h : cs[i]? = some c) : edKeys (cs.take (i + 1)) = edKeys (cs.take i) ++ c.es.map (skey c) := by
  unfold edKeys
  rw [take_of_get h, List.flatMap_append]
  simp
theorem edKey_new {cs : List CA} (nd : (cs.map (·.nm)).Nodup) {i : Nat} {c : CA} (h : cs[i]? = some c) {j e : Nat} (asc : c.es.Pairwise (· < ·)) (he : c.es[j]? = some e) : skey c e ∉ edKeys (cs.take i) ++ (c.es.take j).map (skey c) := by
  intro z
  rcases List.mem_append.mp z with z | z
  · obtain ⟨c', hc', hk⟩ := List.mem_flatMap.mp z
    obtain ⟨k, _, e⟩ := List.mem_map.mp hk
    have e := (skey_inj e).1
    rw [← List.take_append_drop i cs, List.map_append, drop_of_get h, List.map_cons, List.nodup_append] at nd
    exact nd.2.2 _ (List.mem_map.mpr ⟨c', hc', rfl⟩) _ List.mem_cons_self e
  · obtain ⟨k, hk, e2⟩ := List.mem_map.mp z
    obtain rfl := (skey_inj e2).2
    rw [← List.take_append_drop j c.es, drop_of_get he, List.pairwise_append] at asc
    exact Nat.lt_irrefl _ (asc.2.2 _ hk _ List.mem_cons_self)
/-- the stages -/
def stagesOf (cs : List CA) : List (Str × Nat) := cs.flatMap fun c => (List.range c.n).map fun k => (c.nm, k)
theorem stagesOf_snoc {cs : List CA} {i : Nat} {c : CA} (h : cs[i]? = some c) : stagesOf (cs.take (i + 1)) = stagesOf (cs.take i) ++ (List.range c.n).map fun k => (c.nm, k) := by
  unfold stagesOf
  rw [take_of_get h, List.flatMap_append]
  simp
def stD (x : Str × Nat) : PyData := .tuple [.str x.1, .int (x.2 : Int)]
def stLe (x y : Str × Nat) : Bool := !PySem.W.dataLt (stD y) (stD x)
/-- the names of a book's methods -/
def bkMeths : List Str := ["names", "main", "index_of", "ends", "steps", "steps_from", "is_end", "is_stage", "stages", "calls", "deeds"]
structure FsF (fs : List (Str × V)) (a P1 S1 E1 L1 : Addr) : Prop where
  c : fs.lookup ("courses" : Str) = some (.ref a)
  p : fs.lookup ("_places" : Str) = some (.ref P1)
  s : fs.lookup ("_stages" : Str) = some (.ref S1)
  e : fs.lookup ("_ends" : Str) = some (.ref E1)
  l : fs.lookup ("_leaving" : Str) = some (.ref L1)
  no : ∀ n ∈ bkMeths, fs.lookup n = none
def BookAt (K : PySem.W.Frag) (C : Addr) (H : Hp) (p : Addr) (a : Addr) (cs : List CA) : Prop :=
  ∃ (dx : Addr) (fs : List (Str × V)) (P1 S1 E1 L1 : Addr) (S : List SP), H p = some (.ins C dx fs) ∧ FsF fs a P1 S1 E1 L1 ∧ CsAt K H a cs ∧ CsOk cs ∧ H P1 = some (.dK (plTo cs cs.length)) ∧ H S1 = some (.tup (spV S)) ∧ (∀ t ∈ S, H t.1 = some (.tup [.str t.2.1, .int (t.2.2 : Int)])) ∧ S.map (·.2) = (stagesOf cs).mergeSort stLe ∧ H E1 = some (.dT (edKV (edKeys cs))) ∧ LvAt H L1 cs
theorem BookAt.mono {K : PySem.W.Frag} {C : Addr} {H H' : Hp} {p a : Addr} {cs : List CA} (s : Same H H') (h : BookAt K C H p a cs) : BookAt K C H' p a cs := by
  obtain ⟨dx, fs, P1, S1, E1, L1, S, h1, h2, h3, h4, h5, h6, h7, h8, h9, h10⟩ := h
  exact ⟨dx, fs, P1, S1, E1, L1, S, s _ _ h1, h2, h3.mono s, h4, s _ _ h5, s _ _ h6, fun t ht => s _ _ (h7 t ht), h8, s _ _ h9, h10.mono s⟩
theorem CsAt.but {K : PySem.W.Frag} {H H' : Hp} {a p : Addr} {cs : List CA} {C dx : Addr} {fs : List (Str × V)} (k : But p H H') (hp : H p = some (.ins C dx fs)) (h : CsAt K H a cs) : CsAt K H' a cs := by
  have one : ∀ {b : Addr} {xs : List V}, SqT K H b xs → SqT K H' b xs := fun {b xs} h => by
    rcases h with (h | ⟨o, h⟩) | h
    · exact .inl (.inl (k _ _ (fun e => by rw [e, hp] at h; cases h) h))
    · exact .inl (.inr ⟨o, k _ _ (fun e => by rw [e, hp] at h; cases h) h⟩)
    · exact .inr h
  refine ⟨one h.1, fun c hc => ?_⟩
  have := h.2 c hc
  exact ⟨one this.t, one this.e, one this.s, fun q hq => k _ _ (fun e => by have := this.p q hq; rw [e, hp] at this; cases this) (this.p q hq)⟩
def spZ (t : SP) : Ka.HZ := (V.ref t.1, .tuple [.str t.2.1, .int (t.2.2 : Int)])
/-- the fields of a book so far -/
structure FsOk (fs : List (Str × V)) (a : Addr) (m : Nat) : Prop where
  c : fs.lookup ("courses" : Str) = some (.ref a)
  d : ∀ n ∈ bkMeths, fs.lookup n = none
  l : fs.length ≤ m
theorem putF_len {n : Str} {v : V} : ∀ {fs : List (Str × V)}, (putF n v fs).length ≤ fs.length + 1
  | [] => Nat.le_refl _
  | q :: fs => by
    have ih := putF_len (n := n) (v := v) (fs := fs)
    unfold putF
    split
    · simp
    · rw [List.length_cons, List.length_cons]
      omega
theorem FsOk.put {fs : List (Str × V)} {a : Addr} {m : Nat} {n : Str} {v : V} (h : FsOk fs a m) (h1 : ¬ ("courses" : Str) = n) (h2 : n ∉ bkMeths) : FsOk (putF n v fs) a (m + 1) :=
  ⟨by rw [lookup_putF, if_neg h1]; exact h.c, fun k hk => by rw [lookup_putF, if_neg (fun e => h2 (by rw [← e]; exact hk))]; exact h.d k hk, Nat.le_trans putF_len (Nat.add_le_add_right h.l 1)⟩
section
variable {P : Program} {w : World} {K : PySem.W.Frag} {mg : Str → Option Value} {base : Heap}
def spBkInit (K : PySem.W.Frag) (C : Addr) : Sp := fun vs H Q _ => ∃ (p a dx : Addr) (cs : List CA), vs = [.ref p, .ref a] ∧ H p = some (.ins C dx []) ∧ CsAt K H a cs ∧ CsOk cs ∧ ∀ H', But p H H' → BookAt K C H' p a cs → Q .non H'
abbrev nBi : List Str := ["self", "courses", "at", "course", "number"]
theorem scBi : FnScope nBi ["self", "courses"] (defScope sBkInit) := ⟨rfl, rfl, rfl, by decide +kernel, rfl, by decide +kernel, by decide +kernel⟩
theorem ok_bkinit {f C fE fT fL : Addr} {fd fdE fdT fdL : FuncData} (F : Fun K "__init__" "Book.__init__" sBkInit f fd) (N : Nones mg) (B : BkC K mg C) (G_check_each : FnOk P w K mg base CX0 7 fE fdE ["courses"] (spChEach K)) (C_check_each : CallC K mg "check_each" ["courses"] fE fdE)
    (G_check_together : FnOk P w K mg base CX0 2 fT fdT ["courses"] (spChTog K)) (C_check_together : CallC K mg "check_together" ["courses"] fT fdT) (G_leaving_of : FnOk P w K mg base CX0 1 fL fdL ["courses"] (spLeaving K)) (C_leaving_of : CallC K mg "leaving_of" ["courses"] fL fdL) : FnOk P w K mg base CX0 8 f fd ["self", "courses"] (spBkInit K C) := by
  refine F.ok scBi (fun vs H Q E h => ?_) (fun cdv A outer s H vs Q E hr h => ?_)
  · obtain ⟨p, a, dx, cs, rfl, _⟩ := h
    rfl
  · obtain ⟨p, a, dx, cs, rfl, hp, hC, ok, q⟩ := h
    refine ⟨_, pss_cons (ps_if (pt_not (pt_val (pe_callB call_isi (by rfl) N.isinstance (by decide +kernel) (pa_cons (pv 1) (pa_cons (pe_bltn (v := .ty "tuple") (by rfl) N.tuple (by decide +kernel) rfl) pa_nil))))) (pss_one ps_never) pss_nil)
      (pss_cons (ps_expr (pe_call G_check_each (hr.mono (by decide)) (by rfl) C_check_each.g C_check_each.kp C_check_each.b .nil pass0 (pa_cons (pv 1) pa_nil)))
      (pss_cons (ps_expr (pe_call G_check_together (hr.mono (by decide)) (by rfl) C_check_together.g C_check_together.kp C_check_together.b .nil pass0 (pa_cons (pv 1) pa_nil)))
      (pss_cons (ps_fld (pv 0) (pv 1) rfl)
      (pss_cons (ps_fld (pv 0) (pe_dc (own := [("at", 2), ("course", 3)]) (g := gTup K 2 (gCons (gName 2) (gCons (gName 3) gNil))) (tt := tYes) rfl scBi.nd (Ka.pi_enumT (by rfl) N.enumerate (pa_cons (pv 1) pa_nil)) (blkOk_by (own := [("at", 2), ("course", 3)]) (N := nBi) (sc := defScope sBkInit) (by decide +kernel)) (fun _ _ _ _ _ => (tup_at (K := K) rfl rfl (pgs_cons (pg_name (i := 2) scBi.nd rfl (Or.inl rfl)) (pgs_cons (pg_name (i := 3) scBi.nd rfl (Or.inl rfl)) pgs_nil)))) (fun _ _ _ _ _ => pts_nil) (fun _ _ _ _ _ => (pe_ix (ixT_at (K := K) rfl) (pv 3) pe_int (fun _ _ => rfl))) (fun _ _ _ _ _ => (pv 2))) rfl)
      (pss_cons (ps_fld (pv 0) (pe_callTy call_tuple_of (by rfl) N.tuple (by decide +kernel) (pa_cons (pe_callB (Ka.cr_sortG hr.units) (by rfl) N.sorted (by decide +kernel) (pa_cons (pe_lc2 (own := [("course", 3), ("number", 4)]) (vs1 := [4]) (g := gName 3) (g1 := gName 4) (tt := tYes) (tt1 := tYes) rfl scBi.nd (pi_tup (pv 1)) (blkOk_by (own := [("course", 3), ("number", 4)]) (N := nBi) (sc := defScope sBkInit) (by decide +kernel)) (by decide) (fun _ _ _ _ _ => (pg_name (i := 3) scBi.nd rfl (Or.inl rfl))) (fun _ _ _ _ _ => pts_nil) (fun _ _ _ _ _ => (pi_range1 (by rfl) N.range (pa_cons (pe_ix (ixT_at (K := K) rfl) (pv 3) pe_int (fun _ _ => rfl)) pa_nil))) (fun _ _ _ _ _ => (pg_name (i := 4) scBi.nd rfl (Or.inl rfl))) (fun _ _ _ _ _ => pts_nil) (fun _ _ _ _ _ => (pe_tup (pa_cons (pe_ix (ixT_at (K := K) rfl) (pv 3) pe_int (fun _ _ => rfl)) (pa_cons (pv 4) pa_nil))))) pa_nil)) pa_nil)) rfl)
      (pss_cons (ps_fld (pv 0) (Ka.pe_dc2 (own := [("course", 3), ("number", 4)]) (vs1 := [4]) (g := gName 3) (g1 := gName 4) (tt := tYes) (tt1 := tYes) (Ka.storeT (hu_of hr)) rfl scBi.nd (pi_tup (pv 1)) (blkOk_by (own := [("course", 3), ("number", 4)]) (N := nBi) (sc := defScope sBkInit) (by decide +kernel)) (by decide) (fun _ _ _ _ _ => (pg_name (i := 3) scBi.nd rfl (Or.inl rfl))) (fun _ _ _ _ _ => pts_nil) (fun _ _ _ _ _ => (piT_at (K := K) rfl (pe_ix (ixT_at (K := K) rfl) (pv 3) pe_int (fun _ _ => rfl)))) (fun _ _ _ _ _ => (pg_name (i := 4) scBi.nd rfl (Or.inl rfl))) (fun _ _ _ _ _ => pts_nil) (fun _ _ _ _ _ => (pe_tup (pa_cons (pe_ix (ixT_at (K := K) rfl) (pv 3) pe_int (fun _ _ => rfl)) (pa_cons (pv 4) pa_nil)))) (fun _ _ _ _ _ => pe_bl)) rfl)
      (pss_one (ps_fld (pv 0) (pe_call G_leaving_of (hr.mono (by decide)) (by rfl) C_leaving_of.g C_leaving_of.kp C_leaving_of.b .nil pass0 (pa_cons (pv 1) pa_nil)) rfl)))))))), ?_⟩
    refine ⟨.ref a, rfl, .ref a, .ty "tuple", .type "tuple", .type "tuple", true, rfl, .ty "tuple", tyT hC.1, kit_ty (by decide +kernel), true, rfl, iteF ?_⟩
    refine ⟨_, rfl, a, cs, rfl, hC, ok, fun H1 s1 => ?_⟩
    refine ⟨_, rfl, a, cs, rfl, hC.mono s1, ok, fun H2 s2 => ?_⟩
    have hp2 := s2 _ _ (s1 _ _ hp)
    have k2 : But p H H2 := But.of (s1.trans s2)
    have hC2 := (hC.mono s1).mono s2
    refine ⟨_, rfl, _, rfl, p, C, dx, [], rfl, hp2, B.cl, B.nC, (by show 0 < 1000; decide), ?_⟩
    have F1 : FsOk (putF "courses" (.ref a) []) a 1 := ⟨by rw [lookup_putF, if_pos rfl], fun k hk => by rw [lookup_putF, if_neg (fun e => absurd (e ▸ hk) (by decide +kernel))]; rfl, Nat.le_trans putF_len (Nat.le_refl _)⟩
    have hp3 : upd H2 p (.ins C dx (putF "courses" (.ref a) [])) p = some (.ins C dx (putF "courses" (.ref a) [])) := upd_same
    have k3 : But p H (upd H2 p (.ins C dx (putF "courses" (.ref a) []))) := k2.trans But.upd
    generalize upd H2 p (.ins C dx (putF "courses" (.ref a) [])) = G1 at hp3 k3
    generalize putF "courses" (.ref a) [] = fs1 at F1 hp3
    have hC3 := hC.but k3 hp
    -- _places
    refine ⟨_, rfl, a, _, rfl, hC3.1, fun D nD => ?_⟩
    refine dcK_it (walk_enumT (K := K) (a := a) (xs := cs.map fun c => V.ref c.a)) (fun i G => Same G1 G ∧ G D = some (.dK (plTo cs i))) ⟨same_new nD, upd_same⟩ (fun _ _ _ h => Same.sqT h.1 hC3.1) (fun i x G G' hi h y => ?_) (fun G h => ?_)
    · obtain ⟨T, z, v, rfl, nT, rfl, hz, hv⟩ := y
      obtain ⟨sG, eG⟩ := h
      cases hz
      obtain ⟨c, hc, rfl⟩ := get_map hv
      have n8 := ok.n8
      have hi8 := lt_of_get hc
      have sT := same_new (o := .tup [V.int (i : Nat), V.ref c.a]) nT
      have hT : upd G T (.tup [V.int (i : Nat), V.ref c.a]) T = some (.tup [V.int (i : Nat), V.ref c.a]) := upd_same
      have mc := (hC3.2 c (List.mem_of_getElem? hc)).mono (sG.trans sT)
      refine ⟨T, _, rfl, sqT_new hT, rfl, _, _, rfl, _, _, rfl, rfl, rfl, ?_⟩
      refine ⟨_, rfl, c.a, _, _, .str c.nm, rfl, rfl, mc.t, rfl, _, rfl, _, Sum.inr c.nm, rfl, sT _ _ eG, by rw [plTo_len]; exact small (by omega), fun b o e => ?_, ?_⟩
      · rw [upd_ne (ne_of_none e nD)]
        exact sT _ _ (sG _ _ e)
      · rw [upd_same, putK_new, plTo_succ hc]
        rw [plTo_keys i (by omega)]
        intro z
        obtain ⟨y, hy, e⟩ := List.mem_map.mp z
        rw [Sum.inr.inj e] at hy
        have nd := ok.nd
        rw [← List.take_append_drop i cs, List.map_append, drop_of_get hc, List.map_cons, List.nodup_append] at nd
        exact nd.2.2 _ hy _ List.mem_cons_self rfl
    obtain ⟨sG, eP⟩ := h
    rw [List.length_map] at eP
    have nDp : D ≠ p := fun z => by rw [z, hp3] at nD; cases nD
    have hp4 := sG _ _ hp3
    have k4 := k3.trans (But.of sG)
    have F2 : FsOk (putF "_places" (.ref D) fs1) a 2 := F1.put (by decide +kernel) (by decide +kernel)
    have L2p : (putF "_places" (.ref D) fs1).lookup ("_places" : Str) = some (.ref D) := by rw [lookup_putF, if_pos rfl]
    have eP : upd G p (.ins C dx (putF "_places" (.ref D) fs1)) D = some (.dK (plTo cs cs.length)) := by rw [upd_ne nDp]; exact eP
    refine ⟨_, rfl, p, C, dx, fs1, rfl, hp4, B.cl, B.nP, (by have := F1.l; omega), ?_⟩
    have hp5 : upd G p (.ins C dx (putF "_places" (.ref D) fs1)) p = some (.ins C dx (putF "_places" (.ref D) fs1)) := upd_same
    have k5 : But p H (upd G p (.ins C dx (putF "_places" (.ref D) fs1))) := k4.trans But.upd
    generalize upd G p (.ins C dx (putF "_places" (.ref D) fs1)) = G2 at hp5 k5 eP
    generalize putF "_places" (.ref D) fs1 = fs2 at F2 hp5 L2p
    have hC5 := hC.but k5 hp
    clear hp4 k4 sG nD hp3 k3 F1 hC3
    -- _stages
    refine ⟨_, rfl, a, rfl, ⟨_, hC5.1⟩, fun L nL => ?_⟩
    refine lcout_it (walk_tup (K := K) (a := a) (xs := cs.map fun c => V.ref c.a)) (fun i G => Same G2 G ∧ ∃ S : List SP, G L = some (.lst (spV S)) ∧ (∀ t ∈ S, G t.1 = some (.tup [V.str t.2.1, V.int (t.2.2 : Nat)])) ∧ S.length ≤ nStages (cs.take i) ∧ S.map (·.2) = stagesOf (cs.take i)) ⟨same_new nL, [], upd_same, (fun t ht => nomatch ht), Nat.zero_le _, rfl⟩ (fun _ _ _ h => Same.sqT h.1 hC5.1) (fun i x G G' hi h y => ?_) (fun G h => ?_)
    · obtain ⟨rfl, hx⟩ := y
      obtain ⟨c, hc, rfl⟩ := get_map hx
      obtain ⟨sG, S, eG, tS, lS, oS⟩ := h
      have mc := List.mem_of_getElem? hc
      have okc := ok.ok c mc
      have n1 := okc.n1
      have h2 := nStages_le cs (i + 1)
      have h3 := nStages_snoc hc
      have st60 := ok.st
      refine ⟨rfl, _, rfl, c.a, _, _, .int (c.n : Nat), rfl, rfl, ((hC5.2 c mc).mono sG).t, rfl, _, rfl, by omega, by omega, ?_⟩
      refine lcin_it (walk_r0 (n := c.n)) (fun j G3 => Same G2 G3 ∧ ∃ S : List SP, G3 L = some (.lst (spV S)) ∧ (∀ t ∈ S, G3 t.1 = some (.tup [V.str t.2.1, V.int (t.2.2 : Nat)])) ∧ S.length ≤ nStages (cs.take i) + j ∧ S.map (·.2) = stagesOf (cs.take i) ++ (List.range j).map fun k => (c.nm, k)) ⟨sG, S, eG, tS, lS, by rw [oS]; simp⟩ (fun _ _ _ _ => True.intro) (fun j x G3 G4 hj h2 y => ?_) (fun G3 h2 => ?_)
      · obtain ⟨rfl, rfl⟩ := y
        obtain ⟨s3, S, e3, tS, lS, oS⟩ := h2
        refine ⟨rfl, _, rfl, c.a, _, _, .str c.nm, rfl, rfl, ((hC5.2 c mc).mono s3).t, rfl, _, rfl, smallE (by show 2 ≤ 1000000; decide), fun b nb => ?_⟩
        have sb := same_new (o := .tup [V.str c.nm, V.int (j : Nat)]) nb
        have eb : upd G4 b (.tup [V.str c.nm, V.int (j : Nat)]) b = some (.tup [V.str c.nm, V.int (j : Nat)]) := upd_same
        have lb : b ≠ L := fun z => by rw [z, e3] at nb; cases nb
        refine ⟨_, sb _ _ e3, ?_, fun b2 o e => ?_, S ++ [(b, c.nm, j)], ?_, fun t ht => ?_, ?_, by rw [List.map_append, oS, List.range_succ, List.map_append, List.append_assoc]; rfl⟩
        · unfold spV
          rw [List.length_map]
          exact small (by omega)
        · rw [upd_ne (ne_of_none e nL)]
          exact sb _ _ (s3 _ _ e)
        · rw [upd_same]
          unfold spV
          rw [List.map_append]
          rfl
        · rcases List.mem_append.mp ht with z | z
          · rw [upd_ne (fun w => by have := tS t z; rw [w, e3] at this; cases this)]
            exact sb _ _ (tS t z)
          · rw [List.mem_singleton.mp z, upd_ne lb]
            exact eb
        · rw [List.length_append, List.length_singleton]
          omega
      · obtain ⟨s3, S, e3, tS, lS, oS⟩ := h2
        exact ⟨s3, S, e3, tS, by rw [h3]; exact lS, by rw [oS, stagesOf_snoc hc]⟩
    obtain ⟨sG, S, eG, tS, lS, oS⟩ := h
    rw [List.length_map, List.take_of_length_le (Nat.le_refl _)] at oS
    have hz0 : Ka.hzV (S.map spZ) = spV S := by
      unfold Ka.hzV spV
      rw [List.map_map]
      rfl
    refine ⟨L, S.map spZ, rfl, by rw [hz0]; exact sqL_new eG, fun z hz => ?_, fun z hz y hy => ?_, fun z hz => ?_, fun z hz => ?_, fun q1 nq1 => ?_⟩
    · obtain ⟨t, ht, rfl⟩ := List.mem_map.mp hz
      exact .tup (sqT_new (tS t ht)) (.cons (.str _) (.cons (.int _) .nil))
    · obtain ⟨t, ht, rfl⟩ := List.mem_map.mp hz
      obtain ⟨u, hu, rfl⟩ := List.mem_map.mp hy
      simp [spZ, PySem.W.alike, PySem.W.alikeAll]
    · obtain ⟨t, ht, rfl⟩ := List.mem_map.mp hz
      exact ⟨_, _, rfl⟩
    · obtain ⟨t, ht, rfl⟩ := List.mem_map.mp hz
      simp [spZ, PyData.depth, PyData.depthAll]
    have hS2 : Ka.hzV ((S.map spZ).mergeSort Ka.hzLe) = spV (S.mergeSort fun x y => stLe x.2 y.2) := by
      rw [← PySem.W.sort_maps (r := fun x y : SP => stLe x.2 y.2) (s := Ka.hzLe) spZ (l := S) (fun x _ y _ => rfl)]
      unfold Ka.hzV spV
      rw [List.map_map]
      rfl
    have oS2 : (S.mergeSort fun x y => stLe x.2 y.2).map (·.2) = (stagesOf cs).mergeSort stLe := by
      rw [← oS]
      exact PySem.W.sort_maps (fun x : SP => x.2) (fun x _ y _ => rfl)
    have tS2 : ∀ t ∈ S.mergeSort (fun x y => stLe x.2 y.2), G t.1 = some (.tup [V.str t.2.1, V.int (t.2.2 : Nat)]) := fun t ht => tS t (List.mem_mergeSort.mp ht)
    rw [hS2]
    generalize S.mergeSort (fun x y => stLe x.2 y.2) = S2 at oS2 tS2
    have sq := same_new (o := .lst (spV S2)) nq1
    have eq1 : upd G q1 (.lst (spV S2)) q1 = some (.lst (spV S2)) := upd_same
    have tS2 := fun t ht => sq _ _ (tS2 t ht)
    have sG := sG.trans sq
    generalize upd G q1 (.lst (spV S2)) = G3 at sG eq1 tS2
    refine ⟨q1, _, rfl, .inl ⟨sqL_new eq1, fun l nl => ?_⟩⟩
    have sl := same_new (o := .tup (spV S2)) nl
    have sG := sG.trans sl
    have tS2 := fun t ht => sl _ _ (tS2 t ht)
    have eS : upd G3 l (.tup (spV S2)) l = some (.tup (spV S2)) := upd_same
    generalize upd G3 l (.tup (spV S2)) = G4 at sG tS2 eS
    have eP := sG _ _ eP
    have hp6 := sG _ _ hp5
    have k6 := k5.trans (But.of sG)
    have F3 : FsOk (putF "_stages" (.ref l) fs2) a 3 := F2.put (by decide +kernel) (by decide +kernel)
    have L3p : (putF "_stages" (.ref l) fs2).lookup ("_places" : Str) = some (.ref D) := by rw [lookup_putF, if_neg (by decide +kernel)]; exact L2p
    have L3s : (putF "_stages" (.ref l) fs2).lookup ("_stages" : Str) = some (.ref l) := by rw [lookup_putF, if_pos rfl]
    have nP : ∀ {c : Addr} {o : HO}, G4 c = some o → (∀ fs, o ≠ .ins C dx fs) → c ≠ p := fun e h2 z => by
      rw [z, hp6] at e
      exact h2 _ (Option.some.inj e).symm
    have eP : upd G4 p (.ins C dx (putF "_stages" (.ref l) fs2)) D = some (.dK (plTo cs cs.length)) := by rw [upd_ne nDp]; exact eP
    have eS : upd G4 p (.ins C dx (putF "_stages" (.ref l) fs2)) l = some (.tup (spV S2)) := by rw [upd_ne (nP eS fun _ e => by cases e)]; exact eS
    have tS2 : ∀ t ∈ S2, upd G4 p (.ins C dx (putF "_stages" (.ref l) fs2)) t.1 = some (.tup [V.str t.2.1, V.int (t.2.2 : Nat)]) := fun t ht => by rw [upd_ne (nP (tS2 t ht) fun _ e => by cases e)]; exact tS2 t ht
    refine ⟨_, rfl, p, C, dx, fs2, rfl, hp6, B.cl, B.nS, (by have := F2.l; omega), ?_⟩
    have hp7 : upd G4 p (.ins C dx (putF "_stages" (.ref l) fs2)) p = some (.ins C dx (putF "_stages" (.ref l) fs2)) := upd_same
    have k7 : But p H (upd G4 p (.ins C dx (putF "_stages" (.ref l) fs2))) := k6.trans But.upd
    generalize upd G4 p (.ins C dx (putF "_stages" (.ref l) fs2)) = G5 at hp7 k7 eP eS tS2
    generalize putF "_stages" (.ref l) fs2 = fs3 at F3 hp7 L3p L3s
    have hC7 := hC.but k7 hp
    clear nP hp6 k6 sG sq eq1 eG tS hp5 k5 F2 hC5 sl
    -- _ends
    refine ⟨_, rfl, a, rfl, ⟨_, hC7.1⟩, fun D2 nD2 => ?_⟩
    refine out_it (walk_tup (K := K) (a := a) (xs := cs.map fun c => V.ref c.a)) (fun i G => Same G5 G ∧ G D2 = some (.dT (edKV (edKeys (cs.take i)))) ∧ (edKeys (cs.take i)).length ≤ 10000 * i) ⟨same_new nD2, upd_same, Nat.zero_le _⟩ (fun _ _ _ h => Same.sqT h.1 hC7.1) (fun i x G G' hi h y => ?_) (fun G h => ?_)
    · obtain ⟨rfl, hx⟩ := y
      obtain ⟨c, hc, rfl⟩ := get_map hx
      obtain ⟨sG, eG, lG⟩ := h
      have mc := List.mem_of_getElem? hc
      have okc := ok.ok c mc
      have n8 := ok.n8
      have ez := okc.ez
      have hi8 := lt_of_get hc
      have mcG := (hC7.2 c mc).mono sG
      refine ⟨rfl, _, rfl, c.a, _, _, .ref c.ea, rfl, rfl, mcG.t, rfl, c.ea, rfl, ⟨_, mcG.e⟩, ?_⟩
      refine in_it (walk_tup (K := K) (a := c.ea) (xs := natV c.es)) (fun j G6 => Same G5 G6 ∧ G6 D2 = some (.dT (edKV (edKeys (cs.take i) ++ (c.es.take j).map (skey c))))) ⟨sG, by rw [List.take_zero, List.map_nil, List.append_nil]; exact eG⟩ (fun _ _ _ h => Same.sqT h.1 (hC7.2 c mc).e) (fun j x G6 G7 hj h2 y => ?_) (fun G6 h2 => ?_)
      · obtain ⟨rfl, hx⟩ := y
        rw [natV_len] at hj
        obtain ⟨e, he, rfl⟩ := get_map (f := fun (i : Nat) => V.int (i : Int)) hx
        obtain ⟨s6, e6⟩ := h2
        refine ⟨rfl, _, rfl, c.a, _, _, .str c.nm, rfl, rfl, ((hC7.2 c mc).mono s6).t, rfl, _, rfl, smallE (by show 2 ≤ 1000000; decide), fun b nb => ?_⟩
        have sb := same_new (o := .tup [V.str c.nm, V.int (e : Int)]) nb
        have eb : upd G7 b (.tup [V.str c.nm, V.int (e : Int)]) b = some (.tup ((skey c e).map kV)) := upd_same
        refine ⟨_, skey c e, b, rfl, eb, sb _ _ e6, ?_, fun b2 o e => ?_, ?_⟩
        · rw [edKV_len, List.length_append, List.length_map, List.length_take]
          exact small (by omega)
        · rw [upd_ne (ne_of_none e nD2)]
          exact sb _ _ (s6 _ _ e)
        · rw [upd_same, putK_new]
          · rw [take_of_get he, List.map_append, ← List.append_assoc]
            unfold edKV
            rw [List.map_append (l₂ := [e].map (skey c))]
            rfl
          · rw [edKV_keys]
            exact edKey_new ok.nd hc okc.asc he
      · obtain ⟨s6, e6⟩ := h2
        rw [natV_len, List.take_of_length_le (Nat.le_refl _)] at e6
        refine ⟨s6, by rw [edKeys_snoc hc]; exact e6, ?_⟩
        rw [edKeys_snoc hc, List.length_append, List.length_map]
        omega
    obtain ⟨sG, eE, _⟩ := h
    rw [List.length_map, List.take_of_length_le (Nat.le_refl _)] at eE
    have eP := sG _ _ eP
    have eS := sG _ _ eS
    have tS2 := fun t ht => sG _ _ (tS2 t ht)
    have hp8 := sG _ _ hp7
    have k8 := k7.trans (But.of sG)
    have F4 : FsOk (putF "_ends" (.ref D2) fs3) a 4 := F3.put (by decide +kernel) (by decide +kernel)
    have L4p : (putF "_ends" (.ref D2) fs3).lookup ("_places" : Str) = some (.ref D) := by rw [lookup_putF, if_neg (by decide +kernel)]; exact L3p
    have L4s : (putF "_ends" (.ref D2) fs3).lookup ("_stages" : Str) = some (.ref l) := by rw [lookup_putF, if_neg (by decide +kernel)]; exact L3s
    have L4e : (putF "_ends" (.ref D2) fs3).lookup ("_ends" : Str) = some (.ref D2) := by rw [lookup_putF, if_pos rfl]
    have nP : ∀ {c : Addr} {o : HO}, G c = some o → (∀ fs, o ≠ .ins C dx fs) → c ≠ p := fun e h2 z => by
      rw [z, hp8] at e
      exact h2 _ (Option.some.inj e).symm
    have eP : upd G p (.ins C dx (putF "_ends" (.ref D2) fs3)) D = some (.dK (plTo cs cs.length)) := by rw [upd_ne nDp]; exact eP
    have eS : upd G p (.ins C dx (putF "_ends" (.ref D2) fs3)) l = some (.tup (spV S2)) := by rw [upd_ne (nP eS fun _ e => by cases e)]; exact eS
    have tS2 : ∀ t ∈ S2, upd G p (.ins C dx (putF "_ends" (.ref D2) fs3)) t.1 = some (.tup [V.str t.2.1, V.int (t.2.2 : Nat)]) := fun t ht => by rw [upd_ne (nP (tS2 t ht) fun _ e => by cases e)]; exact tS2 t ht
    have eE : upd G p (.ins C dx (putF "_ends" (.ref D2) fs3)) D2 = some (.dT (edKV (edKeys cs))) := by rw [upd_ne (nP eE fun _ e => by cases e)]; exact eE
    refine ⟨_, rfl, p, C, dx, fs3, rfl, hp8, B.cl, B.nE, (by have := F3.l; omega), ?_⟩
    have hp9 : upd G p (.ins C dx (putF "_ends" (.ref D2) fs3)) p = some (.ins C dx (putF "_ends" (.ref D2) fs3)) := upd_same
    have k9 : But p H (upd G p (.ins C dx (putF "_ends" (.ref D2) fs3))) := k8.trans But.upd
    generalize upd G p (.ins C dx (putF "_ends" (.ref D2) fs3)) = G8 at hp9 k9 eP eS tS2 eE
    generalize putF "_ends" (.ref D2) fs3 = fs4 at F4 hp9 L4p L4s L4e
    have hC9 := hC.but k9 hp
    -- _leaving
    refine ⟨_, rfl, a, cs, rfl, hC9, ok, fun G9 l2 s9 nl2 lv => ?_⟩
    have F5 : FsOk (putF "_leaving" (.ref l2) fs4) a 5 := F4.put (by decide +kernel) (by decide +kernel)
    have hpA := s9 _ _ hp9
    refine ⟨_, rfl, p, C, dx, fs4, rfl, hpA, B.cl, B.nL, (by have := F4.l; omega), ?_⟩
    have k10 : But p H (upd G9 p (.ins C dx (putF "_leaving" (.ref l2) fs4))) := (k9.trans (But.of s9)).trans But.upd
    have nP : ∀ {c : Addr} {o : HO}, G9 c = some o → (∀ fs, o ≠ .ins C dx fs) → upd G9 p (.ins C dx (putF "_leaving" (.ref l2) fs4)) c = some o := fun {c o} e h2 => by
      rw [upd_ne]
      · exact e
      · intro z
        rw [z, hpA] at e
        exact h2 _ (Option.some.inj e).symm
    refine q _ k10 ⟨dx, _, D, l, D2, l2, S2, upd_same, ⟨F5.c, by rw [lookup_putF, if_neg (by decide +kernel)]; exact L4p, by rw [lookup_putF, if_neg (by decide +kernel)]; exact L4s, by rw [lookup_putF, if_neg (by decide +kernel)]; exact L4e, by rw [lookup_putF, if_pos rfl], F5.d⟩, hC.but k10 hp, ok, nP (s9 _ _ eP) (fun _ e => by cases e), nP (s9 _ _ eS) (fun _ e => by cases e), fun t ht => nP (s9 _ _ (tS2 t ht)) (fun _ e => by cases e), oS2, nP (s9 _ _ eE) (fun _ e => by cases e), ?_⟩
    obtain ⟨M, m1, m2, m3, m4⟩ := lv
    exact ⟨M, nP m1 (fun _ e => by cases e), m2, fun t ht => nP (m3 t ht) (fun _ e => by cases e), m4⟩
/-- the deeds of a book -/
def spBkDeeds (K : PySem.W.Frag) (C : Addr) : Sp := fun vs H Q _ => ∃ (p a : Addr) (cs : List CA), vs = [.ref p] ∧ BookAt K C H p a cs ∧ ∀ H' q ds, Same H H' → H q = none → H' q = some (.tup (ds.map V.str)) → ds.Perm (uniq (dns cs)) → sortedS ds = true → Q (.ref q) H'
abbrev nBd : List Str := ["self"]
theorem scBd : FnScope nBd ["self"] (defScope sBkDeeds) := ⟨rfl, rfl, rfl, by decide +kernel, rfl, by decide +kernel, by decide +kernel⟩
theorem ok_bkdeeds {f C fI : Addr} {fd fdI : FuncData} (F : Fun K "deeds" "Book.deeds" sBkDeeds f fd) (N : Nones mg) (B : BkC K mg C) (G_deeds_in : FnOk P w K mg base CX0 1 fI fdI ["courses"] (spDeedsIn K)) (C_deeds_in : CallC K mg "deeds_in" ["courses"] fI fdI) : FnOk P w K mg base CX0 2 f fd ["self"] (spBkDeeds K C) := by
  refine F.ok scBd (fun vs H Q E h => ?_) (fun cdv A outer s H vs Q E hr h => ?_)
  · obtain ⟨p, a, cs, rfl, _⟩ := h
    rfl
  · obtain ⟨p, a, cs, rfl, ⟨dx, fs, _, _, _, _, _, hp, ⟨hc, _, _, _, _, _⟩, hC, ok, _⟩, q⟩ := h
    refine ⟨_, pss_one (ps_ret (pe_callTy call_tuple_of (by rfl) N.tuple (by decide +kernel) (pa_cons (pe_callB (call_sortedD rfl) (by rfl) N.sorted (by decide +kernel) (pa_cons (pe_call G_deeds_in (hr.mono (by decide)) (by rfl) C_deeds_in.g C_deeds_in.kp C_deeds_in.b .nil pass0 (pa_cons (pe_fld (pv 0) rfl) pa_nil)) pa_nil)) pa_nil))), ?_⟩
    refine ⟨_, rfl, p, C, dx, fs, .ref a, rfl, hp, B.cl, B.nC, hc, a, cs, rfl, hC, ok.dz, fun H1 D s1 nD eD => ?_⟩
    refine ⟨D, _, uniq (dns cs), rfl, .inl eD, deedKV_keys _, by have := ok.d12; omega, fun ys l hperm hs nl => ?_⟩
    have s2 := same_new (o := .lst (ys.map V.str)) nl
    refine ⟨l, _, rfl, .inl ⟨sqL_new upd_same, fun t nt => ?_⟩⟩
    exact q _ t ys ((s1.trans s2).trans (same_new nt)) ((s1.trans s2).free nt) upd_same hperm hs
end
end Kb
namespace Kb
open PySem PySem.Spec PyProof.Rows L2
/-! ### a book's own: ends, steps, steps_from, is_end, stages, main -/
abbrev Stg := Str × Nat
def stK (x : Stg) : List L2.Key := [.inr x.1, .inl (x.2 : Int)]
def stV (x : Stg) : List V := [.str x.1, .int (x.2 : Int)]
theorem stKV (x : Stg) : (stK x).map kV = stV x := rfl
theorem stK_inj {x y : Stg} (h : stK x = stK y) : x = y := by
  unfold stK at h
  injection h with h1 h
  injection h with h2 h
  have h1 := Sum.inr.inj h1
  have h2 := Sum.inl.inj h2
  have h2 : (x.2 : Int) = (y.2 : Int) := h2
  exact Prod.ext h1 (by omega)
theorem valV_has {κ : Type} [DecidableEq κ] : ∀ (kvs : List (κ × V)) (k : κ), (valV kvs k).isSome = decide (k ∈ kvs.map (·.1))
  | [], _ => rfl
  | p :: r, k => by
    by_cases h : p.1 = k
    · rw [valV_pos h]
      simp [h]
    · rw [valV_neg h, valV_has r k]
      have : (k ∈ (p :: r).map (·.1)) ↔ k ∈ r.map (·.1) := by
        rw [List.map_cons, List.mem_cons]
        exact ⟨fun z => z.elim (fun e => absurd e.symm h) id, .inr⟩
      exact decide_eq_decide.mpr this.symm
theorem same_course {cs : List CA} (nd : (cs.map (·.nm)).Nodup) {c c' : CA} (h : c ∈ cs) (h' : c' ∈ cs) (e : c.nm = c'.nm) : c = c' := inj_of_nd nd h h' e
theorem edKeys_mem {cs : List CA} (nd : (cs.map (·.nm)).Nodup) {c : CA} (h : c ∈ cs) (k : Nat) : skey c k ∈ edKeys cs ↔ k ∈ c.es := by
  unfold edKeys
  rw [List.mem_flatMap]
  constructor
  · rintro ⟨c', h', hk⟩
    obtain ⟨e, he, e2⟩ := List.mem_map.mp hk
    obtain ⟨n1, n2⟩ := skey_inj e2
    have := same_course nd h' h n1
    subst this
    rw [← n2]
    exact he
  · exact fun hk => ⟨c, h, List.mem_map.mpr ⟨k, hk, rfl⟩⟩
theorem pl_at {cs : List CA} (nd : (cs.map (·.nm)).Nodup) {i : Nat} {c : CA} (h : cs[i]? = some c) : valV (plTo cs cs.length) (Sum.inr c.nm : L2.Key) = some (.int (i : Int)) := by
  refine valV_mem ?_ ?_
  · rw [plTo_keys _ (Nat.le_refl _), List.take_length]
    unfold List.Nodup at nd ⊢
    rw [List.pairwise_map]
    exact nd.imp fun ne e => ne (Sum.inr.inj e)
  · unfold plTo
    exact List.mem_map.mpr ⟨i, List.mem_range.mpr (lt_of_get h), by rw [h]; rfl⟩
section
variable {P : Program} {w : World} {K : PySem.W.Frag} {mg : Str → Option Value} {base : Heap}
def spBkSteps (K : PySem.W.Frag) (C : Addr) : Sp := fun vs H Q _ => ∃ (p a : Addr) (cs : List CA) (c : CA), vs = [.ref p, .str c.nm] ∧ BookAt K C H p a cs ∧ c ∈ cs ∧ Q (.ref c.sa) H
abbrev nBs : List Str := ["self", "course"]
theorem scBs : FnScope nBs ["self", "course"] (defScope sBkSteps) := ⟨rfl, rfl, rfl, by decide +kernel, rfl, by decide +kernel, by decide +kernel⟩
theorem ok_bksteps {f C : Addr} {fd : FuncData} (F : Fun K "steps" "Book.steps" sBkSteps f fd) (B : BkC K mg C) : FnOk P w K mg base CX0 1 f fd ["self", "course"] (spBkSteps K C) := by
  refine F.ok scBs (fun vs H Q E h => ?_) (fun cdv A outer s H vs Q E hr h => ?_)
  · obtain ⟨p, a, cs, c, rfl, _⟩ := h
    rfl
  · obtain ⟨p, a, cs, c, rfl, ⟨dx, fs, P1, S1, E1, L1, S, hp, L, hC, ok, eP, _⟩, mc, q⟩ := h
    refine ⟨_, pss_one (ps_ret (pe_ix ix_tup (pe_ix ix_tup (pe_fld (pv 0) rfl) (pe_dget (hu_of hr) (pe_fld (pv 0) rfl) (pv 1) (fun _ _ => rfl)) (fun _ _ => rfl)) pe_int (fun _ _ => rfl))), ?_⟩
    obtain ⟨i, hi⟩ := List.getElem?_of_mem mc
    have g1 : DGet H P1 (.str c.nm) (some (.int (i : Int))) := by
      have := DGet.k (k := Sum.inr c.nm) eP
      rw [pl_at ok.nd hi] at this
      exact this
    have hic : (cs.map fun c => V.ref c.a)[i]? = some (.ref c.a) := by rw [List.getElem?_map, hi]; rfl
    exact ⟨_, rfl, p, C, dx, fs, .ref a, rfl, hp, B.cl, B.nC, L.c, _, rfl, p, C, dx, fs, .ref P1, rfl, hp, B.cl, B.nP, L.p, _, rfl, P1, .int (i : Int), rfl, g1, a, _, _, .ref c.a, rfl, rfl, hC.1, atI_nat hic, c.a, _, _, .ref c.sa, rfl, rfl, (hC.2 c mc).t, rfl, q⟩
def spBkEnds (K : PySem.W.Frag) (C : Addr) : Sp := fun vs H Q _ => ∃ (p a : Addr) (cs : List CA) (c : CA), vs = [.ref p, .str c.nm] ∧ BookAt K C H p a cs ∧ c ∈ cs ∧ Q (.ref c.ea) H
abbrev nBe : List Str := ["self", "course"]
theorem scBe : FnScope nBe ["self", "course"] (defScope sBkEnds) := ⟨rfl, rfl, rfl, by decide +kernel, rfl, by decide +kernel, by decide +kernel⟩
theorem ok_bkends {f C : Addr} {fd : FuncData} (F : Fun K "ends" "Book.ends" sBkEnds f fd) (B : BkC K mg C) : FnOk P w K mg base CX0 1 f fd ["self", "course"] (spBkEnds K C) := by
  refine F.ok scBe (fun vs H Q E h => ?_) (fun cdv A outer s H vs Q E hr h => ?_)
  · obtain ⟨p, a, cs, c, rfl, _⟩ := h
    rfl
  · obtain ⟨p, a, cs, c, rfl, ⟨dx, fs, P1, S1, E1, L1, S, hp, L, hC, ok, eP, _⟩, mc, q⟩ := h
    refine ⟨_, pss_one (ps_ret (pe_ix ix_tup (pe_ix ix_tup (pe_fld (pv 0) rfl) (pe_dget (hu_of hr) (pe_fld (pv 0) rfl) (pv 1) (fun _ _ => rfl)) (fun _ _ => rfl)) pe_int (fun _ _ => rfl))), ?_⟩
    obtain ⟨i, hi⟩ := List.getElem?_of_mem mc
    have g1 : DGet H P1 (.str c.nm) (some (.int (i : Int))) := by
      have := DGet.k (k := Sum.inr c.nm) eP
      rw [pl_at ok.nd hi] at this
      exact this
    have hic : (cs.map fun c => V.ref c.a)[i]? = some (.ref c.a) := by rw [List.getElem?_map, hi]; rfl
    exact ⟨_, rfl, p, C, dx, fs, .ref a, rfl, hp, B.cl, B.nC, L.c, _, rfl, p, C, dx, fs, .ref P1, rfl, hp, B.cl, B.nP, L.p, _, rfl, P1, .int (i : Int), rfl, g1, a, _, _, .ref c.a, rfl, rfl, hC.1, atI_nat hic, c.a, _, _, .ref c.ea, rfl, rfl, (hC.2 c mc).t, rfl, q⟩
def spBkFrom (K : PySem.W.Frag) (C : Addr) : Sp := fun vs H Q _ => ∃ (p a b : Addr) (cs : List CA) (c : CA) (k : Nat), vs = [.ref p, .ref b] ∧ BookAt K C H p a cs ∧ c ∈ cs ∧ k < c.n ∧ H b = some (.tup (stV (c.nm, k))) ∧ ∀ q, H q = some (.tup (natV (offs c k))) → Q (.ref q) H
abbrev nBf : List Str := ["self", "stage"]
theorem scBf : FnScope nBf ["self", "stage"] (defScope sBkFrom) := ⟨rfl, rfl, rfl, by decide +kernel, rfl, by decide +kernel, by decide +kernel⟩
theorem ok_bkfrom {f C : Addr} {fd : FuncData} (F : Fun K "steps_from" "Book.steps_from" sBkFrom f fd) (B : BkC K mg C) : FnOk P w K mg base CX0 1 f fd ["self", "stage"] (spBkFrom K C) := by
  refine F.ok scBf (fun vs H Q E h => ?_) (fun cdv A outer s H vs Q E hr h => ?_)
  · obtain ⟨p, a, b, cs, c, k, rfl, _⟩ := h
    rfl
  · obtain ⟨p, a, b, cs, c, k, rfl, ⟨dx, fs, P1, S1, E1, L1, S, hp, L, hC, ok, eP, _, _, _, _, M, m1, m2, m3, m4⟩, mc, hk, hb, q⟩ := h
    refine ⟨_, pss_one (ps_ret (pe_dget (hu_of hr) (pe_fld (pv 0) rfl) (pv 1) (fun _ _ => rfl))), ?_⟩
    have hm : skey c k ∈ M.map (·.1) := by rw [m2]; exact mem_keysOf mc hk
    obtain ⟨t, ht, et⟩ := List.mem_map.mp hm
    have kn : (M.map (·.1)).Nodup := by
      rw [m2]
      have := keys_nd ok.nd cs.length (Nat.le_refl _)
      rwa [List.take_length] at this
    have hv : valV (M.map fun t => (t.1, V.ref t.2.1)) (stK (c.nm, k)) = some (.ref t.2.1) := valV_mem (by rw [List.map_map]; exact kn) (List.mem_map.mpr ⟨t, ht, by rw [et]; rfl⟩)
    refine ⟨_, rfl, p, C, dx, fs, .ref L1, rfl, hp, B.cl, B.nL, L.l, _, rfl, L1, .ref t.2.1, rfl, hv ▸ DGet.t m1 (k := stK (c.nm, k)) hb, ?_⟩
    refine q t.2.1 ?_
    rw [m3 t ht, m4 t ht c mc k et]
def spBkIsEnd (K : PySem.W.Frag) (C : Addr) : Sp := fun vs H Q _ => ∃ (p a b : Addr) (cs : List CA) (c : CA) (k : Nat), vs = [.ref p, .ref b] ∧ BookAt K C H p a cs ∧ c ∈ cs ∧ H b = some (.tup (stV (c.nm, k))) ∧ Q (.bl (decide (k ∈ c.es))) H
abbrev nBx2 : List Str := ["self", "stage"]
theorem scBx2 : FnScope nBx2 ["self", "stage"] (defScope sBkIsEnd) := ⟨rfl, rfl, rfl, by decide +kernel, rfl, by decide +kernel, by decide +kernel⟩
theorem ok_bkisend {f C : Addr} {fd : FuncData} (F : Fun K "is_end" "Book.is_end" sBkIsEnd f fd) (B : BkC K mg C) : FnOk P w K mg base CX0 1 f fd ["self", "stage"] (spBkIsEnd K C) := by
  refine F.ok scBx2 (fun vs H Q E h => ?_) (fun cdv A outer s H vs Q E hr h => ?_)
  · obtain ⟨p, a, b, cs, c, k, rfl, _⟩ := h
    rfl
  · obtain ⟨p, a, b, cs, c, k, rfl, ⟨dx, fs, P1, S1, E1, L1, S, hp, L, hC, ok, _, _, _, _, eE, _⟩, mc, hb, q⟩ := h
    refine ⟨_, pss_one (ps_ret (pe_cmp (pc_din (hu_of hr) (pv 1) (pe_fld (pv 0) rfl)) rfl)), ?_⟩
    refine ⟨_, rfl, _, rfl, p, C, dx, fs, .ref E1, rfl, hp, B.cl, B.nE, L.e, E1, _, rfl, DGet.t eE (k := stK (c.nm, k)) hb, ?_⟩
    have : (valV (edKV (edKeys cs)) (stK (c.nm, k))).isSome = decide (k ∈ c.es) := by
      rw [valV_has, edKV_keys]
      exact decide_eq_decide.mpr (edKeys_mem ok.nd mc k)
    rw [this]
    exact q
end
end Kb
namespace Kb
open PySem PySem.Spec PyProof.Rows L2
/-! ### the errors InvalidRow and InvalidDealing -/
section
variable {P : Program} {w : World} {K : PySem.W.Frag} {mg : Str → Option Value} {base : Heap}
def spAtInit (C : Addr) : Sp := fun vs H Q _ => ∃ (a : Addr) (v : V), vs = [.ref a, v] ∧ H a = some (exo a C none) ∧ ∀ dx, H dx = none → dx ≠ a → Q .non (upd (upd H dx (exd dx [("at", v)])) a (exo a C (some dx)))
/-- what the written part says of the class InvalidRow -/
structure RowC (K : PySem.W.Frag) (mg : Str → Option Value) (C fI : Addr) (fd : FuncData) : Prop where
  oex : OexC K C
  iC : PySem.W.findIn K (.ref C) "__init__" = some (some (.ref fI))
  tI : PySem.W.typeIn K (.ref fI) = some (.type "function")
  no : PySem.W.findIn K (.ref C) "at" = some none
  gC : mg "InvalidRow" = some (.ref C)
  F : Fun K "__init__" "InvalidRow.__init__" sRowInit fI fd
  b : Binds K fd ["self", "at"] []
theorem scRowInit : FnScope ["self", "at"] ["self", "at"] (defScope sRowInit) := ⟨rfl, rfl, rfl, by decide +kernel, rfl, by decide +kernel, by decide +kernel⟩
theorem ok_rowinit {C f : Addr} {fd : FuncData} (R : RowC K mg C f fd) : FnOk P w K mg base CX0 1 f fd ["self", "at"] (spAtInit C) := by
  refine R.F.ok scRowInit (fun vs H Q E h => ?_) (fun cdv A outer s H vs Q E hr h => ?_)
  · obtain ⟨a, v, rfl, _⟩ := h
    rfl
  · obtain ⟨a, v, rfl, e, q⟩ := h
    refine ⟨_, pss_one (ps_ost (pv 0) (pv 1)), ?_⟩
    exact ⟨v, rfl, .ref a, rfl, a, C, rfl, R.oex, R.no, .inl ⟨e, fun dx n1 n2 => q dx n1 n2⟩⟩
/-- the error with the place z -/
def AtW (C : Addr) (E : XK) (H : Hp) (z : Int) : Prop := ∀ H' d, Same H H' → H d = none → H' d = some (.xd [("at", .int z)]) → E (.ref C) (some d) H'
theorem AtW.mono {C : Addr} {E : XK} {H H1 : Hp} {z : Int} (h : AtW C E H z) (s : Same H H1) : AtW C E H1 z := fun H' d s2 nd e => h H' d (s.trans s2) (s.free nd) e
theorem atW_mk {C : Addr} {E : XK} {H : Hp} {z : Int} (h : AtW C E H z) : [V.int z].length ≤ 1000 ∧ ∀ a, H a = none → spAtInit C (.ref a :: ([.int z] ++ [])) (upd H a (exo a C none))
    (fun v H2 => v = .non ∧ ∃ (d : Addr) (fs : List (Str × V)), H2 a = some (exo a C (some d)) ∧ H2 d = some (exd d fs) ∧ H d = none ∧ E (.ref C) (some d) (upd (del H2 a) d (.xd fs))) (fun _ _ _ => False) := by
  refine ⟨by show 1 ≤ 1000; decide, fun a na => ⟨a, .int z, rfl, upd_same, fun dx n1 n2 => ?_⟩⟩
  have n1' : H dx = none := by
    rw [upd_ne n2] at n1
    exact n1
  refine ⟨rfl, dx, [("at", .int z)], upd_same, ?_, n1', h _ dx (fun c o e => ?_) n1' upd_same⟩
  · rw [upd_ne n2, upd_same]
  · have ca : c ≠ a := ne_of_none e na
    have cd : c ≠ dx := ne_of_none e n1'
    rw [upd_ne cd, del_ne ca, upd_ne ca, upd_ne cd, upd_ne ca]
    exact e
end
end Kb
namespace Kb
open PySem PySem.Spec PyProof.Rows L2
/-! ### the order of texts -/
abbrev leS (a b : Str) : Prop := a.cps.toList ≤ b.cps.toList
theorem leS_anti {a b : Str} (h1 : leS a b) (h2 : leS b a) : a = b := by
  have e : a.cps.toList = b.cps.toList := List.le_antisymm h1 h2
  cases a
  cases b
  rename_i x y
  have : x = y := Array.toList_inj.mp e
  rw [this]
theorem rising_pw : ∀ (l : List Str) (p : Str), risingS p l = true → (p :: l).Pairwise leS
  | [], p, _ => List.pairwise_singleton _ _
  | x :: r, p, h => by
    have h : (!ltCps x.cps.toList p.cps.toList && risingS x r) = true := h
    rw [Bool.and_eq_true, ltCps_eq, Bool.not_eq_true', decide_eq_false_iff_not] at h
    have ih := rising_pw r x h.2
    have hpx : leS p x := h.1
    refine List.pairwise_cons.mpr ⟨fun y hy => ?_, ih⟩
    rcases List.mem_cons.mp hy with e | e
    · rw [e]
      exact hpx
    · exact List.le_trans hpx ((List.pairwise_cons.mp ih).1 y e)
theorem sorted_pw {l : List Str} (h : sortedS l = true) : l.Pairwise leS := by
  cases l with
  | nil => exact List.Pairwise.nil
  | cons x r => exact rising_pw r x h
theorem sorted_of {l : List Str} (h : l.Pairwise leS) : sortedS l = true := by
  refine sortedS_of_pairwise l (h.imp fun {a b} hab => ?_)
  rw [ltCps_eq, decide_eq_false_iff_not]
  exact hab
theorem pw_uniq : ∀ {a b : List Str}, a.Pairwise leS → b.Pairwise leS → a.Perm b → a = b
  | [], b, _, _, p => (List.nil_perm.mp p).symm
  | x :: a, [], _, _, p => absurd p.length_eq (by simp)
  | x :: a, y :: b, ha, hb, p => by
    have ha2 := List.pairwise_cons.mp ha
    have hb2 := List.pairwise_cons.mp hb
    have exy : x = y := by
      rcases List.mem_cons.mp (p.mem_iff.mp List.mem_cons_self : x ∈ y :: b) with e | e
      · exact e
      · rcases List.mem_cons.mp (p.mem_iff.mpr List.mem_cons_self : y ∈ x :: a) with e2 | e2
        · exact e2.symm
        · exact leS_anti (ha2.1 y e2) (hb2.1 x e)
    subst exy
    rw [pw_uniq ha2.2 hb2.2 (List.Perm.cons_inv p)]
theorem sorted_uniq {a b : List Str} (ha : sortedS a = true) (hb : sortedS b = true) (p : a.Perm b) : a = b := pw_uniq (sorted_pw ha) (sorted_pw hb) p
theorem perm_of_mem : ∀ {a b : List Str}, a.Nodup → b.Nodup → (∀ x, x ∈ a ↔ x ∈ b) → a.Perm b := fun ha hb h => (List.perm_ext_iff_of_nodup ha hb).mpr h
theorem sorted_filter {l : List Str} (p : Str → Bool) (h : sortedS l = true) : sortedS (l.filter p) = true := sorted_of ((sorted_pw h).filter p)
end Kb
namespace Kb
open PySem PySem.Spec PyProof.Rows L2
/-! ### dealings -/
/-- a pair of a deed and a desk where it stands -/
abbrev DP := Addr × Str × Str
def DealAt (K : PySem.W.Frag) (H : Hp) (a : Addr) (ps : List DP) : Prop := SqT K H a (ps.map fun p => V.ref p.1) ∧ ∀ p ∈ ps, H p.1 = some (.tup [.str p.2.1, .str p.2.2])
theorem DealAt.mono {K : PySem.W.Frag} {H H' : Hp} {a : Addr} {ps : List DP} (s : Same H H') (h : DealAt K H a ps) : DealAt K H' a ps := ⟨Same.sqT s h.1, fun p hp => s _ _ (h.2 p hp)⟩
structure DOk (ps : List DP) : Prop where
  nd : (ps.map (·.2.1)).Nodup
  sz : ps.length ≤ 12
def byKV (ps : List DP) : List (L2.Key × V) := ps.map fun p => (Sum.inr p.2.1, V.str p.2.2)
theorem byKV_len (ps : List DP) : (byKV ps).length = ps.length := List.length_map _
theorem byKV_keys (ps : List DP) : (byKV ps).map (·.1) = (ps.map (·.2.1)).map Sum.inr := by
  unfold byKV
  rw [List.map_map, List.map_map]
  rfl
/-- the desk of a deed -/
def deskOf : List DP → Str → Option Str
  | [], _ => none
  | p :: ps, d => if p.2.1 = d then some p.2.2 else deskOf ps d
theorem valV_by : ∀ (ps : List DP) (d : Str), valV (byKV ps) (Sum.inr d : L2.Key) = (deskOf ps d).map V.str
  | [], _ => rfl
  | p :: ps, d => by
    show valV ((((Sum.inr p.2.1 : L2.Key), V.str p.2.2)) :: byKV ps) _ = _
    unfold deskOf
    by_cases h : p.2.1 = d
    · rw [if_pos h, valV_pos (by rw [h])]
      rfl
    · rw [if_neg h, valV_neg (fun z => h (Sum.inr.inj z)), valV_by ps d]
/-- the first place of a row whose deed has no desk -/
def bad (ps : List DP) (us : List Str) : Option Nat := us.findIdx? fun x => (deskOf ps x).isNone
theorem bad_none {ps : List DP} {us : List Str} (h : bad ps us = none) {x : Str} (hx : x ∈ us) : ∃ k, deskOf ps x = some k := by
  have := List.findIdx?_eq_none_iff.mp h x hx
  cases e : deskOf ps x with
  | none =>
    rw [e] at this
    cases this
  | some k => exact ⟨k, rfl⟩
/-- the part of a row at a desk -/
def partL (ps : List DP) (k : Str) (us : List Str) : List Str := us.filter fun x => decide (deskOf ps x = some k)
theorem partL_snoc {ps : List DP} {k : Str} {us : List Str} {i : Nat} {x : Str} (h : us[i]? = some x) : partL ps k (us.take (i + 1)) = partL ps k (us.take i) ++ (if deskOf ps x = some k then [x] else []) := by
  unfold partL
  rw [take_of_get h, List.filter_append]
  by_cases e : deskOf ps x = some k <;> simp [e]
def IsDesks (ps : List DP) (ds : List Str) : Prop := ds.Perm (uniq (ps.map (·.2.2))) ∧ sortedS ds = true
section
variable {P : Program} {w : World} {K : PySem.W.Frag} {mg : Str → Option Value} {base : Heap}
def spByDeed (K : PySem.W.Frag) : Sp := fun vs H Q _ => ∃ (a : Addr) (ps : List DP), vs = [.ref a] ∧ DealAt K H a ps ∧ DOk ps ∧ ∀ H' D, Same H H' → H D = none → H' D = some (.dK (byKV ps)) → Q (.ref D) H'
abbrev nDd : List Str := ["dealing", "deed", "desk"]
theorem scDd : FnScope nDd ["dealing"] (defScope sByDeed) := ⟨rfl, rfl, rfl, by decide +kernel, rfl, by decide +kernel, by decide +kernel⟩
theorem ok_bydeed {f : Addr} {fd : FuncData} (F : Fun K "desks_by_deed" "desks_by_deed" sByDeed f fd) : FnOk P w K mg base CX0 1 f fd ["dealing"] (spByDeed K) := by
  refine F.ok scDd (fun vs H Q E h => ?_) (fun cdv A outer s H vs Q E hr h => ?_)
  · obtain ⟨a, ps, rfl, _⟩ := h
    rfl
  · obtain ⟨a, ps, rfl, hD, ok, q⟩ := h
    refine ⟨_, pss_one (ps_ret (pe_dc (own := [("deed", 1), ("desk", 2)]) (g := gTup K 2 (gCons (gName 1) (gCons (gName 2) gNil))) (tt := tYes) rfl scDd.nd (pi_tup (pv 0)) (blkOk_by (own := [("deed", 1), ("desk", 2)]) (N := nDd) (sc := defScope sByDeed) (by decide +kernel)) (fun _ _ _ _ _ => (tup_at (K := K) rfl rfl (pgs_cons (pg_name (i := 1) scDd.nd rfl (Or.inl rfl)) (pgs_cons (pg_name (i := 2) scDd.nd rfl (Or.inl rfl)) pgs_nil)))) (fun _ _ _ _ _ => pts_nil) (fun _ _ _ _ _ => (pv 1)) (fun _ _ _ _ _ => (pv 2)))), ?_⟩
    refine ⟨.ref a, rfl, a, rfl, ⟨_, hD.1⟩, fun D nD => ?_⟩
    refine dcK_it (walk_tup (K := K) (a := a) (xs := ps.map fun p => V.ref p.1)) (fun i G => Same H G ∧ G D = some (.dK (byKV (ps.take i)))) ⟨same_new nD, upd_same⟩ (fun _ _ _ h => Same.sqT h.1 hD.1) (fun i x G G' hi h y => ?_) (fun G h => ?_)
    · obtain ⟨rfl, hx⟩ := y
      obtain ⟨p, hp, rfl⟩ := get_map hx
      obtain ⟨sG, eG⟩ := h
      have sz := ok.sz
      have hi := lt_of_get hp
      refine ⟨p.1, _, rfl, sqT_new (sG _ _ (hD.2 p (List.mem_of_getElem? hp))), rfl, _, _, rfl, _, _, rfl, rfl, rfl, ?_⟩
      refine ⟨_, rfl, _, rfl, _, Sum.inr p.2.1, rfl, eG, ?_, fun b o e => ?_, ?_⟩
      · rw [byKV_len, List.length_take]
        exact small (by omega)
      · rw [upd_ne (ne_of_none e nD)]
        exact sG _ _ e
      · rw [upd_same, putK_new, take_of_get hp]
        · unfold byKV
          rw [List.map_append]
          rfl
        · rw [byKV_keys]
          intro z
          obtain ⟨y, hy, e⟩ := List.mem_map.mp z
          rw [Sum.inr.inj e] at hy
          have nd := ok.nd
          rw [← List.take_append_drop i ps, List.map_append, drop_of_get hp, List.map_cons, List.nodup_append] at nd
          exact nd.2.2 _ hy _ List.mem_cons_self rfl
    · obtain ⟨sG, eG⟩ := h
      rw [List.length_map, List.take_of_length_le (Nat.le_refl _)] at eG
      exact q G D sG nD eG
def spDesksOf (K : PySem.W.Frag) : Sp := fun vs H Q _ => ∃ (a : Addr) (ps : List DP) (ds : List Str), vs = [.ref a] ∧ DealAt K H a ps ∧ DOk ps ∧ IsDesks ps ds ∧ ∀ H' q, Same H H' → H q = none → H' q = some (.tup (ds.map V.str)) → Q (.ref q) H'
abbrev nDo : List Str := ["dealing", "_", "desk"]
theorem scDo : FnScope nDo ["dealing"] (defScope sDesksOf) := ⟨rfl, rfl, rfl, by decide +kernel, rfl, by decide +kernel, by decide +kernel⟩
theorem ok_desksof {f : Addr} {fd : FuncData} (F : Fun K "desks_of" "desks_of" sDesksOf f fd) (N : Nones mg) : FnOk P w K mg base CX0 1 f fd ["dealing"] (spDesksOf K) := by
  refine F.ok scDo (fun vs H Q E h => ?_) (fun cdv A outer s H vs Q E hr h => ?_)
  · obtain ⟨a, ps, ds, rfl, _⟩ := h
    rfl
  · obtain ⟨a, ps, ds, rfl, hD, ok, isd, q⟩ := h
    refine ⟨_, pss_one (ps_ret (pe_callTy call_tuple_of (by rfl) N.tuple (by decide +kernel) (pa_cons (pe_callB (call_sortedD rfl) (by rfl) N.sorted (by decide +kernel) (pa_cons (pe_dc (own := [("_", 1), ("desk", 2)]) (g := gTup K 2 (gCons (gName 1) (gCons (gName 2) gNil))) (tt := tYes) rfl scDo.nd (pi_tup (pv 0)) (blkOk_by (own := [("_", 1), ("desk", 2)]) (N := nDo) (sc := defScope sDesksOf) (by decide +kernel)) (fun _ _ _ _ _ => (tup_at (K := K) rfl rfl (pgs_cons (pg_name (i := 1) scDo.nd rfl (Or.inl rfl)) (pgs_cons (pg_name (i := 2) scDo.nd rfl (Or.inl rfl)) pgs_nil)))) (fun _ _ _ _ _ => pts_nil) (fun _ _ _ _ _ => (pv 2)) (fun _ _ _ _ _ => pe_bl)) pa_nil)) pa_nil))), ?_⟩
    refine ⟨.ref a, rfl, a, rfl, ⟨_, hD.1⟩, fun D nD => ?_⟩
    refine dcK_it (walk_tup (K := K) (a := a) (xs := ps.map fun p => V.ref p.1)) (fun i G => Same H G ∧ G D = some (.dK (deedKV (uniq ((ps.take i).map (·.2.2)))))) ⟨same_new nD, upd_same⟩ (fun _ _ _ h => Same.sqT h.1 hD.1) (fun i x G G' hi h y => ?_) (fun G h => ?_)
    · obtain ⟨rfl, hx⟩ := y
      obtain ⟨p, hp, rfl⟩ := get_map hx
      obtain ⟨sG, eG⟩ := h
      have sz := ok.sz
      have hi := lt_of_get hp
      refine ⟨p.1, _, rfl, sqT_new (sG _ _ (hD.2 p (List.mem_of_getElem? hp))), rfl, _, _, rfl, _, _, rfl, rfl, rfl, ?_⟩
      refine ⟨_, rfl, _, Sum.inr p.2.2, rfl, eG, ?_, fun b o e => ?_, ?_⟩
      · rw [deedKV_len]
        have := uniq_len ((ps.take i).map (·.2.2))
        rw [List.length_map, List.length_take] at this
        exact small (by omega)
      · rw [upd_ne (ne_of_none e nD)]
        exact sG _ _ e
      · rw [upd_same, put_deed, take_of_get hp, List.map_append, List.map_singleton, uniq_snoc]
    · obtain ⟨sG, eG⟩ := h
      rw [List.length_map, List.take_of_length_le (Nat.le_refl _)] at eG
      have hl := uniq_len (ps.map (·.2.2))
      rw [List.length_map] at hl
      have sz := ok.sz
      refine ⟨D, _, uniq (ps.map (·.2.2)), rfl, .inl eG, deedKV_keys _, by omega, fun ys l hperm hs nl => ?_⟩
      have s2 := same_new (o := .lst (ys.map V.str)) nl
      obtain rfl : ys = ds := sorted_uniq hs isd.2 (hperm.trans isd.1.symm)
      refine ⟨l, _, rfl, .inl ⟨sqL_new upd_same, fun t nt => ?_⟩⟩
      exact q _ t ((sG.trans s2).trans (same_new nt)) ((sG.trans s2).free nt) upd_same
end
end Kb
namespace Kb
open PySem PySem.Spec PyProof.Rows L2
theorem bad_some {ps : List DP} {us : List Str} {i : Nat} {x : Str} (h : us[i]? = some x) (hx : deskOf ps x = none) (hb : ∀ (j : Nat) (y : Str), j < i → us[j]? = some y → (deskOf ps y).isSome = true) : bad ps us = some i := by
  obtain ⟨h1, h2⟩ := List.getElem?_eq_some_iff.mp h
  refine List.findIdx?_eq_some_iff_getElem.mpr ⟨h1, ?_, fun j hj => ?_⟩
  · rw [h2, hx]
    rfl
  · have := hb j (us[j]'(by omega)) hj (List.getElem?_eq_getElem _)
    cases e : deskOf ps (us[j]'(by omega)) with
    | none =>
      rw [e] at this
      cases this
    | some k => simp
theorem bad_no {ps : List DP} {us : List Str} (hb : ∀ (j : Nat) (y : Str), us[j]? = some y → (deskOf ps y).isSome = true) : bad ps us = none := by
  refine List.findIdx?_eq_none_iff.mpr fun x hx => ?_
  obtain ⟨j, hj⟩ := List.getElem?_of_mem hx
  have := hb j x hj
  cases e : deskOf ps x with
  | none =>
    rw [e] at this
    cases this
  | some k => rfl
section
variable {P : Program} {w : World} {K : PySem.W.Frag} {mg : Str → Option Value} {base : Heap}
/-- a row asked for by a dealing: refused at its first stranger -/
def spChDeeds (K : PySem.W.Frag) (C : Addr) : Sp := fun vs H Q E => ∃ (d r : Addr) (ps : List DP) (us : List Str), vs = [.ref d, .ref r] ∧ H d = some (.dK (byKV ps)) ∧ SqT K H r (us.map V.str) ∧ (bad ps us = none → ∀ H', Same H H' → Q .non H') ∧ (∀ i : Nat, bad ps us = some i → AtW C E H (i : Int))
abbrev nCk : List Str := ["desks", "row", "at", "deed"]
theorem scCk : FnScope nCk ["desks", "row"] (defScope sChDeeds) := ⟨rfl, rfl, rfl, by decide +kernel, rfl, by decide +kernel, by decide +kernel⟩
theorem ok_chdeeds {f C fE : Addr} {fd fdE : FuncData} (R : RowC K mg C fE fdE) (F : Fun K "check_deeds" "check_deeds" sChDeeds f fd) (N : Nones mg) : FnOk P w K mg base (L2.CX P w) 3 f fd ["desks", "row"] (spChDeeds K C) := by
  have GE : FnOk P w K mg base CX0 1 fE fdE ["self", "at"] (spAtInit C) := ok_rowinit R
  refine F.okX scCk (fun vs H Q E h => ?_) (fun cdv A outer s H vs Q E hr h => ?_)
  · obtain ⟨d, r, ps, us, rfl, _⟩ := h
    rfl
  · obtain ⟨d, r, ps, us, rfl, hd, hR, q, qE⟩ := h
    refine ⟨_, pss_one (ps_for (passes_of rfl) rfl (Ka.pi_enumT (by rfl) N.enumerate (pa_cons (pv 1) pa_nil)) (pg_tup rfl (pgs_cons (pg_name (i := 2) scCk.nd rfl (Or.inl rfl)) (pgs_cons (pg_name (i := 3) scCk.nd rfl (Or.inl rfl)) pgs_nil)))
        (pss_one (ps_if (pt_cmp (pc_dnotin (hu_of hr) (pv 3) (pv 0))) (pss_one (ps_raise rfl (takes_of rfl rfl rfl rfl) (pmk_oex R.oex R.iC R.tI GE hr R.b .nil pass0 (by rfl) R.gC (pa_cons (pv 2) pa_nil)))) pss_nil))), ?_⟩
    refine ⟨_, rfl, r, _, rfl, hR, ?_⟩
    refine for_it (walk_enumT (K := K) (a := r) (xs := us.map V.str)) (fun i σ G => ∃ x2 x3 : Option V, σ = [some (.ref d), some (.ref r), x2, x3] ∧ Same H G ∧ ∀ (j : Nat) (y : Str), j < i → us[j]? = some y → (deskOf ps y).isSome = true) ⟨none, none, rfl, fun _ _ h => h, fun j y hj => absurd hj (Nat.not_lt_zero _)⟩ (fun i σ G _ h => ?_) (fun i x σ G G' hi h y => ?_) (fun σ G h => ?_)
    · obtain ⟨_, _, _, sG, _⟩ := h
      exact Same.sqT sG hR
    · obtain ⟨T, z, v, rfl, nT, rfl, hz, hv⟩ := y
      obtain ⟨x2, x3, rfl, sG, hall⟩ := h
      cases hz
      obtain ⟨x, hx, rfl⟩ := get_map hv
      have sT := same_new (o := .tup [V.int (i : Nat), V.str x]) nT
      have s2 := sG.trans sT
      refine ⟨T, _, rfl, sqT_new upd_same, rfl, _, _, rfl, _, _, rfl, rfl, ?_⟩
      refine ⟨_, rfl, _, rfl, d, _, rfl, DGet.k (k := Sum.inr x) (s2 _ _ hd), _, rfl, ?_⟩
      rw [valV_by]
      cases e : deskOf ps x with
      | none =>
        refine iteYes rfl ?_
        refine ⟨_, rfl, atW_mk ((qE i (bad_some hx e hall)).mono s2)⟩
      | some k =>
        refine iteNo rfl ?_
        refine ⟨_, _, rfl, s2, fun j y hj hy => ?_⟩
        by_cases h2 : j = i
        · subst h2
          rw [hx] at hy
          cases hy
          rw [e]
          rfl
        · exact hall j y (by omega) hy
    · obtain ⟨_, _, rfl, sG, hall⟩ := h
      refine q (bad_no fun j y hy => hall j y (by rw [List.length_map]; exact lt_of_get hy) hy) G sG
end
end Kb
namespace Kb
open PySem PySem.Spec PyProof.Rows L2
/-! ### within -/
section
variable {α : Type} [DecidableEq α]
def sub : List α → List α → Bool
  | [], _ => true
  | _ :: _, [] => false
  | d :: u, e :: z => if d = e then sub u z else sub (d :: u) z
theorem sub_none {d : α} {u : List α} : ∀ {z : List α}, (∀ k : Nat, z[k]? ≠ some d) → sub (d :: u) z = false
  | [], _ => rfl
  | e :: z, h => by
    have h0 : e ≠ d := fun x => h 0 (by rw [x]; rfl)
    rw [sub, if_neg (fun x => h0 x.symm)]
    exact sub_none fun k => by
      have := h (k + 1)
      simpa using this
theorem sub_hit {d : α} {u : List α} : ∀ {z : List α} {j : Nat}, z[j]? = some d → (∀ k : Nat, k < j → z[k]? ≠ some d) → sub (d :: u) z = sub u (z.drop (j + 1))
  | [], j, h, _ => by simp at h
  | e :: z, 0, h, _ => by
    have e1 : e = d := by simpa using h
    rw [sub, if_pos e1.symm]
    rfl
  | e :: z, j + 1, h, h2 => by
    have h0 : e ≠ d := fun x => h2 0 (Nat.succ_pos _) (by rw [x]; rfl)
    rw [sub, if_neg (fun x => h0 x.symm), List.drop_succ_cons]
    exact sub_hit (by simpa using h) fun k hk => by
      have := h2 (k + 1) (Nat.succ_lt_succ hk)
      simpa using this
theorem first_at (x : α) : ∀ l : List α, (∀ k : Nat, l[k]? ≠ some x) ∨ ∃ m : Nat, l[m]? = some x ∧ ∀ k : Nat, k < m → l[k]? ≠ some x
  | [] => .inl fun k h => by simp at h
  | e :: l => by
    by_cases h : e = x
    · exact .inr ⟨0, by rw [h]; rfl, fun k hk => absurd hk (Nat.not_lt_zero k)⟩
    · have h0 : (e :: l)[0]? ≠ some x := fun z => h (Option.some.inj z)
      rcases first_at x l with hn | ⟨m, h1, h2⟩
      · refine .inl fun k => ?_
        cases k with
        | zero => exact h0
        | succ k => simpa using hn k
      · refine .inr ⟨m + 1, by simpa using h1, fun k hk => ?_⟩
        cases k with
        | zero => exact h0
        | succ k => simpa using h2 k (Nat.lt_of_succ_lt_succ hk)
end
section
variable {P : Program} {w : World} {K : PySem.W.Frag} {mg : Str → Option Value} {base : Heap}
theorem scWithin : FnScope ["u", "v", "rest", "deed"] ["u", "v"] (defScope sWithin) := ⟨rfl, rfl, rfl, by decide +kernel, rfl, by decide +kernel, by decide +kernel⟩
def spWithin (K : PySem.W.Frag) : Sp := fun vs H Q _ => ∃ (a b : Addr) (us zs : List Str), vs = [.ref a, .ref b] ∧ SqT K H a (us.map V.str) ∧ SqT K H b (zs.map V.str) ∧ ∀ H', Same H H' → Q (.bl (sub us zs)) H'
theorem ok_within {f : Addr} {fd : FuncData} (F : Fun K "within" "within" sWithin f fd) (mi : mg "iter" = none) : FnOk P w K mg base CX0 1 f fd ["u", "v"] (spWithin K) := by
  refine F.ok scWithin (fun vs H Q E h => ?_) (fun cdv A outer s H vs Q E hr h => ?_)
  · obtain ⟨a, b, us, zs, rfl, _⟩ := h
    rfl
  · obtain ⟨a, b, us, zs, rfl, hA, hB, q⟩ := h
    refine ⟨_, pss_cons (ps_set (i := 2) scWithin.nd rfl (.inl rfl) (pe_callB Ka.call_iterT (by rfl) mi (by decide +kernel) (pa_cons (pv 1) pa_nil)))
      (pss_cons (ps_for PassesOwn.never rfl (pi_tup (pv 0)) (pg_name (i := 3) scWithin.nd rfl (.inl rfl))
        (pss_one (ps_if (pt_not (pt_cmpR (Ka.op_inTI rfl) (pv 3) (pv 2) rfl)) (pss_one (ps_ret pe_bl)) pss_nil)))
      (pss_one (ps_ret pe_bl))), ?_⟩
    refine ⟨.ref b, rfl, b, zs.map V.str, rfl, hB, fun it nit hle => ?_⟩
    refine ⟨.ref a, rfl, a, rfl, ⟨_, Same.sqT (same_new nit) hA⟩, ?_⟩
    have nab : ∀ c o, H c = some o → c ≠ it := fun c o e => ne_of_none e nit
    refine for_tup (K := K) (a := a) (xs := us.map V.str) (fun i σ H' => ∃ (d : Option V) (j : Nat), σ = [some (.ref a), some (.ref b), some (.ref it), d] ∧ Same H H' ∧ H' it = some (Ka.TupI b it j) ∧ sub us zs = sub (us.drop i) (zs.drop j))
      ⟨none, 0, rfl, same_new nit, upd_same, rfl⟩ (fun i σ H' _ ⟨_, _, _, sm, _⟩ => Same.sqT sm hA) ?_ ?_
    · rintro i x σ H' hx ⟨d, j, rfl, sm, hit, eq⟩
      obtain ⟨z, hz, rfl⟩ := get_map hx
      rw [drop_of_get hz] at eq
      refine ⟨.str z, rfl, .ref it, rfl, z, it, b, zs, j, rfl, rfl, hle, hit, Same.sqT sm hB, ?_⟩
      have ne : ∀ c o, H c = some o → c ≠ it := fun c o e => ne_of_none e nit
      rcases first_at z (zs.drop j) with hn | ⟨m, h1, h2⟩
      · rw [sub_none hn] at eq
        rw [eq] at q
        refine .inr ⟨fun k hk hz' => hn (k - j) (by rw [List.getElem?_drop, Nat.add_sub_cancel' hk]; exact hz'), false, rfl, q _ fun c o e => ?_⟩
        rw [ItX.dropH_ne (ne c o e)]
        exact sm c o e
      · rw [sub_hit h1 h2, List.drop_drop] at eq
        rw [List.getElem?_drop] at h1
        refine .inl ⟨j + m, Nat.le_add_right _ _, h1, fun k hk hk2 hz' => h2 (k - j) (by omega) (by rw [List.getElem?_drop, Nat.add_sub_cancel' hk]; exact hz'), true, rfl, ?_⟩
        refine ⟨_, j + m + 1, rfl, fun c o e => ?_, upd_same, eq⟩
        rw [upd_ne (ne c o e)]
        exact sm c o e
    · rintro σ H' ⟨d, j, rfl, sm, hit, eq⟩
      rw [List.length_map, List.drop_length] at eq
      have e : sub us zs = true := by rw [eq, sub]
      rw [e] at q
      exact q H' sm
end
end Kb
namespace Kb
open PySem PySem.Spec PyProof.Rows L2
/-! ### parts -/
abbrev SA := Str × Addr
def saKV (T : List SA) : List (L2.Key × V) := T.map fun t => (Sum.inr t.1, V.ref t.2)
theorem saKV_keys (T : List SA) : (saKV T).map (·.1) = (T.map (·.1)).map Sum.inr := by
  unfold saKV
  rw [List.map_map, List.map_map]
  rfl
theorem nd_map {α β : Type} {f : α → β} (inj : ∀ a b, f a = f b → a = b) {l : List α} (h : l.Nodup) : (l.map f).Nodup := by
  unfold List.Nodup at h ⊢
  rw [List.pairwise_map]
  exact h.imp fun ne e => ne (inj _ _ e)
theorem saKV_len (T : List SA) : (saKV T).length = T.length := List.length_map _
theorem sa_get {T : List SA} (nd : (T.map (·.1)).Nodup) {t : SA} (h : t ∈ T) : valV (saKV T) (Sum.inr t.1 : L2.Key) = some (.ref t.2) := valV_mem (by
  rw [saKV_keys]
  exact nd_map (fun a b e => Sum.inr.inj e) nd) (List.mem_map.mpr ⟨t, h, rfl⟩)
/-- the lists of the desks, the first i deeds told -/
structure PLs (H G : Hp) (D : Addr) (ps : List DP) (us : List Str) (i : Nat) (T : List SA) : Prop where
  st : ∀ t ∈ T, G t.2 = some (.lst ((partL ps t.1 (us.take i)).map V.str)) ∧ H t.2 = none ∧ t.2 ≠ D
  nd : (T.map (·.2)).Nodup
theorem PLs.mono {H G G' : Hp} {D : Addr} {ps : List DP} {us : List Str} {i : Nat} {T : List SA} (h : PLs H G D ps us i T) (s : ∀ t ∈ T, ∀ o, G t.2 = some o → G' t.2 = some o) : PLs H G' D ps us i T := ⟨fun t ht => ⟨s t ht _ (h.st t ht).1, (h.st t ht).2⟩, h.nd⟩
/-- a part where it stands: the pair, its desk, its row -/
abbrev PT3 := Addr × Str × Addr
def PtAt (H : Hp) (q : Addr) (ps : List DP) (us : List Str) (ds : List Str) : Prop :=
  ∃ L : List PT3, H q = some (.tup (L.map fun t => V.ref t.1)) ∧ L.map (·.2.1) = ds ∧ ∀ t ∈ L, H t.1 = some (.tup [.str t.2.1, .ref t.2.2]) ∧ H t.2.2 = some (.tup ((partL ps t.2.1 us).map V.str))
theorem PtAt.mono {H H' : Hp} {q : Addr} {ps : List DP} {us ds : List Str} (s : Same H H') (h : PtAt H q ps us ds) : PtAt H' q ps us ds := by
  obtain ⟨L, h1, h2, h3⟩ := h
  exact ⟨L, s _ _ h1, h2, fun t ht => ⟨s _ _ (h3 t ht).1, s _ _ (h3 t ht).2⟩⟩
theorem deskOf_mem {ps : List DP} {d k : Str} (h : deskOf ps d = some k) : k ∈ ps.map (·.2.2) := by
  induction ps with
  | nil => cases h
  | cons p ps ih =>
    unfold deskOf at h
    split at h
    · cases h
      exact List.mem_cons_self
    · exact List.mem_cons_of_mem _ (ih h)
theorem isd_mem {ps : List DP} {ds : List Str} (h : IsDesks ps ds) (k : Str) : k ∈ ds ↔ k ∈ ps.map (·.2.2) := h.1.mem_iff.trans (mem_uniq _ _)
theorem isd_nd {ps : List DP} {ds : List Str} (h : IsDesks ps ds) : ds.Nodup := h.1.nodup_iff.mpr (uniq_nd _)
theorem isd_len {ps : List DP} {ds : List Str} (h : IsDesks ps ds) : ds.length ≤ ps.length := by
  have := uniq_len (ps.map (·.2.2))
  rw [List.length_map] at this
  rw [h.1.length_eq]
  exact this
theorem partL_len (ps : List DP) (k : Str) (us : List Str) : (partL ps k us).length ≤ us.length := List.length_filter_le _ _
section
variable {P : Program} {w : World} {K : PySem.W.Frag} {mg : Str → Option Value} {base : Heap}
def spParts (K : PySem.W.Frag) (C : Addr) : Sp := fun vs H Q E => ∃ (a r : Addr) (ps : List DP) (us ds : List Str), vs = [.ref a, .ref r] ∧ DealAt K H a ps ∧ DOk ps ∧ IsDesks ps ds ∧ SqT K H r (us.map V.str) ∧ us.length ≤ 100000 ∧ (bad ps us = none → ∀ H' p, Same H H' → H p = none → PtAt H' p ps us ds → Q (.ref p) H') ∧ (∀ i : Nat, bad ps us = some i → AtW C E H (i : Int))
abbrev nPs : List Str := ["dealing", "row", "desks", "found", "deed", "desk"]
theorem scPs : FnScope nPs ["dealing", "row"] (defScope sParts) := ⟨rfl, rfl, rfl, by decide +kernel, rfl, by decide +kernel, by decide +kernel⟩
theorem ok_parts {f C fB fK fD : Addr} {fd fdB fdK fdD : FuncData} (F : Fun K "parts" "parts" sParts f fd) (N : Nones mg) (G_desks_by_deed : FnOk P w K mg base CX0 1 fB fdB ["dealing"] (spByDeed K)) (C_desks_by_deed : CallC K mg "desks_by_deed" ["dealing"] fB fdB) (G_check_deeds : FnOk P w K mg base (L2.CX P w) 3 fK fdK ["desks", "row"] (spChDeeds K C)) (C_check_deeds : CallC K mg "check_deeds" ["desks", "row"] fK fdK)
    (G_desks_of : FnOk P w K mg base CX0 1 fD fdD ["dealing"] (spDesksOf K)) (C_desks_of : CallC K mg "desks_of" ["dealing"] fD fdD) : FnOk P w K mg base (L2.CX P w) 4 f fd ["dealing", "row"] (spParts K C) := by
  refine F.okX scPs (fun vs H Q E h => ?_) (fun cdv A outer s H vs Q E hr h => ?_)
  · obtain ⟨a, r, ps, us, ds, rfl, _⟩ := h
    rfl
  · obtain ⟨a, r, ps, us, ds, rfl, hD, ok, isd, hR, hz, q, qE⟩ := h
    refine ⟨_, pss_cons (ps_set (i := 2) scPs.nd rfl (Or.inl rfl) (pe_call G_desks_by_deed (hr.mono (by decide)) (by rfl) C_desks_by_deed.g C_desks_by_deed.kp C_desks_by_deed.b .nil pass0 (pa_cons (pv 0) pa_nil)))
      (pss_cons (ps_expr (pe_call G_check_deeds (hr.mono (by decide)) (by rfl) C_check_deeds.g C_check_deeds.kp C_check_deeds.b .nil (passes_call (takes_of rfl rfl rfl rfl) (fun _ _ _ _ h => h)) (pa_cons (pv 2) (pa_cons (pv 1) pa_nil))))
      (pss_cons (ps_set (i := 3) scPs.nd rfl (Or.inr rfl) (pe_dc (own := [("desk", 5)]) (g := gName 5) (tt := tYes) rfl scPs.nd (pi_tup (pe_call G_desks_of (hr.mono (by decide)) (by rfl) C_desks_of.g C_desks_of.kp C_desks_of.b .nil pass0 (pa_cons (pv 0) pa_nil))) (blkOk_by (own := [("desk", 5)]) (N := nPs) (sc := defScope sParts) (by decide +kernel)) (fun _ _ _ _ _ => (pg_name (i := 5) scPs.nd rfl (Or.inl rfl))) (fun _ _ _ _ _ => pts_nil) (fun _ _ _ _ _ => (pv 5)) (fun _ _ _ _ _ => (pe_lst pa_nil))))
      (pss_cons (ps_for (passes_of rfl) rfl (pi_tup (pv 1)) (pg_name (i := 4) scPs.nd rfl (Or.inl rfl))
        (pss_one (ps_expr (pe_bm PySem.F.plainAttrs_list PySem.F.slot_list_append PySem.F.type_list_append mt_append (pe_dget (hu_of hr) (pv 3) (pe_dget (hu_of hr) (pv 2) (pv 4) (fun _ _ => rfl)) (fun _ _ => rfl)) (pa_cons (pv 4) pa_nil)))))
      (pss_one (ps_ret (pe_callTy call_tuple_of (by rfl) N.tuple (by decide +kernel) (pa_cons (pe_lock (pe_lc (own := [("desk", 5)]) (g := gName 5) (tt := tYes) rfl scPs.nd (pi_keys (pv 3)) (blkOk_by (own := [("desk", 5)]) (N := nPs) (sc := defScope sParts) (by decide +kernel)) (fun _ _ _ _ _ => (pg_name (i := 5) scPs.nd rfl (Or.inl rfl))) (fun _ _ _ _ _ => pts_nil) (fun _ _ _ _ _ => (pe_tup (pa_cons (pv 5) (pa_cons (pe_callTy (tupOf_at (K := K) rfl) (by rfl) N.tuple (by decide +kernel) (pa_cons (pe_dget (hu_of hr) (pv 3) (pv 5) (fun _ _ => rfl)) pa_nil)) pa_nil)))))) pa_nil))))))), ?_⟩
    refine ⟨_, rfl, a, ps, rfl, hD, ok, fun H1 D0 s1 nD0 eD0 => ?_⟩
    refine ⟨_, rfl, _, rfl, D0, r, ps, us, rfl, eD0, Same.sqT s1 hR, fun hb H2 s2 => ?_, fun i hi => (qE i hi).mono s1⟩
    have s12 := s1.trans s2
    refine ⟨_, rfl, a, ps, ds, rfl, hD.mono s12, ok, isd, fun H3 qd s3 nqd eqd => ?_⟩
    refine ⟨qd, rfl, ⟨_, sqT_new eqd⟩, fun D nD => ?_⟩
    have s13 := s12.trans s3
    have dn := isd_nd isd
    have dl := isd_len isd
    have sz := ok.sz
    refine dcK_it (walk_tup (K := K) (a := qd) (xs := ds.map V.str)) (fun i G => ∃ T : List SA, Same H3 G ∧ G D = some (.dK (saKV T)) ∧ T.map (·.1) = ds.take i ∧ PLs H3 G D ps us 0 T) ⟨[], same_new nD, upd_same, rfl, ⟨(fun t ht => nomatch ht), List.nodup_nil⟩⟩ (fun _ _ _ h => Same.sqT h.choose_spec.1 (sqT_new eqd)) (fun i x G G' hi h y => ?_) (fun G h => ?_)
    · obtain ⟨rfl, hy⟩ := y
      obtain ⟨k, hk, rfl⟩ := get_map hy
      obtain ⟨T, sG, eG, kT, lT⟩ := h
      refine ⟨rfl, _, rfl, Nat.zero_le _, fun l nl => ?_⟩
      have sl := same_new (o := .lst []) nl
      have el : upd G' l (.lst []) l = some (.lst []) := upd_same
      have nT : ∀ t ∈ T, t.2 ≠ l := fun t ht => ne_of_none (lT.st t ht).1 nl
      have lD : l ≠ D := fun z => by rw [z, eG] at nl; cases nl
      have nlH := sG.free nl
      have lenT : T.length ≤ 12 := by
        have := congrArg List.length kT
        rw [List.length_map, List.length_take] at this
        omega
      refine ⟨saKV T, Sum.inr k, rfl, sl _ _ eG, by rw [saKV_len]; exact small (by omega), T ++ [(k, l)], fun b o e => ?_, ?_, ?_, ⟨fun t ht => ?_, ?_⟩⟩
      · rw [upd_ne (ne_of_none e nD)]
        exact sl _ _ (sG _ _ e)
      · rw [upd_same, putK_new]
        · unfold saKV
          rw [List.map_append]
          rfl
        · rw [saKV_keys, kT]
          intro z
          obtain ⟨y, hy, e⟩ := List.mem_map.mp z
          rw [Sum.inr.inj e] at hy
          rw [← List.take_append_drop i ds, drop_of_get hk, List.nodup_append] at dn
          exact dn.2.2 _ hy _ List.mem_cons_self rfl
      · rw [List.map_append, kT, take_of_get hk]
        rfl
      · rcases List.mem_append.mp ht with z | z
        · obtain ⟨a1, a2, a3⟩ := lT.st t z
          exact ⟨by rw [upd_ne a3]; exact sl _ _ a1, a2, a3⟩
        · rw [List.mem_singleton.mp z]
          exact ⟨by rw [upd_ne lD]; exact el, nlH, lD⟩
      · rw [List.map_append, List.nodup_append]
        refine ⟨lT.nd, by simp, fun b hb c hc e => ?_⟩
        obtain ⟨t, ht, rfl⟩ := List.mem_map.mp hb
        rw [List.map_singleton, List.mem_singleton] at hc
        exact nT t ht (e.trans hc)
    · obtain ⟨T, sG, eG, kT, lT⟩ := h
      rw [List.length_map, List.take_of_length_le (Nat.le_refl _)] at kT
      have kn : (T.map (·.1)).Nodup := by rw [kT]; exact dn
      have lenT : T.length ≤ 12 := by
        have := congrArg List.length kT
        rw [List.length_map] at this
        omega
      have nDH : H3 D = none := nD
      refine ⟨_, rfl, r, rfl, ⟨_, Same.sqT (s13.trans sG) hR⟩, ?_⟩
      refine for_it (walk_tup (K := K) (a := r) (xs := us.map V.str)) (fun i σ Z => ∃ (x4 x5 : Option V), σ = [some (.ref a), some (.ref r), some (.ref D0), some (.ref D), x4, x5] ∧ Same H3 Z ∧ Z D = some (.dK (saKV T)) ∧ PLs H3 Z D ps us i T) ⟨none, none, rfl, sG, eG, lT⟩ (fun i σ Z _ h => ?_) (fun i x σ Z Z' hi h y => ?_) (fun σ Z h => ?_)
      · obtain ⟨_, _, _, sZ, _⟩ := h
        exact Same.sqT (s13.trans sZ) hR
      · obtain ⟨rfl, hy⟩ := y
        obtain ⟨x, hx, rfl⟩ := get_map hy
        obtain ⟨x4, x5, rfl, sZ, eZ, lT⟩ := h
        obtain ⟨k, hk⟩ := bad_none hb (List.mem_of_getElem? hx)
        have hkd : k ∈ T.map (·.1) := by rw [kT]; exact (isd_mem isd k).mpr (deskOf_mem hk)
        obtain ⟨t, ht, et⟩ := List.mem_map.mp hkd
        obtain ⟨a1, a2, a3⟩ := lT.st t ht
        have g1 : DGet Z' D0 (.str x) (some (.str k)) := by
          have := DGet.k (k := Sum.inr x) (sZ _ _ (s3 _ _ (s2 _ _ eD0)))
          rw [valV_by, hk] at this
          exact this
        have g2 : DGet Z' D (.str k) (some (.ref t.2)) := by
          have := DGet.k (k := Sum.inr t.1) eZ
          rw [sa_get kn ht, et] at this
          exact this
        have lp := partL_len ps t.1 (us.take i)
        rw [List.length_take] at lp
        refine ⟨_, rfl, _, rfl, _, rfl, D0, _, rfl, g1, D, _, rfl, g2, .inl ⟨rfl, _, sqL_new a1⟩, _, rfl, t.2, _, _, rfl, rfl, a1, by rw [List.length_map]; exact small (by omega), ?_⟩
        refine ⟨_, _, rfl, fun b o e => ?_, ?_, ⟨fun u hu => ?_, lT.nd⟩⟩
        · rw [upd_ne (ne_of_none e a2)]
          exact sZ _ _ e
        · rw [upd_ne a3.symm]
          exact eZ
        · obtain ⟨b1, b2, b3⟩ := lT.st u hu
          by_cases e : u.1 = t.1
          · have : u = t := inj_of_nd kn hu ht e
            subst this
            refine ⟨?_, b2, b3⟩
            rw [upd_same, partL_snoc hx, hk, et, if_pos rfl, List.map_append]
            rfl
          · have ne : u.2 ≠ t.2 := fun z => e (by rw [inj_of_nd (f := fun t : SA => t.2) lT.nd hu ht z])
            refine ⟨?_, b2, b3⟩
            rw [upd_ne ne, partL_snoc hx, hk, if_neg (fun z => e (by rw [et]; exact (Option.some.inj z).symm)), List.append_nil]
            exact b1
      · obtain ⟨x4, x5, rfl, sZ, eZ, lT⟩ := h
        rw [List.length_map] at lT
        have nDZ : ∀ t ∈ T, t.2 ≠ D := fun t ht => (lT.st t ht).2.2
        refine ⟨D, _, eZ, True.intro, fun od => ?_⟩
        generalize hL : upd Z D (.frz od (.dK (saKV T))) = L
        have fL : L D = some (.frz od (.dK (saKV T))) := by rw [← hL]; exact upd_same
        have kL : But D Z L := by rw [← hL]; exact But.upd
        have lT := lT.mono fun t ht o e => kL _ _ (nDZ t ht) e
        have sL : Same H3 L := fun b o e => kL _ _ (ne_of_none e nDH) (sZ _ _ e)
        refine ⟨_, rfl, D, od, rfl, .inl ⟨saKV T, fL, fun W nW => ?_⟩⟩
        refine lc_it (walk_keys (d := D) (o := od) (kvs := saKV T)) (fun i G => ∃ L3 : List PT3, Same L G ∧ G W = some (.lst (L3.map fun t => V.ref t.1)) ∧ L3.map (·.2.1) = ds.take i ∧ ∀ t ∈ L3, G t.1 = some (.tup [.str t.2.1, .ref t.2.2]) ∧ G t.2.2 = some (.tup ((partL ps t.2.1 us).map V.str)) ∧ H t.1 = none ∧ H t.2.2 = none) ⟨[], same_new nW, upd_same, rfl, fun t ht => nomatch ht⟩ (fun _ _ _ h => h.choose_spec.1 _ _ fL) (fun i x G G' hi h y => ?_) (fun G h => ?_)
        · obtain ⟨rfl, ky, va, hkv, rfl⟩ := y
          obtain ⟨L3, sG, eG, k3, t3⟩ := h
          obtain ⟨t, ht, e⟩ := get_map hkv
          cases e
          have mt := List.mem_of_getElem? ht
          have hlt := lt_of_get ht
          obtain ⟨a1, a2, a3⟩ := lT.st t mt
          have g2 : DGet G' D (.str t.1) (some (.ref t.2)) := .inl ⟨saKV T, Sum.inr t.1, .inr ⟨od, sG _ _ fL⟩, rfl, (sa_get kn mt).symm⟩
          rw [show us.take us.length = us from List.take_length] at a1
          have hk : ds[i]? = some t.1 := by
            rw [← kT, List.getElem?_map, ht]
            rfl
          have len3 : L3.length ≤ 12 := by
            have := congrArg List.length k3
            rw [List.length_map, List.length_take] at this
            omega
          refine ⟨rfl, .str t.1, rfl, _, rfl, .str t.1, rfl, D, _, rfl, g2, t.2, _, rfl, .inl ⟨sqL_new (sG _ _ a1), fun l nl => ⟨smallE (by show 2 ≤ 1000000; decide), fun p np => ?_⟩⟩⟩
          have sl := same_new (o := .tup ((partL ps t.1 us).map V.str)) nl
          have el : upd G' l (.tup ((partL ps t.1 us).map V.str)) l = some (.tup ((partL ps t.1 us).map V.str)) := upd_same
          have sH : Same H G' := fun b o e => sG _ _ (sL _ _ (s13 _ _ e))
          have nlH := sH.free nl
          generalize upd G' l (.tup ((partL ps t.1 us).map V.str)) = G1 at sl el np
          have sp := same_new (o := .tup [V.str t.1, V.ref l]) np
          have ep : upd G1 p (.tup [V.str t.1, V.ref l]) p = some (.tup [V.str t.1, V.ref l]) := upd_same
          have npH := (sH.trans sl).free np
          have el := sp _ _ el
          have s2' := sl.trans sp
          generalize upd G1 p (.tup [V.str t.1, V.ref l]) = G2 at sp ep el s2'
          have nWt : ∀ {c : Addr} {xs : List V}, G2 c = some (.tup xs) → c ≠ W := fun e z => by
            rw [z, s2' _ _ eG] at e
            cases e
          refine ⟨_, s2' _ _ eG, by rw [List.length_map]; exact small (by omega), L3 ++ [(p, t.1, l)], fun b o e => ?_, ?_, ?_, fun u hu => ?_⟩
          · rw [upd_ne (ne_of_none e nW)]
            exact s2' _ _ (sG _ _ e)
          · rw [upd_same, List.map_append]
            rfl
          · rw [List.map_append, k3, take_of_get hk]
            rfl
          · rcases List.mem_append.mp hu with z | z
            · obtain ⟨b1, b2, b3, b4⟩ := t3 u z
              have c1 := s2' _ _ b1
              have c2 := s2' _ _ b2
              exact ⟨by rw [upd_ne (nWt c1)]; exact c1, by rw [upd_ne (nWt c2)]; exact c2, b3, b4⟩
            · rw [List.mem_singleton.mp z]
              exact ⟨by rw [upd_ne (nWt ep)]; exact ep, by rw [upd_ne (nWt el)]; exact el, npH, nlH⟩
        · obtain ⟨L3, sG, eG, k3, t3⟩ := h
          have nDH0 : H D = none := s13.free nDH
          have dlen : (saKV T).length = ds.length := by
            have := congrArg List.length kT
            rw [List.length_map] at this
            rw [saKV_len]
            exact this
          rw [List.take_of_length_le (by rw [dlen]; exact Nat.le_refl _)] at k3
          have fG := sG _ _ fL
          refine ⟨fG, W, _, rfl, .inl ⟨sqL_new (by rw [upd_ne (fun z => by rw [z, fG] at eG; cases eG)]; exact eG), fun p np => ?_⟩⟩
          have keep : ∀ b o, H b = some o → upd G D (.dK (saKV T)) b = some o := fun b o e => by
            rw [upd_ne (ne_of_none e nDH0)]
            exact sG _ _ (sL _ _ (s13 _ _ e))
          have keep : Same H (upd G D (.dK (saKV T))) := keep
          have nDt : ∀ {c : Addr} {xs : List V}, G c = some (.tup xs) → c ≠ D := fun e z => by
            rw [z, fG] at e
            cases e
          have sp := same_new (o := .tup (L3.map fun t => V.ref t.1)) np
          refine q hb _ p (keep.trans sp) (keep.free np) ⟨L3, upd_same, k3, fun t ht => ?_⟩
          obtain ⟨b1, b2, b3, b4⟩ := t3 t ht
          exact ⟨sp _ _ (by rw [upd_ne (nDt b1)]; exact b1), sp _ _ (by rw [upd_ne (nDt b2)]; exact b2)⟩
end
end Kb
namespace Kb
open PySem PySem.Spec PyProof.Rows L2
/-! ### within_by, same_by, view_at -/
def ptD (ps : List DP) (us ds : List Str) : PyData := .tuple (ds.map fun k => .tuple [.str k, Ka.rowD (partL ps k us)])
theorem eq_ptD (ps : List DP) (us vs : List Str) : ∀ ds : List Str, PyData.eqvAll (ds.map fun k => .tuple [.str k, Ka.rowD (partL ps k us)]) (ds.map fun k => .tuple [.str k, Ka.rowD (partL ps k vs)]) = ds.all fun k => decide (partL ps k us = partL ps k vs)
  | [] => by simp [PyData.eqvAll]
  | k :: ds => by
    rw [List.map_cons, List.map_cons, PyData.eqvAll, eq_ptD ps us vs ds, List.all_cons]
    have : PyData.eqv (.tuple [.str k, Ka.rowD (partL ps k us)]) (.tuple [.str k, Ka.rowD (partL ps k vs)]) = decide (partL ps k us = partL ps k vs) := by
      rw [PyData.eqv, PyData.eqvAll, PyData.eqvAll, PyData.eqvAll, eq_str, eqR]
      simp
    rw [this]
theorem depPt (ps : List DP) (us : List Str) : ∀ ds : List Str, PyData.depthAll (ds.map fun k => PyData.tuple [.str k, Ka.rowD (partL ps k us)]) ≤ 4 := dep_le fun k => by
  have := depR (partL ps k us)
  simp only [PyData.depth, PyData.depthAll]
  omega
theorem shPt {ps : List DP} {us ds : List Str} (hn : ∀ z ∈ us, isName z = true) (hd : ∀ z ∈ ds, isName z = true) : SeqAt.shaped (ptD ps us ds) = true := by
  refine shaped_of ?_ ?_
  · unfold ptD
    rw [PyData.canLay0]
    refine lay_all ds fun k hk => ?_
    have hl := layR (r := partL ps k us) fun z hz => hn z (List.mem_filter.mp hz).1
    rw [PyData.canLay0, PyData.canLayAll0, PyData.canLayAll0, PyData.canLayAll0, PyData.canLay0, name_ok (hd k hk), hl]
    rfl
  · have := depPt ps us ds
    unfold ptD
    simp only [PyData.depth]
    omega
theorem PtAt.dp {K : PySem.W.Frag} {H : Hp} {q : Addr} {ps : List DP} {us ds : List Str} (h : PtAt H q ps us ds) : Dp K H (.ref q) (ptD ps us ds) := by
  obtain ⟨L, h1, h2, h3⟩ := h
  refine .tup (sqT_new h1) ?_
  subst h2
  clear h1
  induction L with
  | nil => exact .nil
  | cons t L ih =>
    obtain ⟨a1, a2⟩ := h3 t List.mem_cons_self
    exact .cons (.tup (sqT_new a1) (.cons (.str _) (.cons (dpR a2) .nil))) (ih fun u hu => h3 u (List.mem_cons_of_mem _ hu))
section
variable {P : Program} {w : World} {K : PySem.W.Frag} {mg : Str → Option Value} {base : Heap}
def spBy (K : PySem.W.Frag) (C : Addr) (b : List DP → List Str → List Str → List Str → Bool) : Sp := fun vs H Q E => ∃ (a r t : Addr) (ps : List DP) (us zs ds : List Str), vs = [.ref a, .ref r, .ref t] ∧ DealAt K H a ps ∧ DOk ps ∧ IsDesks ps ds ∧ (∀ z ∈ ds, isName z = true) ∧ SqT K H r (us.map V.str) ∧ us.length ≤ 100000 ∧ (∀ z ∈ us, isName z = true) ∧ SqT K H t (zs.map V.str) ∧ zs.length ≤ 100000 ∧ (∀ z ∈ zs, isName z = true) ∧
  (bad ps us = none → bad ps zs = none → ∀ H', Same H H' → Q (.bl (b ps us zs ds)) H') ∧ (∀ i : Nat, bad ps us = some i → AtW C E H (i : Int)) ∧ (∀ i : Nat, bad ps us = none → bad ps zs = some i → AtW C E H (i : Int))
def withinB (ps : List DP) (us zs ds : List Str) : Bool := ds.all fun k => sub (partL ps k us) (partL ps k zs)
def sameB (ps : List DP) (us zs ds : List Str) : Bool := ds.all fun k => decide (partL ps k us = partL ps k zs)
abbrev nWb : List Str := ["dealing", "u", "v", "pairs", "others", "at"]
theorem scWb : FnScope nWb ["dealing", "u", "v"] (defScope sWithinBy) := ⟨rfl, rfl, rfl, by decide +kernel, rfl, by decide +kernel, by decide +kernel⟩
theorem ok_withinby {f C fP fW : Addr} {fd fdP fdW : FuncData} (F : Fun K "within_by" "within_by" sWithinBy f fd) (N : Nones mg) (G_parts : FnOk P w K mg base (L2.CX P w) 4 fP fdP ["dealing", "row"] (spParts K C)) (C_parts : CallC K mg "parts" ["dealing", "row"] fP fdP) (G_within : FnOk P w K mg base CX0 1 fW fdW ["u", "v"] (spWithin K)) (C_within : CallC K mg "within" ["u", "v"] fW fdW) : FnOk P w K mg base (L2.CX P w) 5 f fd ["dealing", "u", "v"] (spBy K C withinB) := by
  refine F.okX scWb (fun vs H Q E h => ?_) (fun cdv A outer s H vs Q E hr h => ?_)
  · obtain ⟨a, r, t, ps, us, zs, ds, rfl, _⟩ := h
    rfl
  · obtain ⟨a, r, t, ps, us, zs, ds, rfl, hD, ok, isd, nds, hR, hz, nus, hT, hz2, nzs, q, q1, q2⟩ := h
    refine ⟨_, pss_cons (ps_set (i := 3) scWb.nd rfl (Or.inr rfl) (pe_call G_parts (hr.mono (by decide)) (by rfl) C_parts.g C_parts.kp C_parts.b .nil (passes_call (takes_of rfl rfl rfl rfl) (fun _ _ _ _ h => h)) (pa_cons (pv 0) (pa_cons (pv 1) pa_nil))))
      (pss_cons (ps_set (i := 4) scWb.nd rfl (Or.inr rfl) (pe_call G_parts (hr.mono (by decide)) (by rfl) C_parts.g C_parts.kp C_parts.b .nil (passes_call (takes_of rfl rfl rfl rfl) (fun _ _ _ _ h => h)) (pa_cons (pv 0) (pa_cons (pv 2) pa_nil))))
      (pss_one (ps_ret (pe_callB (cr_all rfl) (by rfl) N.all (by decide +kernel) (pa_cons (pe_lc (own := [("at", 5)]) (g := gName 5) (tt := tYes) rfl scWb.nd (pi_range1 (by rfl) N.range (pa_cons (pe_callB call_len_seq (by rfl) N.len PySem.boot_len (pa_cons (pv 3) pa_nil)) pa_nil)) (blkOk_by (own := [("at", 5)]) (N := nWb) (sc := defScope sWithinBy) (by decide +kernel)) (fun _ _ _ _ _ => (pg_name (i := 5) scWb.nd rfl (Or.inl rfl))) (fun _ _ _ _ _ => pts_nil) (fun _ _ _ _ _ => (pe_call G_within (hr.mono (by decide)) (by rfl) C_within.g C_within.kp C_within.b .nil pass0 (pa_cons (pe_ix (ixT_at (K := K) rfl) (pe_ix (ixT_at (K := K) rfl) (pv 3) (pv 5) (fun _ _ => rfl)) pe_int (fun _ _ => rfl)) (pa_cons (pe_ix (ixT_at (K := K) rfl) (pe_ix (ixT_at (K := K) rfl) (pv 4) (pv 5) (fun _ _ => rfl)) pe_int (fun _ _ => rfl)) pa_nil))))) pa_nil))))), ?_⟩
    refine ⟨_, rfl, _, rfl, a, r, ps, us, ds, rfl, hD, ok, isd, hR, hz, fun hb H1 p s1 np hp => ?_, q1⟩
    refine ⟨_, rfl, _, rfl, a, t, ps, zs, ds, rfl, hD.mono s1, ok, isd, Same.sqT s1 hT, hz2, fun hb2 H2 p2 s2 np2 hp2 => ?_, fun i hi => (q2 i hb hi).mono s1⟩
    have hp := hp.mono s2
    obtain ⟨L, l1, l2, l3⟩ := id hp
    obtain ⟨M, m1, m2, m3⟩ := id hp2
    have ll : L.length = ds.length := by rw [← l2, List.length_map]
    have ml : M.length = ds.length := by rw [← m2, List.length_map]
    have dl := isd_len isd
    have sz := ok.sz
    refine ⟨_, rfl, p, _, rfl, .inr (sqT_new l1), (ds.length : Nat), by rw [List.length_map, ll], by omega, by omega, fun D nD => ?_⟩
    rw [show ((ds.length : Nat) : Int).toNat = ds.length from rfl]
    refine lc_pure (walk_r0 (n := ds.length)) ((ds.map fun k => sub (partL ps k us) (partL ps k zs)).map V.bl) (by rw [List.length_map, List.length_map]) nD (fun _ _ => True.intro) (fun i x H0 H' hi h0 y => ?_) (fun H' s' e => ?_)
    · obtain ⟨rfl, rfl⟩ := y
      have g1 : L[i]? = some (L[i]'(by omega)) := List.getElem?_eq_getElem _
      have g2 : M[i]? = some (M[i]'(by omega)) := List.getElem?_eq_getElem _
      generalize L[i]'(by omega) = u at g1
      generalize M[i]'(by omega) = v at g2
      obtain ⟨u1, u2⟩ := l3 u (List.mem_of_getElem? g1)
      obtain ⟨v1, v2⟩ := m3 v (List.mem_of_getElem? g2)
      have k1 : ds[i]? = some u.2.1 := by rw [← l2, List.getElem?_map, g1]; rfl
      have k2 : ds[i]? = some v.2.1 := by rw [← m2, List.getElem?_map, g2]; rfl
      have ek : v.2.1 = u.2.1 := Option.some.inj (k2.symm.trans k1)
      have gL : (L.map fun t => V.ref t.1)[i]? = some (.ref u.1) := by rw [List.getElem?_map, g1]; rfl
      have gM : (M.map fun t => V.ref t.1)[i]? = some (.ref v.1) := by rw [List.getElem?_map, g2]; rfl
      refine ⟨rfl, _, rfl, .int (i : Nat), rfl, p, _, _, _, rfl, rfl, sqT_new (h0.1 _ _ l1), atI_nat gL, u.1, _, _, .ref u.2.2, rfl, rfl, sqT_new (h0.1 _ _ u1), rfl, _, rfl, .int (i : Nat), rfl, p2, _, _, _, rfl, rfl, sqT_new (h0.1 _ _ m1), atI_nat gM, v.1, _, _, .ref v.2.2, rfl, rfl, sqT_new (h0.1 _ _ v1), rfl, ?_⟩
      refine ⟨u.2.2, v.2.2, _, _, rfl, sqT_new (h0.1 _ _ u2), sqT_new (h0.1 _ _ v2), fun H3 s3 => ?_⟩
      refine h0.put nD s3 ?_ (by rw [List.length_map, List.length_map]; omega)
      rw [List.getElem?_map, List.getElem?_map, k1, ek]
      rfl
    · refine ⟨D, _, rfl, sqL_new e, ?_⟩
      rw [List.all_map]
      exact q hb hb2 _ ((s1.trans s2).trans s')
end
end Kb
namespace Kb
open PySem PySem.Spec PyProof.Rows L2
/-! ### the law's own: in, part, by, book, row -/
section
variable {P : Program} {w : World} {K : PySem.W.Frag} {mg : Str → Option Value} {base : Heap}
def spLawIn (K : PySem.W.Frag) : Sp := fun vs H Q _ => ∃ (a b : Addr) (us zs : List Str), vs = [.ref a, .ref b] ∧ SqT K H a (us.map V.str) ∧ SqT K H b (zs.map V.str) ∧ us.length ≤ 100000 ∧ Q (.bl (sub us zs)) H
theorem sub_nil {us : List Str} : sub us [] = decide (us = []) := by
  cases us <;> rfl
abbrev nLi : List Str := ["u", "v", "at", "deed"]
theorem scLi : FnScope nLi ["u", "v"] (defScope sLawIn) := ⟨rfl, rfl, rfl, by decide +kernel, rfl, by decide +kernel, by decide +kernel⟩
theorem ok_lawin {f : Addr} {fd : FuncData} (F : Fun K "_law_in" "_law_in" sLawIn f fd) (N : Nones mg) : FnOk P w K mg base CX0 1 f fd ["u", "v"] (spLawIn K) := by
  refine F.ok scLi (fun vs H Q E h => ?_) (fun cdv A outer s H vs Q E hr h => ?_)
  · obtain ⟨a, b, us, zs, rfl, _⟩ := h
    rfl
  · obtain ⟨a, b, us, zs, rfl, hA, hB, hz, q⟩ := h
    refine ⟨_, pss_cons (ps_set (i := 2) scLi.nd rfl (Or.inl rfl) pe_int)
      (pss_cons (ps_for PassesOwn.never rfl (pi_tup (pv 1)) (pg_name (i := 3) scLi.nd rfl (Or.inl rfl))
        (pss_one (ps_if (PW.pt (pw_and (pt_cmpR op_lt (pv 2) (pe_callB call_len_seq (by rfl) N.len PySem.boot_len (pa_cons (pv 0) pa_nil)) (nomark _)) (pw_and1 (pt_cmpR op_eq (pe_ix ix_tup (pv 0) (pv 2) (fun _ _ => rfl)) (pv 3) (nomark _))))) (pss_one (ps_set (i := 2) scLi.nd rfl (Or.inl rfl) (pe_op op_add (pv 2) pe_int))) pss_nil)))
      (pss_one (ps_ret (pe_cmpR op_eq (pv 2) (pe_callB call_len_seq (by rfl) N.len PySem.boot_len (pa_cons (pv 0) pa_nil)) (nomark _))))), ?_⟩
    refine ⟨_, rfl, b, rfl, ⟨_, hB⟩, ?_⟩
    refine for_it (walk_tup (K := K) (a := b) (xs := zs.map V.str)) (fun i σ G => ∃ (n : Nat) (x3 : Option V), σ = [some (.ref a), some (.ref b), some (.int (n : Nat)), x3] ∧ G = H ∧ n ≤ us.length ∧ sub us zs = sub (us.drop n) (zs.drop i)) ⟨0, none, rfl, rfl, Nat.zero_le _, rfl⟩ (fun i σ G _ h => ?_) (fun i y σ G G' hi h yy => ?_) (fun σ G h => ?_)
    · obtain ⟨_, _, _, rfl, _⟩ := h
      exact hB
    · obtain ⟨rfl, hy⟩ := yy
      obtain ⟨z, hz2, rfl⟩ := get_map hy
      obtain ⟨n, x3, rfl, rfl, hn, hs⟩ := h
      refine ⟨_, rfl, _, rfl, a, _, rfl, .inr hA, _, _, rfl, rfl, _, rfl, ite2 (fun c => ?_) (fun c => ?_)⟩
      · have c : n < us.length := by
          have := of_decide_eq_true c
          rw [List.length_map] at this
          omega
        have hg : us[n]? = some (us[n]'c) := List.getElem?_eq_getElem c
        generalize us[n]'c = x at hg
        have hgm : (us.map V.str)[n]? = some (.str x) := by rw [List.getElem?_map, hg]; rfl
        rw [drop_of_get hg, drop_of_get hz2] at hs
        refine ⟨_, rfl, .int (n : Nat), rfl, a, _, _, _, rfl, rfl, hA, atI_nat hgm, _, rfl, rfl, _, rfl, ite2 (fun c2 => ?_) (fun c2 => ?_)⟩
        · have c2 : x = z := by
            have := of_decide_eq_true c2
            injection this
          rw [sub, if_pos c2] at hs
          refine ⟨_, rfl, _, _, rfl, rfl, n + 1, _, rfl, rfl, c, hs⟩
        · have c2 : ¬ x = z := fun e => c2 (decide_eq_true (by rw [e]))
          rw [sub, if_neg c2] at hs
          exact ⟨n, _, rfl, rfl, hn, by rw [drop_of_get hg]; exact hs⟩
      · have c : n = us.length := by
          have := of_decide_eq_false (Bool.eq_false_iff.mpr c)
          rw [List.length_map] at this
          omega
        refine iteF ?_
        refine ⟨n, _, rfl, rfl, hn, ?_⟩
        rw [hs, c, List.drop_length]
        simp [sub]
    · obtain ⟨n, x3, rfl, rfl, hn, hs⟩ := h
      rw [List.length_map, List.drop_length, sub_nil] at hs
      refine ⟨_, rfl, _, rfl, a, _, rfl, .inr hA, rfl, ?_⟩
      have e : decide (V.int (n : Nat) = V.int (((us.map V.str).length : Nat) : Int)) = sub us zs := by
        rw [hs, List.length_map]
        by_cases h : n = us.length
        · rw [decide_eq_true (by rw [h]), decide_eq_true (by rw [h, List.drop_length])]
        · rw [decide_eq_false (fun e => by injection e with e; omega), decide_eq_false (fun e => by
            have := congrArg List.length e
            rw [List.length_drop] at this
            simp at this
            omega)]
      dsimp only
      rw [e]
      exact q
def spLawPart (K : PySem.W.Frag) : Sp := fun vs H Q _ => ∃ (d r : Addr) (k : Str) (ps : List DP) (us : List Str), vs = [.ref d, .str k, .ref r] ∧ Rd H d (.dK (byKV ps)) ∧ SqT K H r (us.map V.str) ∧ us.length ≤ 100000 ∧ bad ps us = none ∧ ∀ H' p, Same H H' → H p = none → H' p = some (.tup ((partL ps k us).map V.str)) → Q (.ref p) H'
abbrev nLp : List Str := ["deal", "desk", "row", "deed"]
theorem scLp : FnScope nLp ["deal", "desk", "row"] (defScope sLawPart) := ⟨rfl, rfl, rfl, by decide +kernel, rfl, by decide +kernel, by decide +kernel⟩
theorem ok_lawpart {f : Addr} {fd : FuncData} (F : Fun K "_law_part" "_law_part" sLawPart f fd) (N : Nones mg) : FnOk P w K mg base CX0 1 f fd ["deal", "desk", "row"] (spLawPart K) := by
  refine F.ok scLp (fun vs H Q E h => ?_) (fun cdv A outer s H vs Q E hr h => ?_)
  · obtain ⟨d, r, k, ps, us, rfl, _⟩ := h
    rfl
  · obtain ⟨d, r, k, ps, us, rfl, hD, hR, hz, hb, q⟩ := h
    refine ⟨_, pss_one (ps_ret (pe_callTy call_tuple_of (by rfl) N.tuple (by decide +kernel) (pa_cons (pe_lc (own := [("deed", 3)]) (g := gName 3) rfl scLp.nd (pi_tup (pv 2)) (blkOk_by (own := [("deed", 3)]) (N := nLp) (sc := defScope sLawPart) (by decide +kernel)) (fun _ _ _ _ _ => (pg_name (i := 3) scLp.nd rfl (Or.inl rfl))) (fun _ _ _ _ _ => pts_one (pt_cmpR op_eq (pe_dget (hu_of hr) (pv 0) (pv 3) (fun _ _ => rfl)) (pv 1) (nomark _))) (fun _ _ _ _ _ => (pv 3))) pa_nil))), ?_⟩
    refine ⟨_, rfl, r, rfl, ⟨_, hR⟩, fun L nL => ?_⟩
    refine lc_it (walk_tup (K := K) (a := r) (xs := us.map V.str)) (fun i G => Same H G ∧ G L = some (.lst ((partL ps k (us.take i)).map V.str))) ⟨same_new nL, upd_same⟩ (fun _ _ _ h => Same.sqT h.1 hR) (fun i x G G' hi h y => ?_) (fun G h => ?_)
    · obtain ⟨rfl, hy⟩ := y
      obtain ⟨x, hx, rfl⟩ := get_map hy
      obtain ⟨sG, eG⟩ := h
      obtain ⟨k2, hk⟩ := bad_none hb (List.mem_of_getElem? hx)
      have hg : DGet G' d (.str x) (some (.str k2)) := .inl ⟨byKV ps, Sum.inr x, Rd.mono hD sG, rfl, by rw [valV_by, hk]; rfl⟩
      refine ⟨rfl, _, rfl, _, rfl, d, .str k2, rfl, hg, _, rfl, rfl, _, rfl, ite2 (fun c => ?_) (fun c => ?_)⟩
      · have c : k2 = k := by
          have := of_decide_eq_true c
          injection this
        refine ⟨_, rfl, _, eG, ?_, fun b o e => ?_, ?_⟩
        · have := partL_len ps k (us.take i)
          rw [List.length_take] at this
          rw [List.length_map]
          exact small (by omega)
        · rw [upd_ne (ne_of_none e nL)]
          exact sG _ _ e
        · rw [upd_same, partL_snoc hx, hk, c, if_pos rfl, List.map_append]
          rfl
      · have c : ¬ k2 = k := fun e => c (decide_eq_true (by rw [e]))
        refine ⟨sG, ?_⟩
        rw [eG, partL_snoc hx, hk, if_neg (fun e => c (Option.some.inj e)), List.append_nil]
    · obtain ⟨sG, eG⟩ := h
      rw [List.length_map, List.take_of_length_le (Nat.le_refl _)] at eG
      refine ⟨L, _, rfl, .inl ⟨sqL_new eG, fun t nt => ?_⟩⟩
      exact q _ t (sG.trans (same_new nt)) (sG.free nt) upd_same
end
end Kb
namespace Kb
open PySem PySem.Spec PyProof.Rows L2
/-! ### the law's own: by, book, row -/
theorem by_eq {ps : List DP} {us zs ds : List Str} (isd : IsDesks ps ds) : (ps.all fun p => sub (partL ps p.2.2 us) (partL ps p.2.2 zs)) = withinB ps us zs ds := by
  unfold withinB
  rw [Bool.eq_iff_iff, List.all_eq_true, List.all_eq_true]
  refine ⟨fun h k hk => ?_, fun h p hp => h _ ((isd_mem isd _).mpr (List.mem_map.mpr ⟨p, hp, rfl⟩))⟩
  obtain ⟨p, hp, rfl⟩ := List.mem_map.mp ((isd_mem isd k).mp hk)
  exact h p hp
theorem uniq_id : ∀ {l : List Str}, l.Nodup → uniq l = l := by
  intro l
  refine uniq_ind (C := fun l u => l.Nodup → u = l) (fun _ => rfl) (fun l d h nd => ?_) l
  rw [List.nodup_append] at nd
  have e := h nd.1
  unfold addD
  rw [e, if_neg fun z => nd.2.2 d z d List.mem_cons_self rfl]
section
variable {P : Program} {w : World} {K : PySem.W.Frag} {mg : Str → Option Value} {base : Heap}
def spLawBy (K : PySem.W.Frag) : Sp := fun vs H Q _ => ∃ (d r t : Addr) (ps : List DP) (us zs : List Str), vs = [.ref d, .ref r, .ref t] ∧ H d = some (.dK (byKV ps)) ∧ DOk ps ∧ SqT K H r (us.map V.str) ∧ us.length ≤ 100000 ∧ bad ps us = none ∧ SqT K H t (zs.map V.str) ∧ zs.length ≤ 100000 ∧ bad ps zs = none ∧ ∀ H', Same H H' → Q (.bl (ps.all fun p => sub (partL ps p.2.2 us) (partL ps p.2.2 zs))) H'
abbrev nLb : List Str := ["deal", "u", "v", "desk"]
theorem scLb : FnScope nLb ["deal", "u", "v"] (defScope sLawBy) := ⟨rfl, rfl, rfl, by decide +kernel, rfl, by decide +kernel, by decide +kernel⟩
theorem ok_lawby {f fI fP : Addr} {fd fdI fdP : FuncData} (F : Fun K "_law_by" "_law_by" sLawBy f fd) (N : Nones mg) (G__law_in : FnOk P w K mg base CX0 1 fI fdI ["u", "v"] (spLawIn K)) (C__law_in : CallC K mg "_law_in" ["u", "v"] fI fdI) (G__law_part : FnOk P w K mg base CX0 1 fP fdP ["deal", "desk", "row"] (spLawPart K)) (C__law_part : CallC K mg "_law_part" ["deal", "desk", "row"] fP fdP) : FnOk P w K mg base CX0 2 f fd ["deal", "u", "v"] (spLawBy K) := by
  refine F.ok scLb (fun vs H Q E h => ?_) (fun cdv A outer s H vs Q E hr h => ?_)
  · obtain ⟨d, r, t, ps, us, zs, rfl, _⟩ := h
    rfl
  · obtain ⟨d, r, t, ps, us, zs, rfl, hD, ok, hR, hz, hb, hT, hz2, hb2, q⟩ := h
    refine ⟨_, pss_one (ps_ret (pe_callB (cr_all rfl) (by rfl) N.all (by decide +kernel) (pa_cons (pe_lock (pe_lc (own := [("desk", 3)]) (g := gName 3) (tt := tYes) rfl scLb.nd (pi_values (pv 0)) (blkOk_by (own := [("desk", 3)]) (N := nLb) (sc := defScope sLawBy) (by decide +kernel)) (fun _ _ _ _ _ => (pg_name (i := 3) scLb.nd rfl (Or.inl rfl))) (fun _ _ _ _ _ => pts_nil) (fun _ _ _ _ _ => (pe_call G__law_in (hr.mono (by decide)) (by rfl) C__law_in.g C__law_in.kp C__law_in.b .nil pass0 (pa_cons (pe_call G__law_part (hr.mono (by decide)) (by rfl) C__law_part.g C__law_part.kp C__law_part.b .nil pass0 (pa_cons (pv 0) (pa_cons (pv 3) (pa_cons (pv 1) pa_nil)))) (pa_cons (pe_call G__law_part (hr.mono (by decide)) (by rfl) C__law_part.g C__law_part.kp C__law_part.b .nil pass0 (pa_cons (pv 0) (pa_cons (pv 3) (pa_cons (pv 2) pa_nil)))) pa_nil)))))) pa_nil))), ?_⟩
    refine ⟨d, _, hD, True.intro, fun od => ?_⟩
    generalize hL : upd H d (.frz od (.dK (byKV ps))) = L
    have fL : L d = some (.frz od (.dK (byKV ps))) := by rw [← hL]; exact upd_same
    have kL : But d H L := by rw [← hL]; exact But.upd
    have keepT : ∀ {b : Addr} {xs : List V}, SqT K H b xs → SqT K L b xs := fun {b xs} h => by
      rcases h with (h | ⟨o, h⟩) | h
      · exact .inl (.inl (kL _ _ (fun e => by rw [e, hD] at h; cases h) h))
      · exact .inl (.inr ⟨o, kL _ _ (fun e => by rw [e, hD] at h; cases h) h⟩)
      · exact .inr h
    have hR' := keepT hR
    have hT' := keepT hT
    have sz := ok.sz
    refine ⟨_, rfl, d, od, _, rfl, fL, fun D nD => ?_⟩
    refine lc_pure (walk_values (d := d) (o := od) (kvs := byKV ps)) ((ps.map fun p => sub (partL ps p.2.2 us) (partL ps p.2.2 zs)).map V.bl) (by rw [List.length_map, List.length_map, byKV_len]) nD (fun G s => s _ _ fL) (fun i x H0 H' hi h0 y => ?_) (fun H' s' e => ?_)
    · obtain ⟨rfl, k, hkv⟩ := y
      obtain ⟨p, hp, e⟩ := get_map hkv
      cases e
      refine ⟨rfl, _, rfl, .str p.2.2, rfl, _, rfl, d, r, p.2.2, ps, us, rfl, .inr ⟨od, h0.1 _ _ fL⟩, Same.sqT h0.1 hR', hz, hb, fun H2 p1 s2 n1 e1 => ?_⟩
      refine ⟨_, rfl, .str p.2.2, rfl, _, rfl, d, t, p.2.2, ps, zs, rfl, .inr ⟨od, s2 _ _ (h0.1 _ _ fL)⟩, Same.sqT s2 (Same.sqT h0.1 hT'), hz2, hb2, fun H3 p2 s3 n2 e2 => ?_⟩
      have l1 := partL_len ps p.2.2 us
      refine ⟨p1, p2, _, _, rfl, sqT_new (s3 _ _ e1), sqT_new e2, by omega, ?_⟩
      refine h0.put nD (s2.trans s3) ?_ (by rw [List.length_map, List.length_map]; omega)
      rw [List.getElem?_map, List.getElem?_map, hp]
      rfl
    · have fH := s' _ _ fL
      refine ⟨fH, D, _, rfl, sqL_new (by rw [upd_ne (fun z => by rw [z, fH] at e; cases e)]; exact e), ?_⟩
      rw [List.all_map]
      refine q _ fun b o eb => ?_
      by_cases hbd : b = d
      · rw [hbd] at eb ⊢
        rw [upd_same]
        exact hD.symm.trans eb
      · rw [upd_ne hbd]
        exact s' _ _ (kL _ _ hbd eb)
end
end Kb
namespace Kb
open PySem PySem.Spec PyProof.Rows L2
/-! ### parts_of, steps_out, all_in, plain, joined_row -/
def partsS (nm : Str) (s : Stp) : List Stg := if s.call = true then [(s.nm, 0), (nm, s.o)] else [(nm, s.o)]
/-- stages where they stand -/
def PtsAt (H : Hp) (q : Addr) (xs : List Stg) : Prop := ∃ L : List (Addr × Stg), H q = some (.tup (L.map fun t => V.ref t.1)) ∧ L.map (·.2) = xs ∧ ∀ t ∈ L, H t.1 = some (.tup (stV t.2))
theorem PtsAt.mono {H H' : Hp} {q : Addr} {xs : List Stg} (s : Same H H') (h : PtsAt H q xs) : PtsAt H' q xs := by
  obtain ⟨L, h1, h2, h3⟩ := h
  exact ⟨L, s _ _ h1, h2, fun t ht => s _ _ (h3 t ht)⟩
theorem kind_do (c : Bool) : decide (V.str (kindS c) = V.str (Str.ofString "do")) = !c := by
  cases c <;> decide +kernel
section
variable {P : Program} {w : World} {K : PySem.W.Frag} {mg : Str → Option Value} {base : Heap}
def spPartsOf : Sp := fun vs H Q _ => ∃ (b : Addr) (nm : Str) (s : Stp), vs = [.str nm, .ref b] ∧ H b = some (.tup (stpV s)) ∧ ∀ H' q, Same H H' → H q = none → PtsAt H' q (partsS nm s) → Q (.ref q) H'
abbrev nPf : List Str := ["course", "step", "_", "kind", "name", "onto"]
theorem scPf : FnScope nPf ["course", "step"] (defScope sPartsOf) := ⟨rfl, rfl, rfl, by decide +kernel, rfl, by decide +kernel, by decide +kernel⟩
theorem ok_partsof {f : Addr} {fd : FuncData} (F : Fun K "parts_of" "parts_of" sPartsOf f fd) : FnOk P w K mg base CX0 1 f fd ["course", "step"] spPartsOf := by
  refine F.ok scPf (fun vs H Q E h => ?_) (fun cdv A outer s H vs Q E hr h => ?_)
  · obtain ⟨b, nm, s, rfl, _⟩ := h
    rfl
  · obtain ⟨b, nm, s, rfl, hb, q⟩ := h
    refine ⟨_, pss_cons (ps_asg (pv 1) (pg_tup rfl (pgs_cons (pg_name (i := 2) scPf.nd rfl (Or.inl rfl)) (pgs_cons (pg_name (i := 3) scPf.nd rfl (Or.inl rfl)) (pgs_cons (pg_name (i := 4) scPf.nd rfl (Or.inl rfl)) (pgs_cons (pg_name (i := 5) scPf.nd rfl (Or.inl rfl)) pgs_nil))))))
      (pss_cons (ps_if (pt_cmpR op_eq (pv 3) pe_str (nomark _)) (pss_one (ps_ret (pe_tup (pa_cons (pe_tup (pa_cons (pv 0) (pa_cons (pv 5) pa_nil))) pa_nil)))) pss_nil)
      (pss_one (ps_ret (pe_tup (pa_cons (pe_tup (pa_cons (pv 4) (pa_cons pe_int pa_nil))) (pa_cons (pe_tup (pa_cons (pv 0) (pa_cons (pv 5) pa_nil))) pa_nil)))))), ?_⟩
    refine ⟨_, rfl, b, _, rfl, sqT_new hb, rfl, _, _, rfl, _, _, rfl, _, _, rfl, _, _, rfl, rfl, ?_⟩
    refine ⟨_, rfl, rfl, _, rfl, ?_⟩
    rw [kind_do]
    cases hc : s.call with
    | false =>
      refine iteYes rfl ?_
      refine ⟨.str nm, rfl, .int (s.o : Int), rfl, smallE (by show 2 ≤ 1000000; decide), fun e1 n1 => ⟨smallE (by show 1 ≤ 1000000; decide), fun e2 n2 => ?_⟩⟩
      have s1 := same_new (o := .tup [V.str nm, V.int (s.o : Int)]) n1
      have s2 := same_new (o := .tup [V.ref e1]) n2
      refine q _ e2 (s1.trans s2) (s1.free n2) ⟨[(e1, nm, s.o)], upd_same, by rw [partsS, hc]; rfl, fun t ht => ?_⟩
      rw [List.mem_singleton.mp ht]
      exact s2 _ _ upd_same
    | true =>
      refine iteNo rfl ?_
      refine ⟨.str s.nm, rfl, smallE (by show 2 ≤ 1000000; decide), fun e1 n1 => ⟨.str nm, rfl, .int (s.o : Int), rfl, smallE (by show 2 ≤ 1000000; decide), fun e2 n2 => ⟨smallE (by show 2 ≤ 1000000; decide), fun e3 n3 => ?_⟩⟩⟩
      have s1 := same_new (o := .tup [V.str s.nm, V.int 0]) n1
      have s2 := same_new (o := .tup [V.str nm, V.int (s.o : Int)]) n2
      have s3 := same_new (o := .tup [V.ref e1, V.ref e2]) n3
      refine q _ e3 ((s1.trans s2).trans s3) ((s1.trans s2).free n3) ⟨[(e1, s.nm, 0), (e2, nm, s.o)], upd_same, by rw [partsS, hc]; rfl, fun t ht => ?_⟩
      rcases List.mem_cons.mp ht with e | ht
      · rw [e]
        exact s3 _ _ (s2 _ _ upd_same)
      · rw [List.mem_singleton.mp ht]
        exact s3 _ _ upd_same
/-- the steps that leave a stage, each with its parts -/
abbrev SO := Addr × Nat × Addr
def OutAt (H : Hp) (l : Addr) (c : CA) (k : Nat) : Prop := ∃ L : List SO, H l = some (.lst (L.map fun t => V.ref t.1)) ∧ L.map (·.2.1) = offs c k ∧ ∀ t ∈ L, H t.1 = some (.tup [.int (t.2.1 : Int), .ref t.2.2]) ∧ ∀ s, c.ss[t.2.1]? = some s → PtsAt H t.2.2 (partsS c.nm s.2)
theorem OutAt.mono {H H' : Hp} {l : Addr} {c : CA} {k : Nat} (s : Same H H') (h : OutAt H l c k) : OutAt H' l c k := by
  obtain ⟨L, h1, h2, h3⟩ := h
  exact ⟨L, s _ _ h1, h2, fun t ht => ⟨s _ _ (h3 t ht).1, fun x hx => ((h3 t ht).2 x hx).mono s⟩⟩
theorem offs_lt {c : CA} {k i : Nat} (h : i ∈ offs c k) : ∃ s, c.ss[i]? = some s ∧ s.2.n = k := by
  have h := (List.mem_filter.mp h).2
  have h := of_decide_eq_true h
  cases e : c.ss[i]? with
  | none =>
    rw [e] at h
    cases h
  | some s =>
    rw [e] at h
    exact ⟨s, rfl, Option.some.inj h⟩
theorem offs_len (c : CA) (k : Nat) : (offs c k).length ≤ c.ss.length := by
  have := List.length_filter_le (fun i => decide ((c.ss[i]?).map (·.2.n) = some k)) (List.range c.ss.length)
  rwa [List.length_range] at this
def spStepsOut (K : PySem.W.Frag) (C : Addr) : Sp := fun vs H Q _ => ∃ (p a b : Addr) (cs : List CA) (c : CA) (k : Nat), vs = [.ref p, .ref b] ∧ BookAt K C H p a cs ∧ c ∈ cs ∧ k < c.n ∧ H b = some (.tup (stV (c.nm, k))) ∧ ∀ H' l, Same H H' → H l = none → OutAt H' l c k → Q (.ref l) H'
abbrev nSo : List Str := ["book", "stage", "steps", "k"]
theorem scSo : FnScope nSo ["book", "stage"] (defScope sStepsOut) := ⟨rfl, rfl, rfl, by decide +kernel, rfl, by decide +kernel, by decide +kernel⟩
theorem ok_stepsout {f C fS fF fP : Addr} {fd fdS fdF fdP : FuncData} (F : Fun K "steps_out" "steps_out" sStepsOut f fd) (B : BkC K mg C) (GM_steps : FnOk P w K mg base CX0 1 fS fdS ["self", "course"] (spBkSteps K C)) (bM_steps : Binds K fdS ["self", "course"] []) (m_steps : Meth K C "steps" fS)
    (GM_steps_from : FnOk P w K mg base CX0 1 fF fdF ["self", "stage"] (spBkFrom K C)) (bM_steps_from : Binds K fdF ["self", "stage"] []) (m_steps_from : Meth K C "steps_from" fF) (G_parts_of : FnOk P w K mg base CX0 1 fP fdP ["course", "step"] spPartsOf) (C_parts_of : CallC K mg "parts_of" ["course", "step"] fP fdP) : FnOk P w K mg base CX0 2 f fd ["book", "stage"] (spStepsOut K C) := by
  refine F.ok scSo (fun vs H Q E h => ?_) (fun cdv A outer s H vs Q E hr h => ?_)
  · obtain ⟨p, a, b, cs, c, k, rfl, _⟩ := h
    rfl
  · obtain ⟨p, a, b, cs, c, k, rfl, hB, mc, hk, hb, q⟩ := h
    refine ⟨_, pss_cons (ps_set (i := 2) scSo.nd rfl (Or.inr rfl) (pe_meth (pv 0) B.cl m_steps GM_steps (hr.mono (by decide)) bM_steps .nil pass0 (pa_cons (pe_ix ix_tup (pv 1) pe_int (fun _ _ => rfl)) pa_nil)))
      (pss_one (ps_ret (pe_lc (own := [("k", 3)]) (g := gName 3) (tt := tYes) rfl scSo.nd (pi_tup (pe_meth (pv 0) B.cl m_steps_from GM_steps_from (hr.mono (by decide)) bM_steps_from .nil pass0 (pa_cons (pv 1) pa_nil))) (blkOk_by (own := [("k", 3)]) (N := nSo) (sc := defScope sStepsOut) (by decide +kernel)) (fun _ _ _ _ _ => (pg_name (i := 3) scSo.nd rfl (Or.inl rfl))) (fun _ _ _ _ _ => pts_nil) (fun _ _ _ _ _ => (pe_tup (pa_cons (pv 3) (pa_cons (pe_call G_parts_of (hr.mono (by decide)) (by rfl) C_parts_of.g C_parts_of.kp C_parts_of.b .nil pass0 (pa_cons (pe_ix (ixT_at (K := K) rfl) (pv 1) pe_int (fun _ _ => rfl)) (pa_cons (pe_ix (ixT_at (K := K) rfl) (pv 2) (pv 3) (fun _ _ => rfl)) pa_nil))) pa_nil))))))), ?_⟩
    obtain ⟨dx, fs, P1, S1, E1, L1, S, hp, L, hC, ok, _⟩ := id hB
    have cc := hC.2 c mc
    refine ⟨_, rfl, p, dx, fs, rfl, hp, L.no _ (by decide +kernel), _, rfl, b, _, _, .str c.nm, rfl, rfl, sqT_new hb, rfl, p, a, cs, c, rfl, hB, mc, ?_⟩
    refine ⟨_, rfl, p, dx, fs, rfl, hp, L.no _ (by decide +kernel), _, rfl, p, a, b, cs, c, k, rfl, hB, mc, hk, hb, fun q1 e1 => ?_⟩
    refine ⟨q1, rfl, ⟨_, sqT_new e1⟩, fun D nD => ?_⟩
    have osz := (ok.ok c mc).sz
    have ol := offs_len c k
    refine lc_it (walk_tup (K := K) (a := q1) (xs := natV (offs c k))) (fun i G => ∃ L : List SO, Same H G ∧ G D = some (.lst (L.map fun t => V.ref t.1)) ∧ L.map (·.2.1) = (offs c k).take i ∧ ∀ t ∈ L, G t.1 = some (.tup [.int (t.2.1 : Int), .ref t.2.2]) ∧ ∀ s, c.ss[t.2.1]? = some s → PtsAt G t.2.2 (partsS c.nm s.2)) ⟨[], same_new nD, upd_same, rfl, fun t ht => nomatch ht⟩ (fun _ _ _ h => sqT_new (h.choose_spec.1 _ _ e1)) (fun i x G G' hi h y => ?_) (fun G h => ?_)
    · obtain ⟨rfl, hy⟩ := y
      obtain ⟨j, hj, rfl⟩ := get_map (f := fun (i : Nat) => V.int (i : Int)) hy
      obtain ⟨L, sG, eG, kL, tL⟩ := h
      obtain ⟨s0, hs0, _⟩ := offs_lt (List.mem_of_getElem? hj)
      have lL : L.length ≤ 10000 := by
        have := congrArg List.length kL
        rw [List.length_map, List.length_take] at this
        omega
      have hsv : (c.ss.map fun p => V.ref p.1)[j]? = some (.ref s0.1) := by rw [List.getElem?_map, hs0]; rfl
      refine ⟨rfl, .int (j : Nat), rfl, _, rfl, b, _, _, .str c.nm, rfl, rfl, sqT_new (sG _ _ hb), rfl, _, rfl, .int (j : Nat), rfl, c.sa, _, _, .ref s0.1, rfl, rfl, Same.sqT sG cc.s, atI_nat hsv, s0.1, c.nm, s0.2, rfl, sG _ _ (cc.p s0 (List.mem_of_getElem? hs0)), fun H2 q2 s2 n2 pq => ?_⟩
      refine ⟨smallE (by show 2 ≤ 1000000; decide), fun t0 nt => ?_⟩
      have st := same_new (o := .tup [V.int (j : Nat), V.ref q2]) nt
      have et : upd H2 t0 (.tup [V.int (j : Nat), V.ref q2]) t0 = some (.tup [V.int (j : Nat), V.ref q2]) := upd_same
      have pq := pq.mono st
      have sZ := s2.trans st
      generalize upd H2 t0 (.tup [V.int (j : Nat), V.ref q2]) = Z at st et pq sZ
      have eD := sZ _ _ eG
      have nDt : ∀ {c : Addr} {xs : List V}, Z c = some (.tup xs) → upd Z D (.lst (L.map (fun t => V.ref t.1) ++ [V.ref t0])) c = some (.tup xs) := fun {c xs} e => by
        rw [upd_ne]
        · exact e
        · intro w
          rw [w, eD] at e
          cases e
      have pD : ∀ {q : Addr} {xs : List Stg}, PtsAt Z q xs → PtsAt (upd Z D (.lst (L.map (fun t => V.ref t.1) ++ [V.ref t0]))) q xs := fun ⟨L, a1, a2, a3⟩ => ⟨L, nDt a1, a2, fun t ht => nDt (a3 t ht)⟩
      refine ⟨_, eD, by rw [List.length_map]; exact small (by omega), L ++ [(t0, j, q2)], fun c o e => ?_, ?_, ?_, fun t ht => ?_⟩
      · rw [upd_ne (ne_of_none e nD)]
        exact sZ _ _ (sG _ _ e)
      · rw [upd_same, List.map_append]
        rfl
      · rw [List.map_append, kL, take_of_get hj]
        rfl
      · rcases List.mem_append.mp ht with z | z
        · obtain ⟨a1, a2⟩ := tL t z
          exact ⟨nDt (sZ _ _ a1), fun x hx => pD ((a2 x hx).mono sZ)⟩
        · rw [List.mem_singleton.mp z]
          refine ⟨nDt et, fun x hx => ?_⟩
          have hx : c.ss[j]? = some x := hx
          rw [hs0] at hx
          cases hx
          exact pD pq
    · obtain ⟨L, sG, eG, kL, tL⟩ := h
      rw [natV_len, List.take_of_length_le (Nat.le_refl _)] at kL
      exact q G D sG nD ⟨L, eG, kL, tL⟩
def spAllIn (K : PySem.W.Frag) : Sp := fun vs H Q _ => ∃ (q d : Addr) (xs : List Stg) (kvs : List (List L2.Key × V)), vs = [.ref q, .ref d] ∧ PtsAt H q xs ∧ xs.length ≤ 100000 ∧ Rd H d (.dT kvs) ∧ ∀ H', Same H H' → Q (.bl (xs.all fun x => (valV kvs (stK x)).isSome)) H'
abbrev nAi : List Str := ["parts", "table", "part"]
theorem scAi : FnScope nAi ["parts", "table"] (defScope sAllIn) := ⟨rfl, rfl, rfl, by decide +kernel, rfl, by decide +kernel, by decide +kernel⟩
theorem ok_allin {f : Addr} {fd : FuncData} (F : Fun K "all_in" "all_in" sAllIn f fd) (N : Nones mg) : FnOk P w K mg base CX0 1 f fd ["parts", "table"] (spAllIn K) := by
  refine F.ok scAi (fun vs H Q E h => ?_) (fun cdv A outer s H vs Q E hr h => ?_)
  · obtain ⟨q, d, xs, kvs, rfl, _⟩ := h
    rfl
  · obtain ⟨q, d, xs, kvs, rfl, ⟨L, h1, rfl, h3⟩, hl, hd, fin⟩ := h
    rw [List.length_map] at hl
    refine ⟨_, pss_one (ps_ret (pe_callB (cr_all rfl) (by rfl) N.all (by decide +kernel) (pa_cons (pe_lc (own := [("part", 2)]) (g := gName 2) (tt := tYes) rfl scAi.nd (pi_tup (pv 0)) (blkOk_by (own := [("part", 2)]) (N := nAi) (sc := defScope sAllIn) (by decide +kernel)) (fun _ _ _ _ _ => (pg_name (i := 2) scAi.nd rfl (Or.inl rfl))) (fun _ _ _ _ _ => pts_nil) (fun _ _ _ _ _ => (pe_cmp (pc_din (hu_of hr) (pv 2) (pv 1)) rfl))) pa_nil))), ?_⟩
    refine ⟨_, rfl, q, rfl, ⟨_, sqT_new h1⟩, fun D nD => ?_⟩
    refine lc_pure (walk_tup (K := K) (a := q) (xs := L.map fun t => V.ref t.1)) ((L.map fun t => (valV kvs (stK t.2)).isSome).map V.bl) (by rw [List.length_map, List.length_map, List.length_map]) nD (fun _ s => sqT_new (s _ _ h1)) (fun i x H0 H' hi h0 y => ?_) (fun H' s' e => ?_)
    · obtain ⟨rfl, hy⟩ := y
      obtain ⟨t, ht, rfl⟩ := get_map hy
      have g : DGet H' d (.ref t.1) (valV kvs (stK t.2)) := .inr ⟨kvs, stK t.2, t.1, (by rcases hd with hd | ⟨o, hd⟩; exact .inl (h0.1 _ _ hd); exact .inr ⟨o, h0.1 _ _ hd⟩), rfl, h0.1 _ _ (h3 t (List.mem_of_getElem? ht)), rfl⟩
      refine ⟨rfl, _, rfl, _, rfl, d, _, rfl, g, ?_⟩
      refine h0.put nD (fun _ _ e => e) ?_ (by rw [List.length_map, List.length_map]; omega)
      rw [List.getElem?_map, List.getElem?_map, ht]
      rfl
    · refine ⟨D, _, rfl, sqL_new e, ?_⟩
      have : (L.map fun t => (valV kvs (stK t.2)).isSome).all id = (L.map (·.2)).all fun x => (valV kvs (stK x)).isSome := by
        rw [List.all_map, List.all_map]
        rfl
      rw [this]
      exact fin H' s'
end
end Kb
namespace Kb
open PySem PySem.Spec PyProof.Rows L2
/-! ### plain, joined_row -/
def PlnAt (H : Hp) (q : Addr) (ds : List Str) : Prop := ∃ L : List SA, H q = some (.dK (saKV L)) ∧ L.map (·.1) = ds ∧ ∀ t ∈ L, H t.2 = some (.tup [V.str t.1])
theorem PlnAt.mono {H H' : Hp} {q : Addr} {ds : List Str} (s : Same H H') (h : PlnAt H q ds) : PlnAt H' q ds := by
  obtain ⟨L, h1, h2, h3⟩ := h
  exact ⟨L, s _ _ h1, h2, fun t ht => s _ _ (h3 t ht)⟩
/-- rows by their stages -/
abbrev RA := Stg × Addr × List Str
def rowKV (R : List RA) : List (List L2.Key × V) := R.map fun t => (stK t.1, V.ref t.2.1)
structure RowsAt (K : PySem.W.Frag) (H : Hp) (d : Addr) (R : List RA) : Prop where
  d : Rd H d (.dT (rowKV R))
  r : ∀ t ∈ R, SqT K H t.2.1 (t.2.2.map V.str)
theorem RowsAt.mono {K : PySem.W.Frag} {H H' : Hp} {d : Addr} {R : List RA} (s : Same H H') (h : RowsAt K H d R) : RowsAt K H' d R := ⟨Rd.mono h.d s, fun t ht => Same.sqT s (h.r t ht)⟩
def rowA : List RA → Stg → Option (Addr × List Str)
  | [], _ => none
  | t :: R, x => if t.1 = x then some t.2 else rowA R x
theorem valV_rows : ∀ (R : List RA) (x : Stg), valV (rowKV R) (stK x) = (rowA R x).map fun y => V.ref y.1
  | [], _ => rfl
  | t :: R, x => by
    show valV ((stK t.1, V.ref t.2.1) :: rowKV R) (stK x) = _
    unfold rowA
    by_cases h : t.1 = x
    · rw [if_pos h, valV_pos (by rw [h])]
      rfl
    · rw [if_neg h, valV_neg (fun z => h (stK_inj z)), valV_rows R x]
theorem rowA_mem : ∀ {R : List RA} {x : Stg} {y : Addr × List Str}, rowA R x = some y → (x, y) ∈ R
  | t :: R, x, y, h => by
    unfold rowA at h
    by_cases e : t.1 = x
    · rw [if_pos e] at h
      cases h
      rw [← e]
      exact List.mem_cons_self
    · rw [if_neg e] at h
      exact List.mem_cons_of_mem _ (rowA_mem h)
/-- the rows of stages, one behind another -/
def catL (R : List RA) : List Str → List Stg → Option (List Str)
  | acc, [] => some acc
  | acc, x :: xs => match rowA R x with
    | some y => catL R (acc ++ y.2) xs
    | none => none
theorem catL_has (R : List RA) : ∀ (xs : List Stg) (acc : List Str), (catL R acc xs).isSome = xs.all fun x => (rowA R x).isSome
  | [], _ => rfl
  | x :: xs, acc => by
    unfold catL
    rw [List.all_cons]
    cases h : rowA R x with
    | none => rfl
    | some y => exact catL_has R xs _
def initR (s : Stp) : List Str := if s.call = true then [] else [s.nm]
def joinR (R : List RA) (nm : Str) (s : Stp) : Option (List Str) := catL R (initR s) (partsS nm s)
theorem partsS_len (nm : Str) (s : Stp) : (partsS nm s).length ≤ 2 := by
  unfold partsS
  split <;> simp
section
variable {P : Program} {w : World} {K : PySem.W.Frag} {mg : Str → Option Value} {base : Heap}
def spPln (K : PySem.W.Frag) (C : Addr) : Sp := fun vs H Q _ => ∃ (p a : Addr) (cs : List CA), vs = [.ref p] ∧ BookAt K C H p a cs ∧ ∀ H' q ds, Same H H' → H q = none → ds.Perm (uniq (dns cs)) → sortedS ds = true → PlnAt H' q ds → Q (.ref q) H'
abbrev nPn : List Str := ["book", "deed"]
theorem scPn : FnScope nPn ["book"] (defScope sPlain) := ⟨rfl, rfl, rfl, by decide +kernel, rfl, by decide +kernel, by decide +kernel⟩
theorem ok_pln {f C fD : Addr} {fd fdD : FuncData} (F : Fun K "plain" "plain" sPlain f fd) (B : BkC K mg C) (GM_deeds : FnOk P w K mg base CX0 2 fD fdD ["self"] (spBkDeeds K C)) (bM_deeds : Binds K fdD ["self"] []) (m_deeds : Meth K C "deeds" fD) : FnOk P w K mg base CX0 3 f fd ["book"] (spPln K C) := by
  refine F.ok scPn (fun vs H Q E h => ?_) (fun cdv A outer s H vs Q E hr h => ?_)
  · obtain ⟨p, a, cs, rfl, _⟩ := h
    rfl
  · obtain ⟨p, a, cs, rfl, hB, q⟩ := h
    refine ⟨_, pss_one (ps_ret (pe_dc (own := [("deed", 1)]) (g := gName 1) (tt := tYes) rfl scPn.nd (pi_tup (pe_meth0 (pv 0) B.cl m_deeds GM_deeds (hr.mono (by decide)) bM_deeds .nil pass0)) (blkOk_by (own := [("deed", 1)]) (N := nPn) (sc := defScope sPlain) (by decide +kernel)) (fun _ _ _ _ _ => (pg_name (i := 1) scPn.nd rfl (Or.inl rfl))) (fun _ _ _ _ _ => pts_nil) (fun _ _ _ _ _ => (pv 1)) (fun _ _ _ _ _ => (pe_tup (pa_cons (pv 1) pa_nil))))), ?_⟩
    obtain ⟨dx, fs, P1, S1, E1, L1, S, hp, L, hC, ok, _⟩ := id hB
    refine ⟨_, rfl, p, dx, fs, rfl, hp, L.no _ (by decide +kernel), p, a, cs, rfl, hB, fun H1 q1 ds s1 n1 e1 hperm hso => ?_⟩
    have d12 := ok.d12
    have dl : ds.length ≤ 12 := by rw [hperm.length_eq]; exact d12
    have dn : ds.Nodup := hperm.nodup_iff.mpr (uniq_nd _)
    refine ⟨q1, rfl, ⟨_, sqT_new e1⟩, fun D nD => ?_⟩
    refine dcK_it (walk_tup (K := K) (a := q1) (xs := ds.map V.str)) (fun i G => ∃ L : List SA, Same H1 G ∧ G D = some (.dK (saKV L)) ∧ L.map (·.1) = ds.take i ∧ ∀ t ∈ L, G t.2 = some (.tup [V.str t.1])) ⟨[], same_new nD, upd_same, rfl, fun t ht => nomatch ht⟩ (fun _ _ _ h => sqT_new (h.choose_spec.1 _ _ e1)) (fun i x G G' hi h y => ?_) (fun G h => ?_)
    · obtain ⟨rfl, hy⟩ := y
      obtain ⟨d, hd, rfl⟩ := get_map hy
      obtain ⟨L, sG, eG, kL, tL⟩ := h
      have lL : L.length ≤ 12 := by
        have := congrArg List.length kL
        rw [List.length_map, List.length_take] at this
        omega
      refine ⟨rfl, .str d, rfl, .str d, rfl, smallE (by show 1 ≤ 1000000; decide), fun b nb => ?_⟩
      have sb := same_new (o := .tup [V.str d]) nb
      have eb : upd G' b (.tup [V.str d]) b = some (.tup [V.str d]) := upd_same
      have eD := sb _ _ eG
      generalize upd G' b (.tup [V.str d]) = Z at sb eb eD
      have nDt : ∀ {c : Addr} {xs : List V}, Z c = some (.tup xs) → c ≠ D := fun e w => by
        rw [w, eD] at e
        cases e
      refine ⟨saKV L, Sum.inr d, rfl, eD, by rw [saKV_len]; exact small (by omega), L ++ [(d, b)], fun c o e => ?_, ?_, ?_, fun t ht => ?_⟩
      · rw [upd_ne (ne_of_none e nD)]
        exact sb _ _ (sG _ _ e)
      · rw [upd_same, putK_new]
        · unfold saKV
          rw [List.map_append]
          rfl
        · rw [saKV_keys, kL]
          intro z
          obtain ⟨y, hy, e⟩ := List.mem_map.mp z
          rw [Sum.inr.inj e] at hy
          rw [← List.take_append_drop i ds, drop_of_get hd, List.nodup_append] at dn
          exact dn.2.2 _ hy _ List.mem_cons_self rfl
      · rw [List.map_append, kL, take_of_get hd]
        rfl
      · rcases List.mem_append.mp ht with z | z
        · have a1 := sb _ _ (tL t z)
          rw [upd_ne (nDt a1)]
          exact a1
        · rw [List.mem_singleton.mp z, upd_ne (nDt eb)]
          exact eb
    · obtain ⟨L, sG, eG, kL, tL⟩ := h
      rw [List.length_map, List.take_of_length_le (Nat.le_refl _)] at kL
      exact q G D ds (s1.trans sG) (s1.free nD) hperm hso ⟨L, eG, kL, tL⟩
def spJoin (K : PySem.W.Frag) (C : Addr) : Sp := fun vs H Q _ => ∃ (p a v d b : Addr) (cs : List CA) (c : CA) (k j : Nat) (s : Addr × Stp) (R : List RA) (ds row : List Str), vs = [.ref p, .ref v, .ref d, .ref b, .int (j : Int)] ∧ BookAt K C H p a cs ∧ c ∈ cs ∧ H b = some (.tup (stV (c.nm, k))) ∧ c.ss[j]? = some s ∧ PlnAt H v ds ∧ ds.Nodup ∧ (s.2.call = false → s.2.nm ∈ ds) ∧ RowsAt K H d R ∧ (∀ t ∈ R, t.2.2.length ≤ 40000) ∧ joinR R c.nm s.2 = some row ∧
  ∀ H' q, Same H H' → SqT K H' q (row.map V.str) → row.length ≤ 100000 → Q (.ref q) H'
abbrev nJr : List Str := ["book", "view", "rows", "stage", "k", "step", "row", "part"]
theorem scJr : FnScope nJr ["book", "view", "rows", "stage", "k"] (defScope sJoinedRow) := ⟨rfl, rfl, rfl, by decide +kernel, rfl, by decide +kernel, by decide +kernel⟩
theorem catA_any {H : Hp} {a b : Addr} {xs ys : List V} {Q : VK} (hA : SqT K H a xs) (hB : SqT K H b ys) (hz : xs.length + ys.length ≤ 1000000) (q : ∀ H' c, Same H H' → SqT K H' c (xs ++ ys) → Q (.ref c) H') : rCatA K (.ref a) (.ref b) H Q := by
  refine ⟨a, b, xs, ys, rfl, rfl, hA, hB, smallE hz, fun e => ?_, fun _ e => ?_, fun _ _ p np => ?_⟩
  · subst e
    exact q H b (fun _ _ h => h) hB
  · subst e
    refine q H a (fun _ _ h => h) ?_
    rw [List.append_nil]
    exact hA
  · exact q _ p (same_new np) (sqT_new upd_same)
theorem ok_join {f C fS fP : Addr} {fd fdS fdP : FuncData} (F : Fun K "joined_row" "joined_row" sJoinedRow f fd) (B : BkC K mg C) (GM_steps : FnOk P w K mg base CX0 1 fS fdS ["self", "course"] (spBkSteps K C)) (bM_steps : Binds K fdS ["self", "course"] []) (m_steps : Meth K C "steps" fS)
    (G_parts_of : FnOk P w K mg base CX0 1 fP fdP ["course", "step"] spPartsOf) (C_parts_of : CallC K mg "parts_of" ["course", "step"] fP fdP) : FnOk P w K mg base CX0 2 f fd ["book", "view", "rows", "stage", "k"] (spJoin K C) := by
  refine F.ok scJr (fun vs H Q E h => ?_) (fun cdv A outer s0 H vs Q E hr h => ?_)
  · obtain ⟨p, a, v, d, b, cs, c, k, j, s, R, ds, row, rfl, _⟩ := h
    rfl
  · obtain ⟨p, a, v, d, b, cs, c, k, j, s, R, ds, row, rfl, hB, mc, hb, hs, hV, dn, hin, hR, hlen, hj, q⟩ := h
    refine ⟨_, pss_cons (ps_set (i := 5) scJr.nd rfl (Or.inl rfl) (pe_ix ix_tup (pe_meth (pv 0) B.cl m_steps GM_steps (hr.mono (by decide)) bM_steps .nil pass0 (pa_cons (pe_ix ix_tup (pv 3) pe_int (fun _ _ => rfl)) pa_nil)) (pv 4) (fun _ _ => rfl)))
      (pss_cons (ps_set (i := 6) scJr.nd rfl (Or.inl rfl) (pe_ifExp (pt_cmpR op_eq (pe_ix ix_tup (pv 5) pe_int (fun _ _ => rfl)) pe_str (nomark _)) (pe_dget (hu_of hr) (pv 1) (pe_ix ix_tup (pv 5) pe_int (fun _ _ => rfl)) (fun _ _ => rfl)) (pe_tup pa_nil)))
      (pss_cons (ps_for PassesOwn.never rfl (pi_tup (pe_call G_parts_of (hr.mono (by decide)) (by rfl) C_parts_of.g C_parts_of.kp C_parts_of.b .nil pass0 (pa_cons (pe_ix ix_tup (pv 3) pe_int (fun _ _ => rfl)) (pa_cons (pv 5) pa_nil)))) (pg_name (i := 7) scJr.nd rfl (Or.inl rfl))
        (pss_one (ps_set (i := 6) scJr.nd rfl (Or.inl rfl) (pe_op op_catA (pv 6) (pe_dget (hu_of hr) (pv 2) (pv 7) (fun _ _ => rfl))))))
      (pss_one (ps_ret (pv 6))))), ?_⟩
    obtain ⟨dx, fs, P1, S1, E1, L1, S, hp, L, hC, ok, _⟩ := id hB
    have cc := hC.2 c mc
    have hsm := List.mem_of_getElem? hs
    have hsv : (c.ss.map fun p => V.ref p.1)[j]? = some (.ref s.1) := by rw [List.getElem?_map, hs]; rfl
    have hst := cc.p s hsm
    refine ⟨_, rfl, p, dx, fs, rfl, hp, L.no _ (by decide +kernel), _, rfl, b, _, _, .str c.nm, rfl, rfl, sqT_new hb, rfl, p, a, cs, c, rfl, hB, mc, ?_⟩
    refine ⟨.int (j : Nat), rfl, c.sa, _, _, .ref s.1, rfl, rfl, cc.s, atI_nat hsv, ?_⟩
    refine ⟨_, rfl, s.1, _, _, .str (kindS s.2.call), rfl, rfl, sqT_new hst, rfl, rfl, _, rfl, ?_⟩
    rw [kind_do]
    refine ite2 (fun c0 => ?_) (fun c0 => ?_)
    · have hcf : s.2.call = false := by simpa using c0
      obtain ⟨Lv, v1, v2, v3⟩ := id hV
      obtain ⟨t0, ht0, et0⟩ := List.mem_map.mp (show s.2.nm ∈ Lv.map (·.1) by rw [v2]; exact hin hcf)
      have g1 : DGet H v (.str s.2.nm) (some (.ref t0.2)) := by
        have := DGet.k (k := Sum.inr t0.1) v1
        rw [sa_get (by rw [v2]; exact dn) ht0, et0] at this
        exact this
      refine ⟨_, rfl, _, rfl, s.1, _, _, .str s.2.nm, rfl, rfl, sqT_new hst, rfl, v, .ref t0.2, rfl, g1, ?_⟩
      have hq1 : SqT K H t0.2 ((initR s.2).map V.str) := by
        have := v3 t0 ht0
        rw [et0] at this
        unfold initR
        rw [hcf, if_neg (by decide)]
        exact sqT_new this
      have s1 : Same H H := fun _ _ e => e
      refine ⟨_, rfl, b, _, _, .str c.nm, rfl, rfl, sqT_new (s1 _ _ hb), rfl, .ref s.1, rfl, s.1, c.nm, s.2, rfl, s1 _ _ hst, fun H2 q2 s2 n2 pq => ?_⟩
      obtain ⟨Lp, p1, p2, p3⟩ := pq
      have s12 := s1.trans s2
      have hq1 := Same.sqT s2 hq1
      have lp : Lp.length ≤ 2 := by
        have := partsS_len c.nm s.2
        rw [← p2, List.length_map] at this
        exact this
      refine ⟨q2, rfl, ⟨_, sqT_new p1⟩, ?_⟩
      refine for_it (walk_tup (K := K) (a := q2) (xs := Lp.map fun t => V.ref t.1)) (fun i σ Z => ∃ (q6 : Addr) (acc : List Str) (x7 : Option V), σ = [some (.ref p), some (.ref v), some (.ref d), some (.ref b), some (.int (j : Nat)), some (.ref s.1), some (.ref q6), x7] ∧ Same H2 Z ∧ SqT K Z q6 (acc.map V.str) ∧ acc.length ≤ 1 + 40000 * i ∧ catL R acc ((Lp.map (·.2)).drop i) = some row) ⟨t0.2, initR s.2, none, rfl, fun _ _ e => e, hq1, by unfold initR; split <;> simp, by rw [List.drop_zero, p2]; exact hj⟩ (fun i σ Z _ h => ?_) (fun i x σ Z Z' hi h y => ?_) (fun σ Z h => ?_)
      · obtain ⟨_, _, _, _, sZ, _⟩ := h
        exact sqT_new (sZ _ _ p1)
      · obtain ⟨rfl, hy⟩ := y
        obtain ⟨t, ht, rfl⟩ := get_map hy
        obtain ⟨q6, acc, x7, rfl, sZ, hq6, lacc, hcat⟩ := h
        rw [List.length_map] at hi
        have hd2 : (Lp.map (·.2))[i]? = some t.2 := by rw [List.getElem?_map, ht]; rfl
        rw [drop_of_get hd2] at hcat
        unfold catL at hcat
        cases hrow : rowA R t.2 with
        | none =>
          rw [hrow] at hcat
          cases hcat
        | some y =>
          rw [hrow] at hcat
          have hym := rowA_mem hrow
          have hRZ := hR.mono (s12.trans sZ)
          have g2 : DGet Z' d (.ref t.1) (some (.ref y.1)) := .inr ⟨rowKV R, stK t.2, t.1, hRZ.d, rfl, sZ _ _ (p3 t (List.mem_of_getElem? ht)), by rw [valV_rows, hrow]; rfl⟩
          have ly := hlen _ hym
          refine ⟨_, rfl, _, rfl, _, rfl, d, _, rfl, g2, ?_⟩
          refine catA_any hq6 (hRZ.r _ hym) (by rw [List.length_map, List.length_map]; show _ + y.2.length ≤ _; have ly : y.2.length ≤ 40000 := ly; omega) fun Z2 q7 s7 h7 => ?_
          rw [← List.map_append] at h7
          refine ⟨q7, acc ++ y.2, _, rfl, sZ.trans s7, h7, ?_, hcat⟩
          rw [List.length_append]
          have ly : y.2.length ≤ 40000 := ly
          omega
      · obtain ⟨q6, acc, x7, rfl, sZ, hq6, lacc, hcat⟩ := h
        rw [List.length_map] at lacc hcat
        rw [List.drop_eq_nil_of_le (by rw [List.length_map]; exact Nat.le_refl _)] at hcat
        cases hcat
        exact ⟨_, rfl, q _ q6 (s12.trans sZ) hq6 (by omega)⟩
    · have hcf : s.2.call = true := by simpa using c0
      refine ⟨Nat.zero_le _, fun q1 nq1 => ?_⟩
      have s1 := same_new (o := .tup []) nq1
      have hq1 : SqT K (upd H q1 (.tup [])) q1 ((initR s.2).map V.str) := by
        unfold initR
        rw [hcf, if_pos rfl]
        exact sqT_new upd_same
      generalize upd H q1 (.tup []) = H1 at s1 hq1
      refine ⟨_, rfl, b, _, _, .str c.nm, rfl, rfl, sqT_new (s1 _ _ hb), rfl, .ref s.1, rfl, s.1, c.nm, s.2, rfl, s1 _ _ hst, fun H2 q2 s2 n2 pq => ?_⟩
      obtain ⟨Lp, p1, p2, p3⟩ := pq
      have s12 := s1.trans s2
      have hq1 := Same.sqT s2 hq1
      have lp : Lp.length ≤ 2 := by
        have := partsS_len c.nm s.2
        rw [← p2, List.length_map] at this
        exact this
      refine ⟨q2, rfl, ⟨_, sqT_new p1⟩, ?_⟩
      refine for_it (walk_tup (K := K) (a := q2) (xs := Lp.map fun t => V.ref t.1)) (fun i σ Z => ∃ (q6 : Addr) (acc : List Str) (x7 : Option V), σ = [some (.ref p), some (.ref v), some (.ref d), some (.ref b), some (.int (j : Nat)), some (.ref s.1), some (.ref q6), x7] ∧ Same H2 Z ∧ SqT K Z q6 (acc.map V.str) ∧ acc.length ≤ 1 + 40000 * i ∧ catL R acc ((Lp.map (·.2)).drop i) = some row) ⟨q1, initR s.2, none, rfl, fun _ _ e => e, hq1, by unfold initR; split <;> simp, by rw [List.drop_zero, p2]; exact hj⟩ (fun i σ Z _ h => ?_) (fun i x σ Z Z' hi h y => ?_) (fun σ Z h => ?_)
      · obtain ⟨_, _, _, _, sZ, _⟩ := h
        exact sqT_new (sZ _ _ p1)
      · obtain ⟨rfl, hy⟩ := y
        obtain ⟨t, ht, rfl⟩ := get_map hy
        obtain ⟨q6, acc, x7, rfl, sZ, hq6, lacc, hcat⟩ := h
        rw [List.length_map] at hi
        have hd2 : (Lp.map (·.2))[i]? = some t.2 := by rw [List.getElem?_map, ht]; rfl
        rw [drop_of_get hd2] at hcat
        unfold catL at hcat
        cases hrow : rowA R t.2 with
        | none =>
          rw [hrow] at hcat
          cases hcat
        | some y =>
          rw [hrow] at hcat
          have hym := rowA_mem hrow
          have hRZ := hR.mono (s12.trans sZ)
          have g2 : DGet Z' d (.ref t.1) (some (.ref y.1)) := .inr ⟨rowKV R, stK t.2, t.1, hRZ.d, rfl, sZ _ _ (p3 t (List.mem_of_getElem? ht)), by rw [valV_rows, hrow]; rfl⟩
          have ly := hlen _ hym
          refine ⟨_, rfl, _, rfl, _, rfl, d, _, rfl, g2, ?_⟩
          refine catA_any hq6 (hRZ.r _ hym) (by rw [List.length_map, List.length_map]; show _ + y.2.length ≤ _; have ly : y.2.length ≤ 40000 := ly; omega) fun Z2 q7 s7 h7 => ?_
          rw [← List.map_append] at h7
          refine ⟨q7, acc ++ y.2, _, rfl, sZ.trans s7, h7, ?_, hcat⟩
          rw [List.length_append]
          have ly : y.2.length ≤ 40000 := ly
          omega
      · obtain ⟨q6, acc, x7, rfl, sZ, hq6, lacc, hcat⟩ := h
        rw [List.length_map] at lacc hcat
        rw [List.drop_eq_nil_of_le (by rw [List.length_map]; exact Nat.le_refl _)] at hcat
        cases hcat
        exact ⟨_, rfl, q _ q6 (s12.trans sZ) hq6 (by omega)⟩
end
end Kb
namespace Kb
open PySem PySem.Spec PyProof.Rows L2
/-! ### looks_by -/
theorem eqv_sh {d : PyData} (h : SeqAt.shaped d = true) : PyData.eqv d d = true := by
  unfold SeqAt.shaped at h
  rw [Bool.and_eq_true] at h
  exact SeqAt.eqv_refl d h.1
theorem valV_some {κ : Type} [DecidableEq κ] {kvs : List (κ × V)} {k : κ} (h : k ∈ kvs.map (·.1)) : (valV kvs k).isSome = true := by
  rw [valV_has]
  exact decide_eq_true h
def badAt (ps : List DP) (ks : List Str) (R : List RA) (c : CA) (row : List Str) : List Nat → Option Nat
  | [] => none
  | j :: js => match c.ss[j]? with
    | none => badAt ps ks R c row js
    | some s => match joinR R c.nm s.2 with
      | none => badAt ps ks R c row js
      | some r => if withinB ps row r ks = true then badAt ps ks R c row js else some j
def crsOf (cs : List CA) (nm : Str) : Option CA := cs.find? fun c => decide (c.nm = nm)
theorem crsOf_mem {cs : List CA} (nd : (cs.map (·.nm)).Nodup) {c : CA} (h : c ∈ cs) : crsOf cs c.nm = some c := by
  unfold crsOf
  cases e : cs.find? fun c' => decide (c'.nm = c.nm) with
  | none =>
    have := List.find?_eq_none.mp e c h
    simp at this
  | some c' =>
    have h1 := List.mem_of_find?_eq_some e
    have h2 := List.find?_some e
    rw [same_course nd h1 h (of_decide_eq_true h2)]
def looksL (ps : List DP) (ks : List Str) (R : List RA) (cs : List CA) : List Stg → Option (Stg × Int)
  | [] => none
  | x :: xs => match crsOf cs x.1, rowA R x with
    | some c, some y => if x.2 ∈ c.es ∧ y.2 ≠ [] then some (x, -1) else match badAt ps ks R c y.2 (offs c x.2) with
      | some j => some (x, (j : Int))
      | none => looksL ps ks R cs xs
    | _, _ => looksL ps ks R cs xs
def LookV (H : Hp) (v : V) : Option (Stg × Int) → Prop
  | none => v = .non
  | some r => ∃ q b : Addr, v = .ref q ∧ H q = some (.tup [.ref b, .int r.2]) ∧ H b = some (.tup (stV r.1))
/-- the stages in order -/
def srt (l : List Stg) : List Stg := l.mergeSort fun x y => Ka.kLe (stK x) (stK y)
theorem srt_keys (l : List Stg) : (srt l).map stK = (l.map stK).mergeSort Ka.kLe := PySem.W.sort_maps stK fun _ _ _ _ => rfl
structure RwOk (cs : List CA) (ps : List DP) (R : List RA) : Prop where
  key : ∀ t ∈ R, ∃ c ∈ cs, c.nm = t.1.1 ∧ t.1.2 < c.n
  len : ∀ t ∈ R, t.2.2.length ≤ 40000
  nm : ∀ t ∈ R, ∀ z ∈ t.2.2, isName z = true
  bad : ∀ t ∈ R, ∀ z ∈ t.2.2, (deskOf ps z).isSome = true
  n : R.length ≤ 60
  dd : ∀ c ∈ cs, ∀ s ∈ c.ss, s.2.call = false → (deskOf ps s.2.nm).isSome = true
theorem catL_all {R : List RA} {p : Str → Prop} (hR : ∀ t ∈ R, ∀ z ∈ t.2.2, p z) : ∀ {xs : List Stg} {acc row : List Str}, (∀ z ∈ acc, p z) → catL R acc xs = some row → ∀ z ∈ row, p z
  | [], acc, row, ha, h => by
    cases h
    exact ha
  | x :: xs, acc, row, ha, h => by
    unfold catL at h
    cases e : rowA R x with
    | none =>
      rw [e] at h
      cases h
    | some y =>
      rw [e] at h
      refine catL_all hR (fun z hz => ?_) h
      rcases List.mem_append.mp hz with w | w
      · exact ha z w
      · exact hR _ (rowA_mem e) z w
theorem bad_sm {ps : List DP} {us : List Str} (h : ∀ z ∈ us, (deskOf ps z).isSome = true) : bad ps us = none := bad_no fun j y hj => h y (List.mem_of_getElem? hj)
section
variable {P : Program} {w : World} {K : PySem.W.Frag} {mg : Str → Option Value} {base : Heap}
def spLooks (K : PySem.W.Frag) (CB : Addr) : Sp := fun vs H Q _ => ∃ (p pr d a : Addr) (cs : List CA) (ps : List DP) (ks : List Str) (R : List RA), vs = [.ref p, .ref pr, .ref d] ∧ BookAt K CB H p a cs ∧ DealAt K H pr ps ∧ DOk ps ∧ IsDesks ps ks ∧ (∀ z ∈ ks, isName z = true) ∧ RowsAt K H d R ∧ RwOk cs ps R ∧
  ∀ H' v, Same H H' → LookV H' v (looksL ps ks R cs (srt (R.map (·.1)))) → Q v H'
abbrev nLo : List Str := ["book", "dealing", "rows", "view", "stage", "k", "parts"]
theorem scLo : FnScope nLo ["book", "dealing", "rows"] (defScope sLooksBy) := ⟨rfl, rfl, rfl, by decide +kernel, rfl, by decide +kernel, by decide +kernel⟩
theorem ok_looks {f C CB fP fE fO fA fW fJ : Addr} {fd fdP fdE fdO fdA fdW fdJ : FuncData} (F : Fun K "looks_by" "looks_by" sLooksBy f fd) (N : Nones mg) (B : BkC K mg CB) (G_plain : FnOk P w K mg base CX0 3 fP fdP ["book"] (spPln K CB)) (C_plain : CallC K mg "plain" ["book"] fP fdP)
    (GM_is_end : FnOk P w K mg base CX0 1 fE fdE ["self", "stage"] (spBkIsEnd K CB)) (bM_is_end : Binds K fdE ["self", "stage"] []) (m_is_end : Meth K CB "is_end" fE) (G_steps_out : FnOk P w K mg base CX0 2 fO fdO ["book", "stage"] (spStepsOut K CB)) (C_steps_out : CallC K mg "steps_out" ["book", "stage"] fO fdO)
    (G_all_in : FnOk P w K mg base CX0 1 fA fdA ["parts", "table"] (spAllIn K)) (C_all_in : CallC K mg "all_in" ["parts", "table"] fA fdA) (G_within_by : FnOk P w K mg base (L2.CX P w) 5 fW fdW ["dealing", "u", "v"] (spBy K C withinB)) (C_within_by : CallC K mg "within_by" ["dealing", "u", "v"] fW fdW)
    (G_joined_row : FnOk P w K mg base CX0 2 fJ fdJ ["book", "view", "rows", "stage", "k"] (spJoin K CB)) (C_joined_row : CallC K mg "joined_row" ["book", "view", "rows", "stage", "k"] fJ fdJ) : FnOk P w K mg base CX0 6 f fd ["book", "dealing", "rows"] (spLooks K CB) := by
  refine F.ok scLo (fun vs H Q E h => ?_) (fun cdv A outer s0 H vs Q E hr h => ?_)
  · obtain ⟨p, pr, d, a, cs, ps, ks, R, rfl, _⟩ := h
    rfl
  · obtain ⟨p, pr, d, a, cs, ps, ks, R, rfl, hB, hD, dok, isd, knm, hR, rok, q⟩ := h
    refine ⟨_, pss_cons (ps_set (i := 3) scLo.nd rfl (Or.inl rfl) (pe_call G_plain (hr.mono (by decide)) (by rfl) C_plain.g C_plain.kp C_plain.b .nil pass0 (pa_cons (pv 0) pa_nil)))
      (pss_cons (ps_for PassesOwn.never rfl (pi_list (pe_callB (Ka.cr_sortT rfl hr.units) (by rfl) N.sorted (by decide +kernel) (pa_cons (pv 2) pa_nil))) (pg_name (i := 4) scLo.nd rfl (Or.inl rfl))
        (pss_cons (ps_if (PW.pt (pw_and (pt_val (pe_meth (pv 0) B.cl m_is_end GM_is_end (hr.mono (by decide)) bM_is_end .nil pass0 (pa_cons (pv 4) pa_nil))) (pw_and1 (pt_cmpR (op_neD hr.units) (pe_dget (hu_of hr) (pv 2) (pv 4) (fun _ _ => rfl)) (pe_tup pa_nil) (nomark _))))) (pss_one (ps_ret (pe_tup (pa_cons (pv 4) (pa_cons (pe_un un_neg pe_int) pa_nil))))) pss_nil)
        (pss_one (ps_for PassesOwn.never rfl (pi_list (pe_call G_steps_out (hr.mono (by decide)) (by rfl) C_steps_out.g C_steps_out.kp C_steps_out.b .nil pass0 (pa_cons (pv 0) (pa_cons (pv 4) pa_nil)))) (pg_tup rfl (pgs_cons (pg_name (i := 5) scLo.nd rfl (Or.inl rfl)) (pgs_cons (pg_name (i := 6) scLo.nd rfl (Or.inl rfl)) pgs_nil)))
          (pss_one (ps_if (PW.pt (pw_and (pt_val (pe_call G_all_in (hr.mono (by decide)) (by rfl) C_all_in.g C_all_in.kp C_all_in.b .nil pass0 (pa_cons (pv 6) (pa_cons (pv 2) pa_nil)))) (pw_and1 (pt_not (pt_val (pe_call G_within_by (hr.mono (by decide)) (by rfl) C_within_by.g C_within_by.kp C_within_by.b .nil (E := fun _ _ _ => False) (passes_call LamX.takes0 (fun _ _ _ _ h => h)) (pa_cons (pv 1) (pa_cons (pe_dget (hu_of hr) (pv 2) (pv 4) (fun _ _ => rfl)) (pa_cons (pe_call G_joined_row (hr.mono (by decide)) (by rfl) C_joined_row.g C_joined_row.kp C_joined_row.b .nil pass0 (pa_cons (pv 0) (pa_cons (pv 3) (pa_cons (pv 2) (pa_cons (pv 4) (pa_cons (pv 5) pa_nil)))))) pa_nil))))))))) (pss_one (ps_ret (pe_tup (pa_cons (pv 4) (pa_cons (pv 5) pa_nil))))) pss_nil))))))
      (pss_one (ps_ret pe_non))), ?_⟩
    obtain ⟨dx, fs, P1, S1, E1, L1, S, hp, L, hC, ok, _⟩ := id hB
    refine ⟨_, rfl, p, a, cs, rfl, hB, fun H1 v ds s1 n1 dperm dso hV => ?_⟩
    have dn : ds.Nodup := dperm.nodup_iff.mpr (uniq_nd _)
    have ds_in : ∀ c ∈ cs, ∀ s ∈ c.ss, s.2.call = false → s.2.nm ∈ ds := fun c mc s ms hcf => by
      rw [dperm.mem_iff, mem_uniq]
      exact List.mem_flatMap.mpr ⟨c, mc, List.mem_map.mpr ⟨s, List.mem_filter.mpr ⟨ms, by simp [hcf]⟩, rfl⟩⟩
    refine ⟨_, rfl, d, rowKV R, rfl, Rd.mono hR.d s1, fun x hx y hy => ?_, fun x hx => ?_, fun rs l hrs hat nl => ?_⟩
    · obtain ⟨t, _, rfl⟩ := List.mem_map.mp hx
      obtain ⟨u, _, rfl⟩ := List.mem_map.mp hy
      simp [Ka.keysD, stK, Ka.keyD, PySem.W.alike, PySem.W.alikeAll]
    · obtain ⟨t, _, rfl⟩ := List.mem_map.mp hx
      simp [stK]
    have hkm : (rowKV R).map (·.1) = (R.map (·.1)).map stK := by
      unfold rowKV
      rw [List.map_map, List.map_map]
      rfl
    rw [hkm, ← srt_keys] at hrs
    have s2 := same_new (o := .lst (rs.map fun r => V.ref r.1)) nl
    have el : upd H1 l (.lst (rs.map fun r => V.ref r.1)) l = some (.lst (rs.map fun r => V.ref r.1)) := upd_same
    have hat := fun r hr => s2 _ _ (hat r hr)
    have hV := hV.mono s2
    have s12 := s1.trans s2
    generalize upd H1 l (.lst (rs.map fun r => V.ref r.1)) = H2 at s12 el hat hV
    clear s1 s2 n1 nl
    have smem : ∀ x ∈ srt (R.map (·.1)), x ∈ R.map (·.1) := fun x hx => List.mem_mergeSort.mp hx
    have slen : rs.length = (srt (R.map (·.1))).length := by
      have := congrArg List.length hrs
      rwa [List.length_map, List.length_map] at this
    generalize srt (R.map (·.1)) = X at hrs smem slen q
    refine ⟨l, rfl, ⟨_, sqL_new el⟩, ?_⟩
    refine for_it (walk_list (K := K) (a := l) (xs := rs.map fun r => V.ref r.1)) (fun i σ Z => ∃ x4 x5 x6 : Option V, σ = [some (.ref p), some (.ref pr), some (.ref d), some (.ref v), x4, x5, x6] ∧ Same H2 Z ∧ looksL ps ks R cs X = looksL ps ks R cs (X.drop i)) ⟨none, none, none, rfl, fun _ _ e => e, rfl⟩ (fun i σ Z _ h => ?_) (fun i y σ Z Z' hi h yy => ?_) (fun σ Z h => ?_)
    · obtain ⟨_, _, _, _, sZ, _⟩ := h
      exact sqL_new (sZ _ _ el)
    · obtain ⟨rfl, hy⟩ := yy
      obtain ⟨r, hr1, rfl⟩ := get_map hy
      obtain ⟨x4, x5, x6, rfl, sZ, hl⟩ := h
      have hrl := lt_of_get hr1
      have hx : X[i]? = some (X[i]'(by omega)) := List.getElem?_eq_getElem _
      generalize X[i]'(by omega) = x at hx
      have hrx : r.2 = stK x := by
        have e1 : (rs.map (·.2))[i]? = some r.2 := by rw [List.getElem?_map, hr1]; rfl
        rw [hrs, List.getElem?_map, hx] at e1
        exact (Option.some.inj e1).symm
      obtain ⟨t, ht, etx⟩ := List.mem_map.mp (smem x (List.mem_of_getElem? hx))
      obtain ⟨c, mc, n1, n2⟩ := rok.key t ht
      rw [etx] at n1 n2
      have ex : (c.nm, x.2) = x := Prod.ext n1 rfl
      have sHZ := s12.trans sZ
      have hkey : Z' r.1 = some (.tup (stV (c.nm, x.2))) := by
        rw [ex]
        have := sZ _ _ (hat r (List.mem_of_getElem? hr1))
        rw [hrx] at this
        exact this
      obtain ⟨y, hrow⟩ : ∃ y, rowA R x = some y := by
        have h1 : (valV (rowKV R) (stK x)).isSome = true := by
          have hm : stK x ∈ (rowKV R).map (·.1) := by
            rw [hkm]
            exact List.mem_map.mpr ⟨x, List.mem_map.mpr ⟨t, ht, etx⟩, rfl⟩
          exact valV_some hm
        rw [valV_rows] at h1
        cases e : rowA R x with
        | none =>
          rw [e] at h1
          cases h1
        | some y => exact ⟨y, rfl⟩
      have hym := rowA_mem hrow
      have ynm := rok.nm _ hym
      have ybd := rok.bad _ hym
      have yln : y.2.length ≤ 40000 := rok.len _ hym
      have g1 : ∀ {G : Hp}, Same Z' G → DGet G d (.ref r.1) (some (.ref y.1)) := fun {G} s => .inr ⟨rowKV R, stK x, r.1, (Rd.mono hR.d (sHZ.trans s)), rfl, by rw [s _ _ hkey, ex]; rfl, by rw [valV_rows, hrow]; rfl⟩
      have hyS : ∀ {G : Hp}, Same Z' G → SqT K G y.1 (y.2.map V.str) := fun s => Same.sqT (sHZ.trans s) (hR.r _ hym)
      have hcr : crsOf cs x.1 = some c := by rw [← n1]; exact crsOf_mem ok.nd mc
      have hdrop := drop_of_get hx
      have hunf : looksL ps ks R cs (X.drop i) = if x.2 ∈ c.es ∧ y.2 ≠ [] then some (x, -1) else match badAt ps ks R c y.2 (offs c x.2) with
          | some j => some (x, (j : Int))
          | none => looksL ps ks R cs (X.drop (i + 1)) := by
        rw [hdrop, looksL, hcr, hrow]
      refine ⟨_, rfl, p, dx, fs, rfl, sHZ _ _ hp, L.no _ (by decide +kernel), _, rfl, p, a, r.1, cs, c, x.2, rfl, hB.mono sHZ, mc, hkey, ?_⟩
      refine ⟨_, rfl, ite2 (fun c0 => ?_) (fun c0 => iteF ?_)⟩
      · have he : x.2 ∈ c.es := of_decide_eq_true c0
        refine ⟨_, rfl, _, rfl, d, .ref y.1, rfl, g1 (fun _ _ e => e), Nat.zero_le _, fun e ne => ?_⟩
        have sG := same_new (o := .tup []) ne
        refine ⟨Ka.rowD y.2, Ka.rowD [], .tup (hyS sG) (dpRs _), .tup (sqT_new upd_same) .nil, shR ynm, by decide +kernel, ?_⟩
        rw [eqR]
        refine ⟨_, rfl, ite2 (fun c1 => ?_) (fun c1 => ?_)⟩
        · have hy0 : y.2 ≠ [] := fun z => by rw [z] at c1; simp at c1
          refine ⟨_, rfl, 1, rfl, smallE (by show 2 ≤ 1000000; decide), fun q3 n3 => ?_⟩
          have s3 := same_new (o := .tup [V.ref r.1, V.int (-1)]) n3
          refine q _ (.ref q3) ((sHZ.trans sG).trans s3) ?_
          rw [hl, hunf, if_pos ⟨he, hy0⟩]
          exact ⟨q3, r.1, rfl, upd_same, by rw [← ex]; exact s3 _ _ (sG _ _ hkey)⟩
        · have hy0 : y.2 = [] := by simpa using c1
          have hno : ¬ (x.2 ∈ c.es ∧ y.2 ≠ []) := fun z => z.2 hy0
          generalize upd Z' e (.tup []) = G0 at sG
          refine ⟨_, rfl, _, rfl, p, a, r.1, cs, c, x.2, rfl, hB.mono (sHZ.trans sG), mc, n2, sG _ _ hkey, fun G1 l1 sG1 nl1 out => ?_⟩
          have s1G := sG.trans sG1
          obtain ⟨Lo, o1, o2, o3⟩ := out
          refine ⟨l1, rfl, ⟨_, sqL_new o1⟩, ?_⟩
          refine for_it (walk_list (K := K) (a := l1) (xs := Lo.map fun t => V.ref t.1)) (fun j σ Y => ∃ x5 x6 : Option V, σ = [some (.ref p), some (.ref pr), some (.ref d), some (.ref v), some (.ref r.1), x5, x6] ∧ Same G1 Y ∧ badAt ps ks R c y.2 (offs c x.2) = badAt ps ks R c y.2 ((offs c x.2).drop j)) ⟨x5, x6, rfl, fun _ _ e => e, rfl⟩ (fun j σ Y _ h => ?_) (fun j z σ Y Y' hj h yy => ?_) (fun σ Y h => ?_)
          · obtain ⟨_, _, _, sY, _⟩ := h
            exact sqL_new (sY _ _ o1)
          · obtain ⟨rfl, hz⟩ := yy
            obtain ⟨t, ht, rfl⟩ := get_map hz
            obtain ⟨x5, x6, rfl, sY, hbad⟩ := h
            have hoj : (offs c x.2)[j]? = some t.2.1 := by rw [← o2, List.getElem?_map, ht]; rfl
            obtain ⟨st, hst, hsn⟩ := offs_lt (List.mem_of_getElem? hoj)
            obtain ⟨t1, t2⟩ := o3 t (List.mem_of_getElem? ht)
            have hdo := drop_of_get hoj
            have sYt := s1G.trans sY
            have hstm := List.mem_of_getElem? hst
            refine ⟨t.1, _, rfl, sqT_new (sY _ _ t1), rfl, _, _, rfl, _, _, rfl, rfl, ?_⟩
            refine ⟨_, rfl, _, rfl, t.2.2, d, partsS c.nm st.2, rowKV R, rfl, (t2 st hst).mono sY, Nat.le_trans (partsS_len _ _) (by decide), Rd.mono hR.d (sHZ.trans sYt), fun Y1 sY1 => ?_⟩
            have hall : ((partsS c.nm st.2).all fun x => (valV (rowKV R) (stK x)).isSome) = (joinR R c.nm st.2).isSome := by
              rw [joinR, catL_has]
              congr 1
              funext x
              rw [valV_rows]
              cases rowA R x <;> rfl
            rw [hall]
            have sY1t := sYt.trans sY1
            cases hjr : joinR R c.nm st.2 with
            | none =>
              refine ⟨_, rfl, iteNo rfl (iteF ?_)⟩
              exact ⟨_, _, rfl, sY.trans sY1, by rw [hbad, hdo, badAt, hst]; dsimp only; rw [hjr]⟩
            | some row =>
              have rnm : ∀ z ∈ row, isName z = true := catL_all rok.nm (fun z hz => by
                unfold initR at hz
                split at hz
                · cases hz
                · rw [List.mem_singleton.mp hz]
                  exact ((ok.ok c mc).sl st hstm).2.2) hjr
              have rbd : ∀ z ∈ row, (deskOf ps z).isSome = true := catL_all rok.bad (fun z hz => by
                unfold initR at hz
                split at hz
                · cases hz
                · rename_i hcf
                  rw [List.mem_singleton.mp hz]
                  exact rok.dd c mc st hstm (by simpa using hcf)) hjr
              refine ⟨_, rfl, iteYes rfl ?_⟩
              refine ⟨_, rfl, _, rfl, _, rfl, d, .ref y.1, rfl, g1 sY1t, _, rfl, _, rfl, _, rfl, _, rfl, _, rfl, p, a, v, d, r.1, cs, c, x.2, t.2.1, st, R, ds, row, rfl, hB.mono (sHZ.trans sY1t), mc, sY1t _ _ hkey, hst, hV.mono (sZ.trans sY1t), dn, fun hcf => ds_in c mc st hstm hcf, hR.mono (sHZ.trans sY1t), rok.len, hjr, fun Y2 q2 sY2 hq2 lq2 => ?_⟩
              have sY2t := sY1t.trans sY2
              refine ⟨pr, y.1, q2, ps, y.2, row, ks, rfl, hD.mono (sHZ.trans sY2t), dok, isd, knm, hyS sY2t, by omega, ynm, hq2, lq2, rnm, fun _ _ Y3 sY3 => ?_, fun i hi => (by rw [bad_sm ybd] at hi; cases hi), fun i _ hi => (by rw [bad_sm rbd] at hi; cases hi)⟩
              have sY3t := sY2t.trans sY3
              refine ⟨_, rfl, ?_⟩
              cases hw : withinB ps y.2 row ks with
              | true =>
                refine iteF ?_
                exact ⟨_, _, rfl, ((sY.trans sY1).trans sY2).trans sY3, by rw [hbad, hdo, badAt, hst]; dsimp only; rw [hjr]; dsimp only; rw [if_pos hw]⟩
              | false =>
                refine iteT ?_
                refine ⟨_, rfl, _, rfl, smallE (by show 2 ≤ 1000000; decide), fun q3 n3 => ?_⟩
                have hres : looksL ps ks R cs X = some (x, (t.2.1 : Int)) := by
                  rw [hl, hunf, if_neg hno, hbad, hdo, badAt, hst]
                  dsimp only
                  rw [hjr]
                  dsimp only
                  rw [if_neg (by rw [hw]; decide)]
                have s3 := same_new (o := .tup [V.ref r.1, V.int (t.2.1 : Nat)]) n3
                refine q _ (.ref q3) ((sHZ.trans sY3t).trans s3) ?_
                rw [hres]
                exact ⟨q3, r.1, rfl, upd_same, by rw [← ex]; exact s3 _ _ (sY3t _ _ hkey)⟩
          · obtain ⟨x5, x6, rfl, sY, hbad⟩ := h
            refine ⟨_, _, _, rfl, (sZ.trans s1G).trans sY, ?_⟩
            rw [hl, hunf, if_neg hno, hbad, List.length_map, List.drop_eq_nil_of_le (by rw [← o2, List.length_map]; exact Nat.le_refl _)]
            rfl
      · have hno : ¬ (x.2 ∈ c.es ∧ y.2 ≠ []) := fun z => c0 (decide_eq_true z.1)
        have sG : Same Z' Z' := fun _ _ e => e
        refine ⟨_, rfl, _, rfl, p, a, r.1, cs, c, x.2, rfl, hB.mono (sHZ.trans sG), mc, n2, sG _ _ hkey, fun G1 l1 sG1 nl1 out => ?_⟩
        have s1G := sG.trans sG1
        obtain ⟨Lo, o1, o2, o3⟩ := out
        refine ⟨l1, rfl, ⟨_, sqL_new o1⟩, ?_⟩
        refine for_it (walk_list (K := K) (a := l1) (xs := Lo.map fun t => V.ref t.1)) (fun j σ Y => ∃ x5 x6 : Option V, σ = [some (.ref p), some (.ref pr), some (.ref d), some (.ref v), some (.ref r.1), x5, x6] ∧ Same G1 Y ∧ badAt ps ks R c y.2 (offs c x.2) = badAt ps ks R c y.2 ((offs c x.2).drop j)) ⟨x5, x6, rfl, fun _ _ e => e, rfl⟩ (fun j σ Y _ h => ?_) (fun j z σ Y Y' hj h yy => ?_) (fun σ Y h => ?_)
        · obtain ⟨_, _, _, sY, _⟩ := h
          exact sqL_new (sY _ _ o1)
        · obtain ⟨rfl, hz⟩ := yy
          obtain ⟨t, ht, rfl⟩ := get_map hz
          obtain ⟨x5, x6, rfl, sY, hbad⟩ := h
          have hoj : (offs c x.2)[j]? = some t.2.1 := by rw [← o2, List.getElem?_map, ht]; rfl
          obtain ⟨st, hst, hsn⟩ := offs_lt (List.mem_of_getElem? hoj)
          obtain ⟨t1, t2⟩ := o3 t (List.mem_of_getElem? ht)
          have hdo := drop_of_get hoj
          have sYt := s1G.trans sY
          have hstm := List.mem_of_getElem? hst
          refine ⟨t.1, _, rfl, sqT_new (sY _ _ t1), rfl, _, _, rfl, _, _, rfl, rfl, ?_⟩
          refine ⟨_, rfl, _, rfl, t.2.2, d, partsS c.nm st.2, rowKV R, rfl, (t2 st hst).mono sY, Nat.le_trans (partsS_len _ _) (by decide), Rd.mono hR.d (sHZ.trans sYt), fun Y1 sY1 => ?_⟩
          have hall : ((partsS c.nm st.2).all fun x => (valV (rowKV R) (stK x)).isSome) = (joinR R c.nm st.2).isSome := by
            rw [joinR, catL_has]
            congr 1
            funext x
            rw [valV_rows]
            cases rowA R x <;> rfl
          rw [hall]
          have sY1t := sYt.trans sY1
          cases hjr : joinR R c.nm st.2 with
          | none =>
            refine ⟨_, rfl, iteNo rfl (iteF ?_)⟩
            exact ⟨_, _, rfl, sY.trans sY1, by rw [hbad, hdo, badAt, hst]; dsimp only; rw [hjr]⟩
          | some row =>
            have rnm : ∀ z ∈ row, isName z = true := catL_all rok.nm (fun z hz => by
              unfold initR at hz
              split at hz
              · cases hz
              · rw [List.mem_singleton.mp hz]
                exact ((ok.ok c mc).sl st hstm).2.2) hjr
            have rbd : ∀ z ∈ row, (deskOf ps z).isSome = true := catL_all rok.bad (fun z hz => by
              unfold initR at hz
              split at hz
              · cases hz
              · rename_i hcf
                rw [List.mem_singleton.mp hz]
                exact rok.dd c mc st hstm (by simpa using hcf)) hjr
            refine ⟨_, rfl, iteYes rfl ?_⟩
            refine ⟨_, rfl, _, rfl, _, rfl, d, .ref y.1, rfl, g1 sY1t, _, rfl, _, rfl, _, rfl, _, rfl, _, rfl, p, a, v, d, r.1, cs, c, x.2, t.2.1, st, R, ds, row, rfl, hB.mono (sHZ.trans sY1t), mc, sY1t _ _ hkey, hst, hV.mono (sZ.trans sY1t), dn, fun hcf => ds_in c mc st hstm hcf, hR.mono (sHZ.trans sY1t), rok.len, hjr, fun Y2 q2 sY2 hq2 lq2 => ?_⟩
            have sY2t := sY1t.trans sY2
            refine ⟨pr, y.1, q2, ps, y.2, row, ks, rfl, hD.mono (sHZ.trans sY2t), dok, isd, knm, hyS sY2t, by omega, ynm, hq2, lq2, rnm, fun _ _ Y3 sY3 => ?_, fun i hi => (by rw [bad_sm ybd] at hi; cases hi), fun i _ hi => (by rw [bad_sm rbd] at hi; cases hi)⟩
            have sY3t := sY2t.trans sY3
            refine ⟨_, rfl, ?_⟩
            cases hw : withinB ps y.2 row ks with
            | true =>
              refine iteF ?_
              exact ⟨_, _, rfl, ((sY.trans sY1).trans sY2).trans sY3, by rw [hbad, hdo, badAt, hst]; dsimp only; rw [hjr]; dsimp only; rw [if_pos hw]⟩
            | false =>
              refine iteT ?_
              refine ⟨_, rfl, _, rfl, smallE (by show 2 ≤ 1000000; decide), fun q3 n3 => ?_⟩
              have hres : looksL ps ks R cs X = some (x, (t.2.1 : Int)) := by
                rw [hl, hunf, if_neg hno, hbad, hdo, badAt, hst]
                dsimp only
                rw [hjr]
                dsimp only
                rw [if_neg (by rw [hw]; decide)]
              have s3 := same_new (o := .tup [V.ref r.1, V.int (t.2.1 : Nat)]) n3
              refine q _ (.ref q3) ((sHZ.trans sY3t).trans s3) ?_
              rw [hres]
              exact ⟨q3, r.1, rfl, upd_same, by rw [← ex]; exact s3 _ _ (sY3t _ _ hkey)⟩
        · obtain ⟨x5, x6, rfl, sY, hbad⟩ := h
          refine ⟨_, _, _, rfl, (sZ.trans s1G).trans sY, ?_⟩
          rw [hl, hunf, if_neg hno, hbad, List.length_map, List.drop_eq_nil_of_le (by rw [← o2, List.length_map]; exact Nat.le_refl _)]
          rfl
    · obtain ⟨x4, x5, x6, rfl, sZ, hl⟩ := h
      rw [List.length_map, slen, List.drop_eq_nil_of_le (Nat.le_refl _)] at hl
      exact q Z .non (s12.trans sZ) (by rw [hl]; rfl)
end
end Kb
namespace Kb
open PySem PySem.Spec PyProof.Rows L2
/-! ### lists of made tuples -/
def MadeAt (H : Hp) (q : Addr) (xs : List (List V)) : Prop := ∃ L : List (Addr × List V), H q = some (.lst (L.map fun t => V.ref t.1)) ∧ L.map (·.2) = xs ∧ ∀ t ∈ L, H t.1 = some (.tup t.2)
theorem MadeAt.mono {H H' : Hp} {q : Addr} {xs : List (List V)} (s : Same H H') (h : MadeAt H q xs) : MadeAt H' q xs := by
  obtain ⟨L, h1, h2, h3⟩ := h
  exact ⟨L, s _ _ h1, h2, fun t ht => s _ _ (h3 t ht)⟩
def Tp (H1 : Hp) (D : Addr) (xs : List (List V)) (H : Hp) : Prop := Same H1 H ∧ MadeAt H D xs
theorem Tp.nil {H1 : Hp} {D : Addr} (nD : H1 D = none) : Tp H1 D [] (upd H1 D (.lst [])) := ⟨same_new nD, [], upd_same, rfl, fun t ht => nomatch ht⟩
theorem Tp.put {H1 H H2 : Hp} {D t0 : Addr} {xs : List (List V)} {y : List V} (h : Tp H1 D xs H) (nD : H1 D = none) (s : Same H H2) (nt : H2 t0 = none) (hl : xs.length < 1000000) :
    ∃ acc, (upd H2 t0 (.tup y)) D = some (.lst acc) ∧ acc.length < sizeLine ∧ Tp H1 D (xs ++ [y]) (upd (upd H2 t0 (.tup y)) D (.lst (acc ++ [.ref t0]))) := by
  obtain ⟨sH, L, h1, h2, h3⟩ := h
  have st := same_new (o := .tup y) nt
  have et : upd H2 t0 (.tup y) t0 = some (.tup y) := upd_same
  have sZ := s.trans st
  generalize upd H2 t0 (.tup y) = Z at st et sZ
  have eD := sZ _ _ h1
  have lL : L.length < 1000000 := by
    have := congrArg List.length h2
    rw [List.length_map] at this
    omega
  have nDt : ∀ {c : Addr} {xs : List V}, Z c = some (.tup xs) → upd Z D (.lst (L.map (fun t => V.ref t.1) ++ [V.ref t0])) c = some (.tup xs) := fun {c xs} e => by
    rw [upd_ne]
    · exact e
    · intro w
      rw [w, eD] at e
      cases e
  refine ⟨_, eD, by rw [List.length_map]; exact small (by omega), fun c u e => ?_, L ++ [(t0, y)], ?_, ?_, fun t ht => ?_⟩
  · rw [upd_ne (ne_of_none e nD)]
    exact sZ _ _ (sH _ _ e)
  · rw [upd_same, List.map_append]
    rfl
  · rw [List.map_append, h2]
    rfl
  · rcases List.mem_append.mp ht with z | z
    · exact nDt (sZ _ _ (h3 t z))
    · rw [List.mem_singleton.mp z]
      exact nDt et
theorem take_put {α : Type} {l : List α} {i : Nat} {y : α} (h : l[i]? = some y) : l.take (i + 1) = l.take i ++ [y] := take_of_get h
/-- stages in a list -/
def StLs (H : Hp) (q : Addr) (xs : List Stg) : Prop := ∃ L : List (Addr × Stg), H q = some (.lst (L.map fun t => V.ref t.1)) ∧ L.map (·.2) = xs ∧ ∀ t ∈ L, H t.1 = some (.tup (stV t.2))
theorem StLs.mono {H H' : Hp} {q : Addr} {xs : List Stg} (s : Same H H') (h : StLs H q xs) : StLs H' q xs := by
  obtain ⟨L, h1, h2, h3⟩ := h
  exact ⟨L, s _ _ h1, h2, fun t ht => s _ _ (h3 t ht)⟩
theorem merge_nd : ∀ (qs ps : List (L2.Key × V)), ((ps ++ qs).map (·.1)).Nodup → mergeK ps qs = ps ++ qs
  | [], ps, _ => by rw [List.append_nil]; rfl
  | q :: qs, ps, nd => by
    have e : mergeK ps (q :: qs) = mergeK (putK ps q.1 q.2) qs := rfl
    have e2 : putK ps q.1 q.2 = ps ++ [q] := by
      refine putK_new (fun z => ?_)
      rw [List.map_append, List.map_cons, List.nodup_append] at nd
      exact nd.2.2 _ z _ List.mem_cons_self rfl
    rw [e, e2, merge_nd qs (ps ++ [q]) (by rw [List.append_assoc]; exact nd), List.append_assoc]
    rfl
theorem paired_of {K : PySem.W.Frag} {H : Hp} : ∀ {L : List (Addr × List V)} {kvs : List (L2.Key × V)}, L.map (·.2) = kvs.map (fun kv => [kV kv.1, kv.2]) → (∀ t ∈ L, H t.1 = some (.tup t.2)) → Paired (fun (p : Addr) (kv : L2.Key × V) => SqT K H p [kV kv.1, kv.2]) (L.map (·.1)) kvs
  | [], [], _, _ => .nil
  | [], _ :: _, e, _ => nomatch e
  | _ :: _, [], e, _ => nomatch e
  | t :: L, kv :: kvs, e, h => by
    rw [List.map_cons, List.map_cons] at e
    injection e with e1 e2
    refine .cons ?_ (paired_of e2 fun q hq => h q (List.mem_cons_of_mem _ hq))
    rw [← e1]
    exact sqT_new (h t List.mem_cons_self)
end Kb
namespace Kb
open PySem PySem.Spec PyProof.Rows L2
/-! ### the law's own: courses by names, what a step names, what leaves a stage -/
def nmKV (cs : List CA) : List (L2.Key × V) := cs.map fun c => (Sum.inr c.nm, V.ref c.a)
theorem nmKV_nd {cs : List CA} (nd : (cs.map (·.nm)).Nodup) : ((nmKV cs).map (·.1)).Nodup := by
  unfold nmKV
  rw [List.map_map]
  unfold List.Nodup at nd ⊢
  rw [List.pairwise_map] at nd ⊢
  exact nd.imp fun ne e => ne (Sum.inr.inj e)
theorem nm_at {cs : List CA} (nd : (cs.map (·.nm)).Nodup) {c : CA} (h : c ∈ cs) : valV (nmKV cs) (Sum.inr c.nm : L2.Key) = some (.ref c.a) :=
  valV_mem (nmKV_nd nd) (List.mem_map.mpr ⟨c, h, rfl⟩)
section
variable {P : Program} {w : World} {K : PySem.W.Frag} {mg : Str → Option Value} {base : Heap}
def spLawByName (K : PySem.W.Frag) : Sp := fun vs H Q _ => ∃ (a : Addr) (cs : List CA), vs = [.ref a] ∧ CsAt K H a cs ∧ (cs.map (·.nm)).Nodup ∧ cs.length ≤ 1000 ∧ ∀ H' q, Same H H' → H q = none → H' q = some (.dK (nmKV cs)) → Q (.ref q) H'
abbrev nLn : List Str := ["courses", "course"]
theorem scLn : FnScope nLn ["courses"] (defScope sLawByName) := ⟨rfl, rfl, rfl, by decide +kernel, rfl, by decide +kernel, by decide +kernel⟩
theorem ok_lawbyname {f : Addr} {fd : FuncData} (F : Fun K "_law_by_name" "_law_by_name" sLawByName f fd) (N : Nones mg) (ndict : mg "dict" = none) : FnOk P w K mg base CX0 1 f fd ["courses"] (spLawByName K) := by
  refine F.ok scLn (fun vs H Q E h => ?_) (fun cdv A outer s H vs Q E hr h => ?_)
  · obtain ⟨a, cs, rfl, _⟩ := h
    rfl
  · obtain ⟨a, cs, rfl, hC, nd, lc, q⟩ := h
    refine ⟨_, pss_one (ps_ret (pe_callTy (call_dictP rfl) (by rfl) ndict (by decide +kernel) (pa_cons (pe_lc (own := [("course", 1)]) (g := gName 1) (tt := tYes) rfl scLn.nd (pi_tup (pv 0)) (blkOk_by (own := [("course", 1)]) (N := nLn) (sc := defScope sLawByName) (by decide +kernel)) (fun _ _ _ _ _ => (pg_name (i := 1) scLn.nd rfl (Or.inl rfl))) (fun _ _ _ _ _ => pts_nil) (fun _ _ _ _ _ => (pe_tup (pa_cons (pe_ix (ixT_at (K := K) rfl) (pv 1) pe_int (fun _ _ => rfl)) (pa_cons (pv 1) pa_nil))))) pa_nil))), ?_⟩
    refine ⟨_, rfl, a, rfl, ⟨_, hC.1⟩, fun D nD => ?_⟩
    refine lc_it (walk_tup (K := K) (a := a) (xs := cs.map fun c => V.ref c.a)) (fun i G => Tp H D ((cs.map fun c => [V.str c.nm, V.ref c.a]).take i) G) (Tp.nil nD) (fun _ _ _ h => Same.sqT h.1 hC.1) (fun i x G G' hi h y => ?_) (fun G h => ?_)
    · obtain ⟨rfl, hy⟩ := y
      obtain ⟨c, hc, rfl⟩ := get_map hy
      have cc := hC.2 c (List.mem_of_getElem? hc)
      refine ⟨rfl, .ref c.a, rfl, c.a, _, _, .str c.nm, rfl, rfl, Same.sqT h.1 cc.t, rfl, .ref c.a, rfl, smallE (by show 2 ≤ 1000000; decide), fun t0 nt => ?_⟩
      obtain ⟨acc, e1, e2, e3⟩ := h.put nD (fun _ _ e => e) (y := [V.str c.nm, V.ref c.a]) nt (by rw [List.length_take, List.length_map]; omega)
      refine ⟨acc, e1, e2, ?_⟩
      rw [take_put (by rw [List.getElem?_map, hc]; rfl)]
      exact e3
    · obtain ⟨sG, L, h1, h2, h3⟩ := h
      rw [List.length_map, List.take_of_length_le (by rw [List.length_map]; exact Nat.le_refl _)] at h2
      refine ⟨D, L.map (·.1), nmKV cs, rfl, sqL_new (by rw [List.map_map]; exact h1), paired_of (by rw [h2]; unfold nmKV; rw [List.map_map]; rfl) h3, fun p np => ?_⟩
      rw [merge_nd (nmKV cs) [] (nmKV_nd nd), List.nil_append]
      exact q _ p (sG.trans (same_new np)) (sG.free np) upd_same
/-! ### what a step names -/
def spLawNamed : Sp := fun vs H Q _ => ∃ (b t : Addr) (nm : Str) (k : Nat) (s : Stp), vs = [.ref b, .ref t] ∧ H b = some (.tup (stV (nm, k))) ∧ H t = some (.tup (stpV s)) ∧ ∀ H' q, Same H H' → H q = none → StLs H' q (partsS nm s) → Q (.ref q) H'
abbrev nLd : List Str := ["stage", "step"]
theorem scLd : FnScope nLd ["stage", "step"] (defScope sLawNamed) := ⟨rfl, rfl, rfl, by decide +kernel, rfl, by decide +kernel, by decide +kernel⟩
theorem ok_lawnamed {f : Addr} {fd : FuncData} (F : Fun K "_law_named" "_law_named" sLawNamed f fd) : FnOk P w K mg base CX0 1 f fd ["stage", "step"] spLawNamed := by
  refine F.ok scLd (fun vs H Q E h => ?_) (fun cdv A outer s H vs Q E hr h => ?_)
  · obtain ⟨b, t, nm, k, s, rfl, _⟩ := h
    rfl
  · obtain ⟨b, t, nm, k, s, rfl, hb, ht, q⟩ := h
    refine ⟨_, pss_one (ps_ret (pe_ifExp (pt_cmpR op_eq (pe_ix ix_tup (pv 1) pe_int (fun _ _ => rfl)) pe_str (nomark _)) (pe_lst (pa_cons (pe_tup (pa_cons (pe_ix ix_tup (pv 0) pe_int (fun _ _ => rfl)) (pa_cons (pe_ix ix_tup (pv 1) pe_int (fun _ _ => rfl)) pa_nil))) pa_nil)) (pe_lst (pa_cons (pe_tup (pa_cons (pe_ix ix_tup (pv 1) pe_int (fun _ _ => rfl)) (pa_cons pe_int pa_nil))) (pa_cons (pe_tup (pa_cons (pe_ix ix_tup (pv 0) pe_int (fun _ _ => rfl)) (pa_cons (pe_ix ix_tup (pv 1) pe_int (fun _ _ => rfl)) pa_nil))) pa_nil))))), ?_⟩
    refine ⟨_, rfl, t, _, _, .str (kindS s.call), rfl, rfl, sqT_new ht, rfl, rfl, _, rfl, ?_⟩
    rw [kind_do]
    cases hc : s.call with
    | false =>
      refine iteYes rfl ?_
      refine ⟨_, rfl, b, _, _, .str nm, rfl, rfl, sqT_new hb, rfl, _, rfl, t, _, _, .int (s.o : Int), rfl, rfl, sqT_new ht, rfl, smallE (by show 2 ≤ 1000000; decide), fun e1 n1 => ⟨smallE (by show 1 ≤ 1000000; decide), fun e2 n2 => ?_⟩⟩
      have s1 := same_new (o := .tup [V.str nm, V.int (s.o : Int)]) n1
      have s2 := same_new (o := .lst [V.ref e1]) n2
      refine q _ e2 (s1.trans s2) (s1.free n2) ⟨[(e1, nm, s.o)], upd_same, by rw [partsS, hc]; rfl, fun t ht => ?_⟩
      rw [List.mem_singleton.mp ht]
      exact s2 _ _ upd_same
    | true =>
      refine iteNo rfl ?_
      refine ⟨_, rfl, t, _, _, .str s.nm, rfl, rfl, sqT_new ht, rfl, smallE (by show 2 ≤ 1000000; decide), fun e1 n1 => ?_⟩
      have s1 := same_new (o := .tup [V.str s.nm, V.int 0]) n1
      refine ⟨_, rfl, b, _, _, .str nm, rfl, rfl, sqT_new (s1 _ _ hb), rfl, _, rfl, t, _, _, .int (s.o : Int), rfl, rfl, sqT_new (s1 _ _ ht), rfl, smallE (by show 2 ≤ 1000000; decide), fun e2 n2 => ⟨smallE (by show 2 ≤ 1000000; decide), fun e3 n3 => ?_⟩⟩
      have s2 := same_new (o := .tup [V.str nm, V.int (s.o : Int)]) n2
      have s3 := same_new (o := .lst [V.ref e1, V.ref e2]) n3
      refine q _ e3 ((s1.trans s2).trans s3) ((s1.trans s2).free n3) ⟨[(e1, s.nm, 0), (e2, nm, s.o)], upd_same, by rw [partsS, hc]; rfl, fun t ht => ?_⟩
      rcases List.mem_cons.mp ht with e | ht
      · rw [e]
        exact s3 _ _ (s2 _ _ upd_same)
      · rw [List.mem_singleton.mp ht]
        exact s3 _ _ upd_same
/-! ### what leaves a stage -/
def offV (c : CA) (js : List Nat) : List (List V) := js.map fun (j : Nat) => [V.int (j : Int), V.ref ((c.ss[j]?.map (·.1)).getD 0)]
def spLawOff (K : PySem.W.Frag) : Sp := fun vs H Q _ => ∃ (a b : Addr) (cs : List CA) (c : CA) (k : Nat), vs = [.ref a, .ref b] ∧ CsAt K H a cs ∧ CsOk cs ∧ c ∈ cs ∧ H b = some (.tup (stV (c.nm, k))) ∧ ∀ H' q, Same H H' → H q = none → MadeAt H' q (offV c (offs c k)) → Q (.ref q) H'
abbrev nLg : List Str := ["courses", "stage", "steps", "number"]
theorem scLg : FnScope nLg ["courses", "stage"] (defScope sLawOff) := ⟨rfl, rfl, rfl, by decide +kernel, rfl, by decide +kernel, by decide +kernel⟩
theorem ok_lawoff {f fN : Addr} {fd fdN : FuncData} (F : Fun K "_law_off" "_law_off" sLawOff f fd) (N : Nones mg) (G__law_by_name : FnOk P w K mg base CX0 1 fN fdN ["courses"] (spLawByName K)) (C__law_by_name : CallC K mg "_law_by_name" ["courses"] fN fdN) : FnOk P w K mg base CX0 2 f fd ["courses", "stage"] (spLawOff K) := by
  refine F.ok scLg (fun vs H Q E h => ?_) (fun cdv A outer s H vs Q E hr h => ?_)
  · obtain ⟨a, b, cs, c, k, rfl, _⟩ := h
    rfl
  · obtain ⟨a, b, cs, c, k, rfl, hC, ok, mc, hb, q⟩ := h
    refine ⟨_, pss_cons (ps_set (i := 2) scLg.nd rfl (Or.inr rfl) (pe_ix ix_tup (pe_dget (hu_of hr) (pe_call G__law_by_name (hr.mono (by decide)) (by rfl) C__law_by_name.g C__law_by_name.kp C__law_by_name.b .nil pass0 (pa_cons (pv 0) pa_nil)) (pe_ix ix_tup (pv 1) pe_int (fun _ _ => rfl)) (fun _ _ => rfl)) pe_int (fun _ _ => rfl)))
      (pss_one (ps_ret (pe_lc (own := [("number", 3)]) (g := gName 3) rfl scLg.nd (pi_range1 (by rfl) N.range (pa_cons (pe_callB call_len_seq (by rfl) N.len PySem.boot_len (pa_cons (pv 2) pa_nil)) pa_nil)) (blkOk_by (own := [("number", 3)]) (N := nLg) (sc := defScope sLawOff) (by decide +kernel)) (fun _ _ _ _ _ => (pg_name (i := 3) scLg.nd rfl (Or.inl rfl))) (fun _ _ _ _ _ => pts_one (pt_cmpR op_eq (pe_ix (ixT_at (K := K) rfl) (pe_ix (ixT_at (K := K) rfl) (pv 2) (pv 3) (fun _ _ => rfl)) pe_int (fun _ _ => rfl)) (pe_ix (ixT_at (K := K) rfl) (pv 1) pe_int (fun _ _ => rfl)) (nomark _))) (fun _ _ _ _ _ => (pe_tup (pa_cons (pv 3) (pa_cons (pe_ix (ixT_at (K := K) rfl) (pv 2) (pv 3) (fun _ _ => rfl)) pa_nil))))))), ?_⟩
    refine ⟨_, rfl, a, cs, rfl, hC, ok.nd, by have := ok.n8; omega, fun H1 d s1 nd1 e1 => ?_⟩
    have cc := (hC.2 c mc).mono s1
    have hb1 := s1 _ _ hb
    have g1 : DGet H1 d (.str c.nm) (some (.ref c.a)) := by
      have := DGet.k (k := Sum.inr c.nm) e1
      rw [nm_at ok.nd mc] at this
      exact this
    refine ⟨_, rfl, b, _, _, .str c.nm, rfl, rfl, sqT_new hb1, rfl, d, .ref c.a, rfl, g1, c.a, _, _, .ref c.sa, rfl, rfl, cc.t, rfl, ?_⟩
    have osz := (ok.ok c mc).sz
    refine ⟨_, rfl, c.sa, _, rfl, .inr cc.s, (c.ss.length : Int), (by rw [List.length_map]), by omega, by omega, fun D nD => ?_⟩
    rw [show ((c.ss.length : Int)).toNat = c.ss.length from rfl]
    refine lc_it walk_r0 (fun i G => Tp H1 D (offV c (offsTo c.ss i k)) G) (Tp.nil nD) (fun _ _ _ _ => True.intro) (fun i x G G' hi h y => ?_) (fun G h => ?_)
    · obtain ⟨rfl, rfl⟩ := y
      obtain ⟨p, hp⟩ : ∃ p, c.ss[i]? = some p := ⟨c.ss[i]'hi, List.getElem?_eq_getElem hi⟩
      have hsv : (c.ss.map fun p => V.ref p.1)[i]? = some (.ref p.1) := by rw [List.getElem?_map, hp]; rfl
      have hst := cc.p p (List.mem_of_getElem? hp)
      refine ⟨rfl, _, rfl, .int (i : Nat), rfl, c.sa, _, _, .ref p.1, rfl, rfl, Same.sqT h.1 cc.s, atI_nat hsv, p.1, _, _, .int (p.2.n : Int), rfl, rfl, sqT_new (h.1 _ _ hst), rfl, .ref b, rfl, b, _, _, .int (k : Int), rfl, rfl, sqT_new (h.1 _ _ hb1), rfl, rfl, _, rfl, ?_⟩
      have hoff := offsTo_succ hp k
      have lo : (offsTo c.ss i k).length ≤ 10000 := by
        have := List.length_filter_le (fun i => decide ((c.ss[i]?).map (·.2.n) = some k)) (List.range i)
        unfold offsTo
        rw [List.length_range] at this
        omega
      refine ite2 (fun e => ?_) (fun e => ?_)
      · have hk : p.2.n = k := by
          have e := of_decide_eq_true (p := V.int (p.2.n : Int) = V.int (k : Int)) e
          injection e with e
          omega
        refine ⟨.int (i : Nat), rfl, _, rfl, .int (i : Nat), rfl, c.sa, _, _, .ref p.1, rfl, rfl, Same.sqT h.1 cc.s, atI_nat hsv, smallE (by show 2 ≤ 1000000; decide), fun t0 nt => ?_⟩
        obtain ⟨acc, e1, e2, e3⟩ := h.put nD (fun _ _ e => e) (y := [V.int (i : Nat), V.ref p.1]) nt (by unfold offV; rw [List.length_map]; omega)
        refine ⟨acc, e1, e2, ?_⟩
        have : offV c (offsTo c.ss (i + 1) k) = offV c (offsTo c.ss i k) ++ [[V.int (i : Nat), V.ref p.1]] := by
          rw [hoff, if_pos hk]
          unfold offV
          rw [List.map_append, List.map_cons, hp]
          rfl
        rw [this]
        exact e3
      · have hk : ¬ p.2.n = k := by
          intro z
          rw [z] at e
          simp at e
        rw [hoff, if_neg hk, List.append_nil]
        exact h
    · rw [show offsTo c.ss c.ss.length k = offs c k from rfl] at h
      exact q G D (s1.trans h.1) (s1.free nD) h.2
end
end Kb
namespace Kb
open PySem PySem.Spec PyProof.Rows L2
/-! ### the texts of courses; what a step brings -/
def menuL (k : Nat) : List Str := match k with
  | 0 => ["A B|B A", "A", "B"]
  | 1 => ["A y B|-", "B|B A|C !", "A"]
  | 2 => ["y z|z y", "A|A C *", "B|C B"]
  | 3 => ["A B *|y", "B y A|A B", "C"]
  | 4 => ["y A|A y", "z|B z C", "-|A D *"]
  | _ => ["A x B|y", "C|z", "B !"]
section
variable {P : Program} {w : World} {K : PySem.W.Frag} {mg : Str → Option Value} {base : Heap}
def spLawMenu : Sp := fun vs H Q _ => ∃ k : Nat, vs = [.int (k : Int)] ∧ k < 6 ∧ ∀ q, H q = none → Q (.ref q) (upd H q (.lst ((menuL k).map V.str)))
abbrev nLm : List Str := ["kind"]
theorem scLm : FnScope nLm ["kind"] (defScope sLawMenu) := ⟨rfl, rfl, rfl, by decide +kernel, rfl, by decide +kernel, by decide +kernel⟩
theorem ok_lawmenu {f : Addr} {fd : FuncData} (F : Fun K "_law_menu" "_law_menu" sLawMenu f fd) : FnOk P w K mg base CX0 1 f fd ["kind"] spLawMenu := by
  refine F.ok scLm (fun vs H Q E h => ?_) (fun cdv A outer s H vs Q E hr h => ?_)
  · obtain ⟨k, rfl, _⟩ := h
    rfl
  · obtain ⟨k, rfl, hk, q⟩ := h
    refine ⟨_, pss_cons (ps_if (pt_cmpR op_eq (pv 0) pe_int (nomark _)) (pss_one (ps_ret (pe_lst (pa_cons pe_str (pa_cons pe_str (pa_cons pe_str pa_nil)))))) pss_nil)
      (pss_cons (ps_if (pt_cmpR op_eq (pv 0) pe_int (nomark _)) (pss_one (ps_ret (pe_lst (pa_cons pe_str (pa_cons pe_str (pa_cons pe_str pa_nil)))))) pss_nil)
      (pss_cons (ps_if (pt_cmpR op_eq (pv 0) pe_int (nomark _)) (pss_one (ps_ret (pe_lst (pa_cons pe_str (pa_cons pe_str (pa_cons pe_str pa_nil)))))) pss_nil)
      (pss_cons (ps_if (pt_cmpR op_eq (pv 0) pe_int (nomark _)) (pss_one (ps_ret (pe_lst (pa_cons pe_str (pa_cons pe_str (pa_cons pe_str pa_nil)))))) pss_nil)
      (pss_cons (ps_if (pt_cmpR op_eq (pv 0) pe_int (nomark _)) (pss_one (ps_ret (pe_lst (pa_cons pe_str (pa_cons pe_str (pa_cons pe_str pa_nil)))))) pss_nil)
      (pss_one (ps_ret (pe_lst (pa_cons pe_str (pa_cons pe_str (pa_cons pe_str pa_nil)))))))))), ?_⟩
    match k, hk with
    | 0, _ => exact ⟨_, rfl, rfl, _, rfl, ite2 (fun _ => ⟨smallE (by show 3 ≤ 1000000; decide), fun p np => q p np⟩) (fun e => absurd e (by decide))⟩
    | 1, _ => exact ⟨_, rfl, rfl, _, rfl, ite2 (fun e => absurd e (by decide)) (fun _ => ⟨_, rfl, rfl, _, rfl, ite2 (fun _ => ⟨smallE (by show 3 ≤ 1000000; decide), fun p np => q p np⟩) (fun e => absurd e (by decide))⟩)⟩
    | 2, _ => exact ⟨_, rfl, rfl, _, rfl, ite2 (fun e => absurd e (by decide)) (fun _ => ⟨_, rfl, rfl, _, rfl, ite2 (fun e => absurd e (by decide)) (fun _ => ⟨_, rfl, rfl, _, rfl, ite2 (fun _ => ⟨smallE (by show 3 ≤ 1000000; decide), fun p np => q p np⟩) (fun e => absurd e (by decide))⟩)⟩)⟩
    | 3, _ => exact ⟨_, rfl, rfl, _, rfl, ite2 (fun e => absurd e (by decide)) (fun _ => ⟨_, rfl, rfl, _, rfl, ite2 (fun e => absurd e (by decide)) (fun _ => ⟨_, rfl, rfl, _, rfl, ite2 (fun e => absurd e (by decide)) (fun _ => ⟨_, rfl, rfl, _, rfl, ite2 (fun _ => ⟨smallE (by show 3 ≤ 1000000; decide), fun p np => q p np⟩) (fun e => absurd e (by decide))⟩)⟩)⟩)⟩
    | 4, _ => exact ⟨_, rfl, rfl, _, rfl, ite2 (fun e => absurd e (by decide)) (fun _ => ⟨_, rfl, rfl, _, rfl, ite2 (fun e => absurd e (by decide)) (fun _ => ⟨_, rfl, rfl, _, rfl, ite2 (fun e => absurd e (by decide)) (fun _ => ⟨_, rfl, rfl, _, rfl, ite2 (fun e => absurd e (by decide)) (fun _ => ⟨_, rfl, rfl, _, rfl, ite2 (fun _ => ⟨smallE (by show 3 ≤ 1000000; decide), fun p np => q p np⟩) (fun e => absurd e (by decide))⟩)⟩)⟩)⟩)⟩
    | 5, _ => exact ⟨_, rfl, rfl, _, rfl, ite2 (fun e => absurd e (by decide)) (fun _ => ⟨_, rfl, rfl, _, rfl, ite2 (fun e => absurd e (by decide)) (fun _ => ⟨_, rfl, rfl, _, rfl, ite2 (fun e => absurd e (by decide)) (fun _ => ⟨_, rfl, rfl, _, rfl, ite2 (fun e => absurd e (by decide)) (fun _ => ⟨_, rfl, rfl, _, rfl, ite2 (fun e => absurd e (by decide)) (fun _ => ⟨smallE (by show 3 ≤ 1000000; decide), fun p np => q p np⟩)⟩)⟩)⟩)⟩)⟩
/-! ### what a step brings -/
def spLawJoined (K : PySem.W.Frag) : Sp := fun vs H Q _ => ∃ (d b t : Addr) (nm : Str) (k : Nat) (s : Stp) (R : List RA), vs = [.ref d, .ref b, .ref t] ∧ H b = some (.tup (stV (nm, k))) ∧ H t = some (.tup (stpV s)) ∧ RowsAt K H d R ∧ (∀ t ∈ R, t.2.2.length ≤ 40000) ∧
  (joinR R nm s = none → ∀ H', Same H H' → Q .non H') ∧ (∀ row, joinR R nm s = some row → row.length ≤ 100000 → ∀ H' q, Same H H' → SqT K H' q (row.map V.str) → Q (.ref q) H')
abbrev nLj : List Str := ["rows", "stage", "step", "found", "goal"]
theorem scLj : FnScope nLj ["rows", "stage", "step"] (defScope sLawJoined) := ⟨rfl, rfl, rfl, by decide +kernel, rfl, by decide +kernel, by decide +kernel⟩
theorem ok_lawjoined {f fN : Addr} {fd fdN : FuncData} (F : Fun K "_law_joined" "_law_joined" sLawJoined f fd) (G__law_named : FnOk P w K mg base CX0 1 fN fdN ["stage", "step"] spLawNamed) (C__law_named : CallC K mg "_law_named" ["stage", "step"] fN fdN) : FnOk P w K mg base CX0 2 f fd ["rows", "stage", "step"] (spLawJoined K) := by
  refine F.ok scLj (fun vs H Q E h => ?_) (fun cdv A outer s0 H vs Q E hr h => ?_)
  · obtain ⟨d, b, t, nm, k, s, R, rfl, _⟩ := h
    rfl
  · obtain ⟨d, b, t, nm, k, s, R, rfl, hb, ht, hR, hlen, qn, qr⟩ := h
    refine ⟨_, pss_cons (ps_set (i := 3) scLj.nd rfl (Or.inl rfl) (pe_ifExp (pt_cmpR op_eq (pe_ix ix_tup (pv 2) pe_int (fun _ _ => rfl)) pe_str (nomark _)) (pe_tup (pa_cons (pe_ix ix_tup (pv 2) pe_int (fun _ _ => rfl)) pa_nil)) (pe_tup pa_nil)))
      (pss_cons (ps_for PassesOwn.never rfl (pi_list (pe_call G__law_named (hr.mono (by decide)) (by rfl) C__law_named.g C__law_named.kp C__law_named.b .nil pass0 (pa_cons (pv 1) (pa_cons (pv 2) pa_nil)))) (pg_name (i := 4) scLj.nd rfl (Or.inl rfl))
        (pss_cons (ps_if (pt_cmp (pc_dnotin (hu_of hr) (pv 4) (pv 0))) (pss_one (ps_ret pe_non)) pss_nil)
        (pss_one (ps_set (i := 3) scLj.nd rfl (Or.inl rfl) (pe_op op_catA (pv 3) (pe_dget (hu_of hr) (pv 0) (pv 4) (fun _ _ => rfl)))))))
      (pss_one (ps_ret (pv 3)))), ?_⟩
    refine ⟨_, rfl, t, _, _, .str (kindS s.call), rfl, rfl, sqT_new ht, rfl, rfl, _, rfl, ?_⟩
    rw [kind_do]
    refine ite2 (fun c0 => ?_) (fun c0 => ?_)
    · have hcf : s.call = false := by simpa using c0
      refine ⟨_, rfl, t, _, _, .str s.nm, rfl, rfl, sqT_new ht, rfl, smallE (by show 1 ≤ 1000000; decide), fun q1 nq1 => ?_⟩
      have s1 := same_new (o := .tup [V.str s.nm]) nq1
      have hq1 : SqT K (upd H q1 (.tup [V.str s.nm])) q1 ((initR s).map V.str) := by
        unfold initR
        rw [hcf, if_neg (by decide)]
        exact sqT_new upd_same
      generalize upd H q1 (.tup [V.str s.nm]) = H1 at s1 hq1
      refine ⟨_, rfl, _, rfl, b, t, nm, k, s, rfl, s1 _ _ hb, s1 _ _ ht, fun H2 q2 s2 n2 pq => ?_⟩
      obtain ⟨Lp, p1, p2, p3⟩ := pq
      have s12 := s1.trans s2
      have hq1 := Same.sqT s2 hq1
      have lp : Lp.length ≤ 2 := by
        have := partsS_len nm s
        rw [← p2, List.length_map] at this
        exact this
      refine ⟨q2, rfl, ⟨_, sqL_new p1⟩, ?_⟩
      refine for_it (D := { nx := _, rt := Q }) (walk_list (K := K) (a := q2) (xs := Lp.map fun t => V.ref t.1)) (fun i σ Z => ∃ (q6 : Addr) (acc : List Str) (x7 : Option V), σ = [some (.ref d), some (.ref b), some (.ref t), some (.ref q6), x7] ∧ Same H2 Z ∧ SqT K Z q6 (acc.map V.str) ∧ acc.length ≤ 1 + 40000 * i ∧ catL R acc ((Lp.map (·.2)).drop i) = joinR R nm s) ⟨q1, initR s, none, rfl, fun _ _ e => e, hq1, by unfold initR; split <;> simp, by rw [List.drop_zero, p2]; rfl⟩ (fun i σ Z _ h => ?_) (fun i x σ Z Z' hi h y => ?_) (fun σ Z h => ?_)
      · obtain ⟨_, _, _, _, sZ, _⟩ := h
        exact sqL_new (sZ _ _ p1)
      · obtain ⟨rfl, hy⟩ := y
        obtain ⟨u, hu, rfl⟩ := get_map hy
        obtain ⟨q6, acc, x7, rfl, sZ, hq6, lacc, hcat⟩ := h
        rw [List.length_map] at hi
        have hd2 : (Lp.map (·.2))[i]? = some u.2 := by rw [List.getElem?_map, hu]; rfl
        rw [drop_of_get hd2] at hcat
        unfold catL at hcat
        have hRZ := hR.mono (s12.trans sZ)
        have g2 : DGet Z' d (.ref u.1) (valV (rowKV R) (stK u.2)) := .inr ⟨rowKV R, stK u.2, u.1, hRZ.d, rfl, sZ _ _ (p3 u (List.mem_of_getElem? hu)), rfl⟩
        rw [valV_rows] at g2
        refine ⟨.ref u.1, rfl, _, rfl, d, _, rfl, g2, ?_⟩
        cases hrow : rowA R u.2 with
        | none =>
          rw [hrow] at hcat
          refine ⟨_, rfl, iteYes rfl ?_⟩
          exact qn hcat.symm _ (s12.trans sZ)
        | some y =>
          rw [hrow] at hcat g2
          have hym := rowA_mem hrow
          have ly : y.2.length ≤ 40000 := hlen _ hym
          refine ⟨_, rfl, iteNo rfl ?_⟩
          refine ⟨.ref q6, rfl, .ref d, rfl, .ref u.1, rfl, d, _, rfl, g2, ?_⟩
          refine catA_any hq6 (hRZ.r _ hym) (by rw [List.length_map, List.length_map]; show _ + y.2.length ≤ _; omega) fun Z2 q7 s7 h7 => ?_
          rw [← List.map_append] at h7
          refine ⟨q7, acc ++ y.2, _, rfl, sZ.trans s7, h7, ?_, hcat⟩
          rw [List.length_append]
          omega
      · obtain ⟨q6, acc, x7, rfl, sZ, hq6, lacc, hcat⟩ := h
        rw [List.length_map] at lacc hcat
        rw [List.drop_eq_nil_of_le (by rw [List.length_map]; exact Nat.le_refl _)] at hcat
        exact ⟨_, rfl, qr acc hcat.symm (by omega) _ q6 (s12.trans sZ) hq6⟩
    · have hcf : s.call = true := by simpa using c0
      refine ⟨Nat.zero_le _, fun q1 nq1 => ?_⟩
      have s1 := same_new (o := .tup []) nq1
      have hq1 : SqT K (upd H q1 (.tup [])) q1 ((initR s).map V.str) := by
        unfold initR
        rw [hcf, if_pos rfl]
        exact sqT_new upd_same
      generalize upd H q1 (.tup []) = H1 at s1 hq1
      refine ⟨_, rfl, _, rfl, b, t, nm, k, s, rfl, s1 _ _ hb, s1 _ _ ht, fun H2 q2 s2 n2 pq => ?_⟩
      obtain ⟨Lp, p1, p2, p3⟩ := pq
      have s12 := s1.trans s2
      have hq1 := Same.sqT s2 hq1
      have lp : Lp.length ≤ 2 := by
        have := partsS_len nm s
        rw [← p2, List.length_map] at this
        exact this
      refine ⟨q2, rfl, ⟨_, sqL_new p1⟩, ?_⟩
      refine for_it (D := { nx := _, rt := Q }) (walk_list (K := K) (a := q2) (xs := Lp.map fun t => V.ref t.1)) (fun i σ Z => ∃ (q6 : Addr) (acc : List Str) (x7 : Option V), σ = [some (.ref d), some (.ref b), some (.ref t), some (.ref q6), x7] ∧ Same H2 Z ∧ SqT K Z q6 (acc.map V.str) ∧ acc.length ≤ 1 + 40000 * i ∧ catL R acc ((Lp.map (·.2)).drop i) = joinR R nm s) ⟨q1, initR s, none, rfl, fun _ _ e => e, hq1, by unfold initR; split <;> simp, by rw [List.drop_zero, p2]; rfl⟩ (fun i σ Z _ h => ?_) (fun i x σ Z Z' hi h y => ?_) (fun σ Z h => ?_)
      · obtain ⟨_, _, _, _, sZ, _⟩ := h
        exact sqL_new (sZ _ _ p1)
      · obtain ⟨rfl, hy⟩ := y
        obtain ⟨u, hu, rfl⟩ := get_map hy
        obtain ⟨q6, acc, x7, rfl, sZ, hq6, lacc, hcat⟩ := h
        rw [List.length_map] at hi
        have hd2 : (Lp.map (·.2))[i]? = some u.2 := by rw [List.getElem?_map, hu]; rfl
        rw [drop_of_get hd2] at hcat
        unfold catL at hcat
        have hRZ := hR.mono (s12.trans sZ)
        have g2 : DGet Z' d (.ref u.1) (valV (rowKV R) (stK u.2)) := .inr ⟨rowKV R, stK u.2, u.1, hRZ.d, rfl, sZ _ _ (p3 u (List.mem_of_getElem? hu)), rfl⟩
        rw [valV_rows] at g2
        refine ⟨.ref u.1, rfl, _, rfl, d, _, rfl, g2, ?_⟩
        cases hrow : rowA R u.2 with
        | none =>
          rw [hrow] at hcat
          refine ⟨_, rfl, iteYes rfl ?_⟩
          exact qn hcat.symm _ (s12.trans sZ)
        | some y =>
          rw [hrow] at hcat g2
          have hym := rowA_mem hrow
          have ly : y.2.length ≤ 40000 := hlen _ hym
          refine ⟨_, rfl, iteNo rfl ?_⟩
          refine ⟨.ref q6, rfl, .ref d, rfl, .ref u.1, rfl, d, _, rfl, g2, ?_⟩
          refine catA_any hq6 (hRZ.r _ hym) (by rw [List.length_map, List.length_map]; show _ + y.2.length ≤ _; omega) fun Z2 q7 s7 h7 => ?_
          rw [← List.map_append] at h7
          refine ⟨q7, acc ++ y.2, _, rfl, sZ.trans s7, h7, ?_, hcat⟩
          rw [List.length_append]
          omega
      · obtain ⟨q6, acc, x7, rfl, sZ, hq6, lacc, hcat⟩ := h
        rw [List.length_map] at lacc hcat
        rw [List.drop_eq_nil_of_le (by rw [List.length_map]; exact Nat.le_refl _)] at hcat
        exact ⟨_, rfl, qr acc hcat.symm (by omega) _ q6 (s12.trans sZ) hq6⟩
end
end Kb
namespace Kb
open PySem PySem.Spec PyProof.Rows L2
/-! ### texts as lists of signs -/
def ls (z : Str) : List Nat := z.cps.toList
theorem ls_len (z : Str) : z.length = (ls z).length := by
  unfold ls
  rw [Array.length_toList]
  rfl
theorem ls_inj {a b : Str} (h : ls a = ls b) : a = b := by
  obtain ⟨a⟩ := a
  obtain ⟨b⟩ := b
  exact congrArg Str.mk (Array.toList_inj.mp h)
theorem ls_add (a b : Str) : ls (a ++ b) = ls a ++ ls b := TL.tl_append a b
theorem ls_cutTo (z : Str) (k : Nat) : ls (cutS z none (some (k : Int))) = (ls z).take k := by
  unfold cutS ls
  rw [HT.sIx_nat, HT.sIx_none, List.drop_zero, Nat.sub_zero]
  show ((z.cps.toList.take _).toArray).toList = _
  rw [List.toList_toArray, ls_len]
  unfold ls
  by_cases h : k ≤ z.cps.toList.length
  · rw [Nat.min_eq_left h]
  · rw [Nat.min_eq_right (by omega), List.take_length, List.take_of_length_le (by omega)]
theorem ls_cutFrom (z : Str) (k : Nat) : ls (cutS z (some (k : Int)) none) = (ls z).drop k := by
  unfold cutS ls
  rw [HT.sIx_nat, HT.sIx_none]
  show (((z.cps.toList.drop _).take _).toArray).toList = _
  rw [List.toList_toArray, ls_len]
  unfold ls
  by_cases h : k ≤ z.cps.toList.length
  · rw [Nat.min_eq_left h, List.take_of_length_le (by rw [List.length_drop]; exact Nat.le_refl _)]
  · rw [Nat.min_eq_right (by omega), List.drop_length, List.drop_eq_nil_of_le (by omega), List.take_nil]
theorem joinL_nil : ∀ parts : List (List Nat), TL.joinL [] parts = parts.flatten
  | [] => rfl
  | [p] => by simp [TL.joinL]
  | p :: q :: r => by
    rw [TL.joinL, joinL_nil (q :: r)]
    rfl
theorem ls_join (ys : List Str) : ls (Txt.join (Str.ofString "") ys) = (ys.map ls).flatten := by
  rw [TL.join_eq]
  show TL.tl (Str.join (Str.ofString "") ys) = _
  rw [TL.tl_join]
  have e : TL.tl (Str.ofString "") = [] := by decide +kernel
  rw [e, joinL_nil]
  rfl
theorem name_iff {z : Str} : isName z = true ↔ 1 ≤ (ls z).length ∧ (ls z).length ≤ 5 ∧ ∀ c ∈ ls z, lowC c = true := by
  unfold isName ls
  rw [Bool.and_eq_true, Bool.and_eq_true, decide_eq_true_eq, decide_eq_true_eq, List.all_eq_true, Array.length_toList, and_assoc]
/-! ### the next letter, and why names end up unlike -/
def abc : Str := Str.ofString "abcdefghijklmnopqrstuvwxyz"
theorem abc_at : ∀ r : Fin 26, (ls abc)[r.1]? = some (97 + r.1) := by decide +kernel
theorem abc_index : ∀ r : Fin 26, Txt.index0 abc ⟨#[97 + r.1]⟩ = some r.1 := by decide +kernel
theorem low_of {c : Nat} (h : lowC c = true) : ∃ r : Fin 26, c = 97 + r.1 := by
  unfold lowC at h
  rw [Bool.and_eq_true, decide_eq_true_eq, decide_eq_true_eq] at h
  exact ⟨⟨c - 97, by omega⟩, by show c = 97 + (c - 97); omega⟩
theorem low_mk (r : Nat) : lowC (97 + r % 26) = true := by
  unfold lowC
  rw [Bool.and_eq_true, decide_eq_true_eq, decide_eq_true_eq]
  omega
theorem nodup_len {α : Type} [DecidableEq α] : ∀ {l m : List α}, l.Nodup → (∀ x ∈ l, x ∈ m) → l.length ≤ m.length
  | [], _, _, _ => Nat.zero_le _
  | x :: l, m, h, s => by
    rw [List.nodup_cons] at h
    have hx := s x List.mem_cons_self
    have h2 := nodup_len (l := l) (m := m.erase x) h.2 fun y hy => by
      have hne : y ≠ x := fun e => h.1 (e ▸ hy)
      exact (List.mem_erase_of_ne hne).mpr (s y (List.mem_cons_of_mem _ hy))
    rw [List.length_erase_of_mem hx] at h2
    have := List.length_pos_of_mem hx
    rw [List.length_cons]
    omega
/-- the name init ++ the letter c0 + k -/
def nm (init : List Nat) (c0 k : Nat) : Str := ⟨(init ++ [97 + (c0 + k) % 26]).toArray⟩
theorem nm_ls (init : List Nat) (c0 k : Nat) : ls (nm init c0 k) = init ++ [97 + (c0 + k) % 26] := by
  unfold ls nm
  simp
theorem nm_few {init : List Nat} {c0 n : Nat} {found : List Str} (hn : n ≤ 26) (h : ∀ k, k < n → nm init c0 k ∈ found) : n ≤ found.length := by
  have h1 : ((List.range n).map (nm init c0)).Nodup := by
    rw [List.nodup_iff_pairwise_ne, List.pairwise_map]
    refine List.Pairwise.imp_of_mem ?_ (List.nodup_iff_pairwise_ne.mp List.nodup_range)
    intro i j hi hj hne e
    have e2 := congrArg ls e
    rw [nm_ls, nm_ls] at e2
    have e3 := List.append_cancel_left e2
    rw [List.cons.injEq] at e3
    rw [List.mem_range] at hi hj
    have e4 := e3.1
    omega
  have h2 := nodup_len h1 (m := found) fun x hx => by
    obtain ⟨k, hk, rfl⟩ := List.mem_map.mp hx
    exact h k (List.mem_range.mp hk)
  rw [List.length_map, List.length_range] at h2
  exact h2
theorem nm_name {init : List Nat} {c0 k : Nat} (h1 : init.length ≤ 4) (h2 : ∀ c ∈ init, lowC c = true) : isName (nm init c0 k) = true := by
  rw [name_iff, nm_ls]
  refine ⟨by simp, by simp; omega, fun c hc => ?_⟩
  rcases List.mem_append.mp hc with h | h
  · exact h2 c h
  · rw [List.mem_singleton.mp h]
    exact low_mk _
/-- a name is of that form -/
theorem nm_of {z : Str} (h : isName z = true) : ∃ init c0, z = nm init c0 0 ∧ init.length ≤ 4 ∧ ∀ c ∈ init, lowC c = true := by
  obtain ⟨h1, h2, h3⟩ := name_iff.mp h
  have hne : ls z ≠ [] := fun e => by
    rw [e] at h1
    simp at h1
  have e := List.dropLast_concat_getLast hne
  obtain ⟨r, hr⟩ := low_of (h3 _ (List.getLast_mem hne))
  refine ⟨(ls z).dropLast, r.1, ls_inj ?_, by rw [List.length_dropLast]; omega, fun c hc => h3 c ((List.dropLast_sublist _).subset hc)⟩
  rw [nm_ls, Nat.add_zero, Nat.mod_eq_of_lt r.2, ← hr]
  exact e.symm
theorem shStrs {l : List Str} (h : ∀ z ∈ l, isName z = true) : SeqAt.shaped (.list (l.map .str)) = true := by
  have h1 := dep_le (f := PyData.str) (n := 1) (fun a => by simp [PyData.depth]) l
  exact shaped_of (by rw [PyData.canLay0]; exact lay_all l fun a ha => by rw [PyData.canLay0]; exact name_ok (h a ha)) (by simp only [PyData.depth]; omega)
theorem inV_str (z : Str) : ∀ ns : List Str, inV (.str z) (ns.map V.str) = decide (z ∈ ns)
  | [] => by simp [inV]
  | y :: ns => by
    have ih := inV_str z ns
    unfold inV at ih ⊢
    rw [List.map_cons, List.any_cons, ih]
    show ((y == z) || _) = _
    rw [str_beq]
    by_cases h1 : y = z
    · subst h1
      simp
    · have h2 : ¬ z = y := fun e => h1 e.symm
      simp [h1, h2]
theorem flat_strs (ns : List Str) : (ns.map V.str).all flatV = true := by
  rw [List.all_map, List.all_eq_true]
  exact fun _ _ => rfl
theorem letters_join {zs : List Str} (h : ∀ z ∈ zs, ∃ c, ls z = [c] ∧ lowC c = true) : (zs.map ls).flatten.length = zs.length ∧ (∀ c ∈ (zs.map ls).flatten, lowC c = true) ∧ (zs.map (·.length)).sum = zs.length := by
  induction zs with
  | nil => exact ⟨rfl, (fun c hc => by cases hc), rfl⟩
  | cons z zs ih =>
    obtain ⟨h1, h2, h3⟩ := ih fun y hy => h y (List.mem_cons_of_mem _ hy)
    obtain ⟨c, e, hc⟩ := h z List.mem_cons_self
    refine ⟨?_, fun d hd => ?_, ?_⟩
    · rw [List.map_cons, List.flatten_cons, List.length_append, h1, e, List.length_singleton, List.length_cons]
      omega
    · rw [List.map_cons, List.flatten_cons, e, List.mem_append, List.mem_singleton] at hd
      rcases hd with rfl | hd
      · exact hc
      · exact h2 d hd
    · rw [List.map_cons, List.sum_cons, h3, List.length_cons, ls_len, e]
      show 1 + zs.length = _
      omega
end Kb
namespace Kb
open PySem PySem.Spec PyProof.Rows L2
/-! ### tables of rows: a row put, how long rows get -/
def hasR (R : List RA) (x : Stg) : Bool := R.any fun t => decide (t.1 = x)
def putR (R : List RA) (x : Stg) (y : Addr × List Str) : List RA := if hasR R x = true then R.map (fun t => if t.1 = x then (t.1, y) else t) else R ++ [(x, y)]
theorem putR_kv (R : List RA) (x : Stg) (y : Addr × List Str) : putK (rowKV R) (stK x) (V.ref y.1) = rowKV (putR R x y) := by
  unfold putK putR hasR
  have e : ((rowKV R).any fun q => decide (q.1 = stK x)) = R.any fun t => decide (t.1 = x) := by
    unfold rowKV
    rw [List.any_map]
    congr 1
    funext t
    exact decide_eq_decide.mpr ⟨fun h => stK_inj h, fun h => by show stK t.1 = _; rw [h]⟩
  by_cases h : (R.any fun t => decide (t.1 = x)) = true
  · rw [if_pos h, if_pos (by rw [e]; exact h)]
    unfold rowKV
    rw [List.map_map, List.map_map]
    refine List.map_congr_left fun t _ => ?_
    show (if stK t.1 = stK x then _ else _) = _
    by_cases ht : t.1 = x
    · rw [if_pos (by rw [ht])]
      show _ = (stK (if t.1 = x then (t.1, y) else t).1, V.ref (if t.1 = x then (t.1, y) else t).2.1)
      rw [if_pos ht]
    · rw [if_neg (fun z => ht (stK_inj z))]
      show _ = (stK (if t.1 = x then (t.1, y) else t).1, V.ref (if t.1 = x then (t.1, y) else t).2.1)
      rw [if_neg ht]
  · rw [if_neg h, if_neg (by rw [e]; exact h)]
    unfold rowKV
    rw [List.map_append]
    rfl
theorem hasR_iff {R : List RA} {x : Stg} : hasR R x = true ↔ x ∈ R.map (·.1) := by
  unfold hasR
  rw [List.any_eq_true, List.mem_map]
  exact ⟨fun ⟨t, h, e⟩ => ⟨t, h, of_decide_eq_true e⟩, fun ⟨t, h, e⟩ => ⟨t, h, decide_eq_true e⟩⟩
theorem putR_keys (R : List RA) (x : Stg) (y : Addr × List Str) : (putR R x y).map (·.1) = if x ∈ R.map (·.1) then R.map (·.1) else R.map (·.1) ++ [x] := by
  unfold putR
  by_cases h : hasR R x = true
  · rw [if_pos h, if_pos (hasR_iff.mp h), List.map_map]
    refine List.map_congr_left fun t _ => ?_
    show (if t.1 = x then (t.1, y) else t).1 = t.1
    split <;> rfl
  · rw [if_neg h, if_neg (fun z => h (hasR_iff.mpr z)), List.map_append]
    rfl
theorem putR_len (R : List RA) (x : Stg) (y : Addr × List Str) : (putR R x y).length = if x ∈ R.map (·.1) then R.length else R.length + 1 := by
  have := congrArg List.length (putR_keys R x y)
  rw [List.length_map] at this
  rw [this]
  split
  · rw [List.length_map]
  · rw [List.length_append, List.length_map]
    rfl
theorem putR_mem {R : List RA} {x : Stg} {y : Addr × List Str} {t : RA} (h : t ∈ putR R x y) : t = (x, y) ∨ t ∈ R := by
  unfold putR at h
  by_cases e : hasR R x = true
  · rw [if_pos e] at h
    obtain ⟨u, hu, rfl⟩ := List.mem_map.mp h
    by_cases eu : u.1 = x
    · rw [if_pos eu, eu]
      exact .inl rfl
    · rw [if_neg eu]
      exact .inr hu
  · rw [if_neg e] at h
    rcases List.mem_append.mp h with z | z
    · exact .inr z
    · exact .inl (List.mem_singleton.mp z)
theorem rowA_has (R : List RA) (x : Stg) : (rowA R x).isSome = hasR R x := by
  induction R with
  | nil => rfl
  | cons t R ih =>
    unfold rowA hasR
    rw [List.any_cons]
    by_cases h : t.1 = x
    · rw [if_pos h, decide_eq_true h]
      rfl
    · rw [if_neg h, decide_eq_false h, ih]
      rfl
theorem rowA_putR (R : List RA) (x : Stg) (y : Addr × List Str) (z : Stg) : rowA (putR R x y) z = if x = z then some y else rowA R z := by
  have hap : ∀ (R : List RA), ¬ hasR R x = true → rowA (R ++ [(x, y)]) z = if x = z then some y else rowA R z := by
    intro R
    induction R with
    | nil => intro _; rfl
    | cons t R ih =>
      intro hn
      have hn2 : ¬ (t.1 = x) ∧ ¬ hasR R x = true := by
        constructor
        · intro e
          exact hn (by unfold hasR; rw [List.any_cons, decide_eq_true e]; rfl)
        · intro e
          exact hn (by unfold hasR at e ⊢; rw [List.any_cons, e, Bool.or_true])
      show (if t.1 = z then some t.2 else rowA (R ++ [(x, y)]) z) = if x = z then some y else (if t.1 = z then some t.2 else rowA R z)
      rw [ih hn2.2]
      by_cases e1 : t.1 = z
      · rw [if_pos e1, if_neg (fun e => hn2.1 (by rw [e1, e])), if_pos e1]
      · rw [if_neg e1, if_neg e1]
  have hmp : ∀ (R : List RA), rowA (R.map fun t => if t.1 = x then (t.1, y) else t) z = if x = z ∧ hasR R x = true then some y else rowA R z := by
    intro R
    induction R with
    | nil => simp [rowA, hasR]
    | cons t R ih =>
      rw [List.map_cons]
      show (if (if t.1 = x then (t.1, y) else t).1 = z then some (if t.1 = x then (t.1, y) else t).2 else rowA (R.map _) z) = _
      have e2 : hasR (t :: R) x = (decide (t.1 = x) || hasR R x) := rfl
      by_cases e1 : t.1 = x
      · rw [if_pos e1, e2, decide_eq_true e1, Bool.true_or]
        show (if t.1 = z then some y else _) = _
        by_cases e3 : x = z
        · rw [if_pos (by rw [e1, e3]), if_pos ⟨e3, rfl⟩]
        · rw [if_neg (fun e => e3 (by rw [← e1, e])), if_neg (fun e => e3 e.1), ih, if_neg (fun e => e3 e.1)]
          show _ = if t.1 = z then _ else _
          rw [if_neg (fun e => e3 (by rw [← e1, e]))]
      · rw [if_neg e1, e2, decide_eq_false e1, Bool.false_or, ih]
        show _ = if x = z ∧ hasR R x = true then some y else if t.1 = z then some t.2 else rowA R z
        by_cases e3 : t.1 = z
        · rw [if_pos e3, if_neg (fun e => e1 (by rw [e3, e.1])), if_pos e3]
        · rw [if_neg e3, if_neg e3]
  unfold putR
  by_cases h : hasR R x = true
  · rw [if_pos h, hmp]
    by_cases e : x = z
    · rw [if_pos ⟨e, h⟩, if_pos e]
    · rw [if_neg (fun w => e w.1), if_neg e]
  · rw [if_neg h, hap R h]
theorem catL_len {R : List RA} {M : Nat} (hR : ∀ t ∈ R, t.2.2.length ≤ M) : ∀ {xs : List Stg} {acc row : List Str}, catL R acc xs = some row → row.length ≤ acc.length + xs.length * M
  | [], acc, row, h => by
    cases h
    omega
  | x :: xs, acc, row, h => by
    unfold catL at h
    cases e : rowA R x with
    | none =>
      rw [e] at h
      cases h
    | some y =>
      rw [e] at h
      have h1 := catL_len hR h
      have h2 : y.2.length ≤ M := hR _ (rowA_mem e)
      rw [List.length_append] at h1
      rw [List.length_cons, Nat.add_mul, Nat.one_mul]
      omega
theorem joinR_len {R : List RA} {M : Nat} (hR : ∀ t ∈ R, t.2.2.length ≤ M) {nm : Str} {s : Stp} {row : List Str} (h : joinR R nm s = some row) : row.length ≤ 1 + 2 * M := by
  have := catL_len hR h
  unfold initR partsS at this
  by_cases e : s.call = true
  · rw [if_pos e, if_pos e] at this
    simp at this
    omega
  · rw [if_neg e, if_neg e] at this
    simp at this
    omega
theorem stagesOf_len (cs : List CA) : (stagesOf cs).length = nStages cs := by
  induction cs with
  | nil => rfl
  | cons c cs ih =>
    have : stagesOf (c :: cs) = ((List.range c.n).map fun k => (c.nm, k)) ++ stagesOf cs := by
      unfold stagesOf
      rw [List.flatMap_cons]
    rw [this, List.length_append, ih, List.length_map, List.length_range]
    rfl
theorem mem_stagesOf {cs : List CA} {x : Stg} : x ∈ stagesOf cs ↔ ∃ c ∈ cs, c.nm = x.1 ∧ x.2 < c.n := by
  unfold stagesOf
  rw [List.mem_flatMap]
  constructor
  · rintro ⟨c, hc, h⟩
    obtain ⟨k, hk, rfl⟩ := List.mem_map.mp h
    exact ⟨c, hc, rfl, List.mem_range.mp hk⟩
  · rintro ⟨c, hc, h1, h2⟩
    exact ⟨c, hc, List.mem_map.mpr ⟨x.2, List.mem_range.mpr h2, Prod.ext h1 rfl⟩⟩
/-- a table on its way -/
structure InvR (cs : List CA) (R : List RA) : Prop where
  nd : (R.map (·.1)).Nodup
  key : ∀ t ∈ R, t.1 ∈ stagesOf cs
  dd : ∀ t ∈ R, ∀ z ∈ t.2.2, z ∈ dns cs
  len : ∀ t ∈ R, t.2.2.length + 1 ≤ 2 ^ R.length
theorem InvR.n {cs : List CA} {R : List RA} (h : InvR cs R) : R.length ≤ nStages cs := by
  have := nodup_len h.nd (m := stagesOf cs) fun x hx => by
    obtain ⟨t, ht, rfl⟩ := List.mem_map.mp hx
    exact h.key t ht
  rw [List.length_map, stagesOf_len] at this
  exact this
theorem InvR.l4 {cs : List CA} {R : List RA} (h : InvR cs R) (hn : nStages cs ≤ 15) : ∀ t ∈ R, t.2.2.length ≤ 40000 := fun t ht => by
  have h1 := h.len t ht
  have h2 : 2 ^ R.length ≤ 2 ^ 15 := Nat.pow_le_pow_right (by decide) (Nat.le_trans h.n hn)
  omega
theorem InvR.put {cs : List CA} {R : List RA} {x : Stg} {a : Addr} {row : List Str} (h : InvR cs R) (hx : x ∈ stagesOf cs) (hd : ∀ z ∈ row, z ∈ dns cs) (hl : (x ∉ R.map (·.1) ∧ row.length + 1 ≤ 2 ^ (R.length + 1)) ∨ row.length + 1 ≤ 2 ^ R.length) : InvR cs (putR R x (a, row)) := by
  have ln := putR_len R x (a, row)
  have hle : R.length ≤ (putR R x (a, row)).length := by
    rw [ln]
    split <;> omega
  have hpow := Nat.pow_le_pow_right (n := 2) (by decide) hle
  refine ⟨?_, fun t ht => ?_, fun t ht => ?_, fun t ht => ?_⟩
  · rw [putR_keys]
    split
    · exact h.nd
    · rename_i hn
      rw [List.nodup_append]
      refine ⟨h.nd, by simp, fun a ha b hb e => ?_⟩
      rw [List.mem_singleton.mp hb] at e
      exact hn (by rw [← e]; exact ha)
  · rcases putR_mem ht with e | e
    · rw [e]
      exact hx
    · exact h.key t e
  · rcases putR_mem ht with e | e
    · rw [e]
      exact hd
    · exact h.dd t e
  · rcases putR_mem ht with e | e
    · rw [e]
      rcases hl with ⟨h1, h2⟩ | h2
      · rw [ln, if_neg h1]
        exact h2
      · exact Nat.le_trans h2 hpow
    · exact Nat.le_trans (h.len t e) hpow
end Kb
namespace Kb
open PySem PySem.Spec PyProof.Rows L2
/-! ### rows along shortest ways -/
theorem sqT_dT {K : PySem.W.Frag} {H L : Hp} {d b : Addr} {kv : List (List L2.Key × V)} {xs : List V} (hd : H d = some (.dT kv)) (k : But d H L) (h : SqT K H b xs) : SqT K L b xs := by
  rcases h with (h | ⟨o, h⟩) | h
  · exact .inl (.inl (k _ _ (fun e => by rw [e, hd] at h; cases h) h))
  · exact .inl (.inr ⟨o, k _ _ (fun e => by rw [e, hd] at h; cases h) h⟩)
  · exact .inr h
theorem rows_put {K : PySem.W.Frag} {Z : Hp} {d a : Addr} {R : List RA} {row : List Str} (hd : Z d = some (.dT (rowKV R))) (h : RowsAt K Z d R) (x : Stg) (hr : SqT K Z a (row.map V.str)) : RowsAt K (upd Z d (.dT (putK (rowKV R) (stK x) (V.ref a)))) d (putR R x (a, row)) := by
  have e : putK (rowKV R) (stK x) (V.ref a) = rowKV (putR R x (a, row)) := putR_kv R x (a, row)
  refine ⟨.inl (by rw [upd_same, e]), fun t ht => sqT_dT hd But.upd ?_⟩
  rcases putR_mem ht with e | e
  · rw [e]
    exact hr
  · exact h.r t e
theorem dn_of {cs : List CA} {c : CA} (mc : c ∈ cs) {p : Addr × Stp} (mp : p ∈ c.ss) (hp : p.2.call = false) : p.2.nm ∈ dns cs :=
  dns_mem mc (by unfold dn; exact List.mem_map.mpr ⟨p, List.mem_filter.mpr ⟨mp, by rw [hp]; rfl⟩, rfl⟩)
theorem joinR_dd {cs : List CA} {R : List RA} (h : InvR cs R) {c : CA} (mc : c ∈ cs) {p : Addr × Stp} (mp : p ∈ c.ss) {row : List Str} (hj : joinR R c.nm p.2 = some row) : ∀ z ∈ row, z ∈ dns cs := by
  refine catL_all (p := fun z => z ∈ dns cs) h.dd (fun z hz => ?_) hj
  unfold initR at hz
  cases e : p.2.call with
  | true =>
    rw [e, if_pos rfl] at hz
    cases hz
  | false =>
    rw [e, if_neg (by decide)] at hz
    rw [List.mem_singleton.mp hz]
    exact dn_of mc mp e
def ShI (K : PySem.W.Frag) (H : Hp) (a q1 : Addr) (cs : List CA) (σ : L2.St) (Z : Hp) : Prop := ∃ (R : List RA) (x2 x3 x4 x5 x6 x7 x8 : Option V), σ = [some (.ref a), some (.ref q1), x2, x3, x4, x5, x6, x7, x8] ∧ Same H Z ∧ Z q1 = some (.dT (rowKV R)) ∧ RowsAt K Z q1 R ∧ InvR cs R
def ShB (K : PySem.W.Frag) (H : Hp) (a q1 : Addr) (cs : List CA) (σ : L2.St) (Z : Hp) : Prop := ∃ (R : List RA) (bb : Bool) (x2 x3 x4 x6 x7 x8 : Option V), σ = [some (.ref a), some (.ref q1), x2, x3, x4, some (.bl bb), x6, x7, x8] ∧ Same H Z ∧ Z q1 = some (.dT (rowKV R)) ∧ RowsAt K Z q1 R ∧ InvR cs R
section
variable {P : Program} {w : World} {K : PySem.W.Frag} {mg : Str → Option Value} {base : Heap}
def spLawShortest (K : PySem.W.Frag) : Sp := fun vs H Q _ => ∃ (a : Addr) (cs : List CA), vs = [.ref a] ∧ CsAt K H a cs ∧ CsOk cs ∧ nStages cs ≤ 15 ∧ ∀ H' q R, Same H H' → H q = none → H' q = some (.dT (rowKV R)) → RowsAt K H' q R → InvR cs R → Q (.ref q) H'
abbrev nLs : List Str := ["courses", "rows", "course", "end", "turn", "is_same", "step", "stage", "row"]
theorem scLs : FnScope nLs ["courses"] (defScope sLawShortest) := ⟨rfl, rfl, rfl, by decide +kernel, rfl, by decide +kernel, by decide +kernel⟩
theorem ok_lawshort {f fJ : Addr} {fd fdJ : FuncData} (F : Fun K "_law_shortest" "_law_shortest" sLawShortest f fd) (N : Nones mg) (G__law_joined : FnOk P w K mg base CX0 2 fJ fdJ ["rows", "stage", "step"] (spLawJoined K)) (C__law_joined : CallC K mg "_law_joined" ["rows", "stage", "step"] fJ fdJ) : FnOk P w K mg base CX0 3 f fd ["courses"] (spLawShortest K) := by
  refine F.ok scLs (fun vs H Q E h => ?_) (fun cdv A outer s H vs Q E hr h => ?_)
  · obtain ⟨a, cs, rfl, _⟩ := h
    rfl
  · obtain ⟨a, cs, rfl, hC, ok, n15, q⟩ := h
    refine ⟨_, pss_cons (ps_set (i := 1) scLs.nd rfl (Or.inl rfl) pe_dnewT)
      (pss_cons (ps_for PassesOwn.never rfl (pi_tup (pv 0)) (pg_name (i := 2) scLs.nd rfl (Or.inl rfl))
        (pss_one (ps_for PassesOwn.never rfl (pi_tup (pe_ix ix_tup (pv 2) pe_int (fun _ _ => rfl))) (pg_name (i := 3) scLs.nd rfl (Or.inl rfl))
          (pss_one (ps_dput (hu_of hr) (pv 1) (pe_tup (pa_cons (pe_ix ix_tup (pv 2) pe_int (fun _ _ => rfl)) (pa_cons (pv 3) pa_nil))) (pe_tup pa_nil) rfl)))))
      (pss_cons (ps_for PassesOwn.never rfl (pi_range1 (by rfl) N.range (pa_cons pe_int pa_nil)) (pg_name (i := 4) scLs.nd rfl (Or.inl rfl))
        (pss_cons (ps_set (i := 5) scLs.nd rfl (Or.inl rfl) pe_bl)
        (pss_cons (ps_for PassesOwn.never rfl (pi_tup (pv 0)) (pg_name (i := 2) scLs.nd rfl (Or.inl rfl))
          (pss_one (ps_for PassesOwn.never rfl (pi_tup (pe_ix ix_tup (pv 2) pe_int (fun _ _ => rfl))) (pg_name (i := 6) scLs.nd rfl (Or.inl rfl))
            (pss_cons (ps_set (i := 7) scLs.nd rfl (Or.inl rfl) (pe_tup (pa_cons (pe_ix ix_tup (pv 2) pe_int (fun _ _ => rfl)) (pa_cons (pe_ix ix_tup (pv 6) pe_int (fun _ _ => rfl)) pa_nil))))
            (pss_cons (ps_set (i := 8) scLs.nd rfl (Or.inl rfl) (pe_call G__law_joined (hr.mono (by decide)) (by rfl) C__law_joined.g C__law_joined.kp C__law_joined.b .nil pass0 (pa_cons (pv 1) (pa_cons (pv 7) (pa_cons (pv 6) pa_nil)))))
            (pss_one (ps_if (PW.pt (pw_and (pt_cmpR op_notN (pv 8) pe_non (nomark _)) (pw_and1 (PW.pt (pw_or (pt_cmp (pc_dnotin (hu_of hr) (pv 7) (pv 1))) (pw_or1 (pt_cmpR op_lt (pe_callB call_len_seq (by rfl) N.len PySem.boot_len (pa_cons (pv 8) pa_nil)) (pe_callB call_len_seq (by rfl) N.len PySem.boot_len (pa_cons (pe_dget (hu_of hr) (pv 1) (pv 7) (fun _ _ => rfl)) pa_nil)) (nomark _)))))))) (pss_cons (ps_dput (hu_of hr) (pv 1) (pv 7) (pv 8) rfl)
              (pss_one (ps_set (i := 5) scLs.nd rfl (Or.inl rfl) pe_bl))) pss_nil)))))))
        (pss_one (ps_if (pt_val (pv 5)) (pss_one ps_break) pss_nil)))))
      (pss_one (ps_ret (pv 1))))), ?_⟩
    intro q1 n1
    have s0 := same_new (o := .dT []) n1
    have e0 : upd H q1 (.dT []) q1 = some (.dT []) := upd_same
    generalize upd H q1 (.dT []) = H1 at s0 e0
    have i0 : InvR cs [] := ⟨List.nodup_nil, fun t ht => (nomatch ht), fun t ht => (nomatch ht), fun t ht => (nomatch ht)⟩
    refine ⟨_, rfl, a, rfl, ⟨_, Same.sqT s0 hC.1⟩, ?_⟩
    refine for_it (walk_tup (K := K) (a := a) (xs := cs.map fun c => V.ref c.a)) (fun i σ Z => ShI K H a q1 cs σ Z) ⟨[], none, none, none, none, none, none, none, rfl, s0, e0, ⟨.inl e0, fun t ht => (nomatch ht)⟩, i0⟩ (fun i σ Z _ h => ?_) (fun i x σ Z Z' hi h y => ?_) (fun σ Z h => ?_)
    · obtain ⟨_, _, _, _, _, _, _, _, _, sZ, _⟩ := h
      exact Same.sqT sZ hC.1
    · obtain ⟨rfl, hy⟩ := y
      obtain ⟨c, hc, rfl⟩ := get_map hy
      have mc := List.mem_of_getElem? hc
      have cc := hC.2 c mc
      have co := ok.ok c mc
      obtain ⟨R, x2, x3, x4, x5, x6, x7, x8, rfl, sZ, eZ, hR, iR⟩ := h
      refine ⟨_, rfl, c.a, _, _, .ref c.ea, rfl, rfl, Same.sqT sZ cc.t, rfl, c.ea, rfl, ⟨_, Same.sqT sZ cc.e⟩, ?_⟩
      refine for_it (walk_tup (K := K) (a := c.ea) (xs := natV c.es)) (fun j σ Z => ∃ (R : List RA) (x3 x4 x5 x6 x7 x8 : Option V), σ = [some (.ref a), some (.ref q1), some (.ref c.a), x3, x4, x5, x6, x7, x8] ∧ Same H Z ∧ Z q1 = some (.dT (rowKV R)) ∧ RowsAt K Z q1 R ∧ InvR cs R) ⟨R, x3, x4, x5, x6, x7, x8, rfl, sZ, eZ, hR, iR⟩ (fun j σ Z _ h => ?_) (fun j x σ Z Z' hj h y => ?_) (fun σ Z h => ?_)
      · obtain ⟨_, _, _, _, _, _, _, _, sZ, _⟩ := h
        exact Same.sqT sZ cc.e
      · obtain ⟨rfl, hy⟩ := y
        obtain ⟨e, he, rfl⟩ := get_map (f := fun (i : Nat) => V.int (i : Int)) hy
        obtain ⟨R, x3, x4, x5, x6, x7, x8, rfl, sZ, eZ, hR, iR⟩ := h
        refine ⟨Nat.zero_le _, fun t0 nt0 => ?_⟩
        have s1 := same_new (o := .tup []) nt0
        have et : upd Z' t0 (.tup []) t0 = some (.tup []) := upd_same
        generalize upd Z' t0 (.tup []) = Z1 at s1 et
        refine ⟨_, rfl, _, rfl, c.a, _, _, .str c.nm, rfl, rfl, Same.sqT s1 (Same.sqT sZ cc.t), rfl, .int (e : Nat), rfl, smallE (by show 2 ≤ 1000000; decide), fun t1 nt1 => ?_⟩
        have s2 := same_new (o := .tup [V.str c.nm, V.int (e : Nat)]) nt1
        have et1 : upd Z1 t1 (.tup [V.str c.nm, V.int (e : Nat)]) t1 = some (.tup (stV (c.nm, e))) := upd_same
        generalize upd Z1 t1 (.tup [V.str c.nm, V.int (e : Nat)]) = Z2 at s2 et1
        have sZ2 := (sZ.trans s1).trans s2
        have eZ2 := s2 _ _ (s1 _ _ eZ)
        have ln := Nat.le_trans iR.n n15
        have lR : (rowKV R).length < sizeLine := by
          unfold rowKV
          rw [List.length_map]
          exact small (by omega)
        refine ⟨q1, _, rfl, DPut.t (k := stK (c.nm, e)) eZ2 et1 lR, putR R (c.nm, e) (t0, []), _, x4, x5, x6, x7, x8, rfl, fun b o eb => ?_, ?_, ?_, ?_⟩
        · rw [upd_ne (ne_of_none eb n1)]
          exact sZ2 _ _ eb
        · rw [upd_same]
          exact congrArg (fun z => some (HO.dT z)) (putR_kv R (c.nm, e) (t0, []))
        · exact rows_put eZ2 (hR.mono (s1.trans s2)) (c.nm, e) (row := []) (sqT_new (s2 _ _ et))
        · exact iR.put (mem_stagesOf.mpr ⟨c, mc, rfl, co.el e (List.mem_of_getElem? he)⟩) (fun z hz => (nomatch hz)) (.inr (Nat.one_le_two_pow))
      · obtain ⟨R, x3, x4, x5, x6, x7, x8, rfl, sZ, eZ, hR, iR⟩ := h
        exact ⟨R, _, x3, x4, x5, x6, x7, x8, rfl, sZ, eZ, hR, iR⟩
    · obtain ⟨R, x2, x3, x4, x5, x6, x7, x8, rfl, sZ, eZ, hR, iR⟩ := h
      refine ⟨30, rfl, by decide, by decide, ?_⟩
      refine for_it walk_r0 (n := 30) (fun i σ Z => ShI K H a q1 cs σ Z) ⟨R, x2, x3, x4, x5, x6, x7, x8, rfl, sZ, eZ, hR, iR⟩ (fun i σ Z _ h => True.intro) (fun i x σ Z Z' hi h y => ?_) (fun σ Z h => ?_)
      · obtain ⟨rfl, rfl⟩ := y
        obtain ⟨R, x2, x3, x4, x5, x6, x7, x8, rfl, sZ, eZ, hR, iR⟩ := h
        refine ⟨_, rfl, a, rfl, ⟨_, Same.sqT sZ hC.1⟩, ?_⟩
        refine for_it (walk_tup (K := K) (a := a) (xs := cs.map fun c => V.ref c.a)) (fun i σ Z => ShB K H a q1 cs σ Z) ⟨R, true, x2, x3, _, x6, x7, x8, rfl, sZ, eZ, hR, iR⟩ (fun i σ Z _ h => ?_) (fun i x σ Z Z' hi h y => ?_) (fun σ Z h => ?_)
        · obtain ⟨_, _, _, _, _, _, _, _, _, sZ, _⟩ := h
          exact Same.sqT sZ hC.1
        · obtain ⟨rfl, hy⟩ := y
          obtain ⟨c, hc, rfl⟩ := get_map hy
          have mc := List.mem_of_getElem? hc
          have cc := hC.2 c mc
          have co := ok.ok c mc
          obtain ⟨R, bb, x2, x3, x4, x6, x7, x8, rfl, sZ, eZ, hR, iR⟩ := h
          refine ⟨_, rfl, c.a, _, _, .ref c.sa, rfl, rfl, Same.sqT sZ cc.t, rfl, c.sa, rfl, ⟨_, Same.sqT sZ cc.s⟩, ?_⟩
          refine for_it (walk_tup (K := K) (a := c.sa) (xs := c.ss.map fun p => V.ref p.1)) (fun j σ Z => ∃ (R : List RA) (bb : Bool) (x3 x4 x6 x7 x8 : Option V), σ = [some (.ref a), some (.ref q1), some (.ref c.a), x3, x4, some (.bl bb), x6, x7, x8] ∧ Same H Z ∧ Z q1 = some (.dT (rowKV R)) ∧ RowsAt K Z q1 R ∧ InvR cs R) ⟨R, bb, x3, x4, x6, x7, x8, rfl, sZ, eZ, hR, iR⟩ (fun j σ Z _ h => ?_) (fun j x σ Z Z' hj h y => ?_) (fun σ Z h => ?_)
          · obtain ⟨_, _, _, _, _, _, _, _, sZ, _⟩ := h
            exact Same.sqT sZ cc.s
          · obtain ⟨rfl, hy⟩ := y
            obtain ⟨p, hp, rfl⟩ := get_map hy
            have mp := List.mem_of_getElem? hp
            obtain ⟨R, bb, x3, x4, x6, x7, x8, rfl, sZ, eZ, hR, iR⟩ := h
            have hst := sZ _ _ (cc.p p mp)
            refine ⟨_, rfl, c.a, _, _, .str c.nm, rfl, rfl, Same.sqT sZ cc.t, rfl, _, rfl, p.1, _, _, .int (p.2.n : Int), rfl, rfl, sqT_new hst, rfl, smallE (by show 2 ≤ 1000000; decide), fun t1 nt1 => ?_⟩
            have s2 := same_new (o := .tup [V.str c.nm, V.int (p.2.n : Int)]) nt1
            have et1 : upd Z' t1 (.tup [V.str c.nm, V.int (p.2.n : Int)]) t1 = some (.tup (stV (c.nm, p.2.n))) := upd_same
            generalize upd Z' t1 (.tup [V.str c.nm, V.int (p.2.n : Int)]) = Z2 at s2 et1
            have sZ2 := sZ.trans s2
            have eZ2 := s2 _ _ eZ
            have hR2 := hR.mono s2
            have ln := Nat.le_trans iR.n n15
            refine ⟨_, rfl, _, rfl, _, rfl, q1, t1, p.1, c.nm, p.2.n, p.2, R, rfl, et1, s2 _ _ hst, hR2, iR.l4 n15, fun hn Z3 s3 => ?_, fun row hrow lrow Z3 q3 s3 hq3 => ?_⟩
            · refine ⟨_, rfl, rfl, _, rfl, iteNo rfl (iteNo rfl ?_)⟩
              exact ⟨R, bb, x3, x4, _, _, _, rfl, sZ2.trans s3, s3 _ _ eZ2, hR2.mono s3, iR⟩
            · refine ⟨_, rfl, rfl, _, rfl, iteYes rfl ?_⟩
              have g2 : DGet Z3 q1 (.ref t1) (valV (rowKV R) (stK (c.nm, p.2.n))) := .inr ⟨rowKV R, stK (c.nm, p.2.n), t1, (hR2.mono s3).d, rfl, s3 _ _ et1, rfl⟩
              rw [valV_rows] at g2
              refine ⟨_, rfl, _, rfl, q1, _, rfl, g2, ?_⟩
              cases hrow2 : rowA R (c.nm, p.2.n) with
              | none =>
                refine ⟨_, rfl, iteYes rfl (iteYes rfl ?_)⟩
                have sZ3 := sZ2.trans s3
                have eZ3 := s3 _ _ eZ2
                have lR : (rowKV R).length < sizeLine := by
                  unfold rowKV
                  rw [List.length_map]
                  exact small (by omega)
                refine ⟨_, rfl, _, rfl, _, rfl, q1, _, rfl, DPut.t (k := stK (c.nm, p.2.n)) eZ3 (s3 _ _ et1) lR, putR R (c.nm, p.2.n) (q3, row), false, x3, x4, _, _, _, rfl, fun b o eb => ?_, ?_, ?_, ?_⟩
                · rw [upd_ne (ne_of_none eb n1)]
                  exact sZ3 _ _ eb
                · rw [upd_same]
                  exact congrArg (fun z => some (HO.dT z)) (putR_kv R (c.nm, p.2.n) (q3, row))
                · exact rows_put eZ3 (hR2.mono s3) (c.nm, p.2.n) hq3
                · refine iR.put (mem_stagesOf.mpr ⟨c, mc, rfl, (co.sl p mp).1⟩) (joinR_dd iR mc mp hrow) (.inl ⟨?_, ?_⟩)
                  · intro z
                    have := rowA_has R (c.nm, p.2.n)
                    rw [hrow2, hasR_iff.mpr z] at this
                    cases this
                  · have := joinR_len (M := 2 ^ R.length - 1) (fun t ht => by have := iR.len t ht; omega) hrow
                    have hp : 1 ≤ 2 ^ R.length := Nat.one_le_two_pow
                    rw [Nat.pow_succ]
                    omega
              | some y =>
                rw [hrow2] at g2
                refine ⟨_, rfl, iteNo rfl ?_⟩
                have hym := rowA_mem hrow2
                have hy2 := (hR2.mono s3).r _ hym
                refine ⟨_, rfl, q3, _, rfl, .inr hq3, _, rfl, _, rfl, q1, _, rfl, g2, y.1, _, rfl, .inr hy2, ?_⟩
                refine ⟨_, _, rfl, rfl, _, rfl, ?_⟩
                rw [List.length_map, List.length_map]
                refine ite2 (fun el => ?_) (fun el => ?_)
                · have el : row.length < y.2.length := by
                    have := of_decide_eq_true el
                    exact Int.ofNat_lt.mp this
                  have sZ3 := sZ2.trans s3
                  have eZ3 := s3 _ _ eZ2
                  have lR : (rowKV R).length < sizeLine := by
                    unfold rowKV
                    rw [List.length_map]
                    exact small (by omega)
                  refine ⟨_, rfl, _, rfl, _, rfl, q1, _, rfl, DPut.t (k := stK (c.nm, p.2.n)) eZ3 (s3 _ _ et1) lR, putR R (c.nm, p.2.n) (q3, row), false, x3, x4, _, _, _, rfl, fun b o eb => ?_, ?_, ?_, ?_⟩
                  · rw [upd_ne (ne_of_none eb n1)]
                    exact sZ3 _ _ eb
                  · rw [upd_same]
                    exact congrArg (fun z => some (HO.dT z)) (putR_kv R (c.nm, p.2.n) (q3, row))
                  · exact rows_put eZ3 (hR2.mono s3) (c.nm, p.2.n) hq3
                  · exact iR.put (mem_stagesOf.mpr ⟨c, mc, rfl, (co.sl p mp).1⟩) (joinR_dd iR mc mp hrow) (.inr (by have := iR.len _ hym; have : y.2.length + 1 ≤ 2 ^ R.length := this; omega))
                · exact ⟨R, bb, x3, x4, _, _, _, rfl, sZ2.trans s3, s3 _ _ eZ2, hR2.mono s3, iR⟩
          · obtain ⟨R, bb, x3, x4, x6, x7, x8, rfl, sZ, eZ, hR, iR⟩ := h
            exact ⟨R, bb, _, x3, x4, x6, x7, x8, rfl, sZ, eZ, hR, iR⟩
        · obtain ⟨R, bb, x2, x3, x4, x6, x7, x8, rfl, sZ, eZ, hR, iR⟩ := h
          refine ⟨_, rfl, _, rfl, ?_⟩
          cases bb with
          | true =>
            refine iteYes rfl ?_
            exact ⟨_, rfl, q _ q1 R sZ n1 eZ hR iR⟩
          | false =>
            refine iteNo rfl ?_
            exact ⟨R, x2, x3, x4, _, x6, x7, x8, rfl, sZ, eZ, hR, iR⟩
      · obtain ⟨R, x2, x3, x4, x5, x6, x7, x8, rfl, sZ, eZ, hR, iR⟩ := h
        exact ⟨_, rfl, q _ q1 R sZ n1 eZ hR iR⟩
end
end Kb
namespace Kb
open PySem PySem.Spec PyProof.Rows L2
/-! ### the met stages -/
theorem notInD_at {X : Cx} {K : PySem.W.Frag} (h : X.K = K) (hu : X.A.units + 65 < cLine) : OpR X (compareOp .NotIn) (rNotInD K) := by
  subst h
  exact op_notInD hu
theorem eqv_stD (x y : Stg) : PyData.eqv (stD x) (stD y) = decide (x = y) := by
  unfold stD
  rw [Bool.eq_iff_iff]
  simp [PyData.eqv, PyData.eqvAll, Prod.ext_iff]
  intro _
  exact ⟨fun h => by omega, fun h => by omega⟩
theorem joinR_has {R : List RA} {nm : Str} {s : Stp} {row : List Str} (h : joinR R nm s = some row) {x : Stg} (hx : x ∈ partsS nm s) : hasR R x = true := by
  have := catL_has R (partsS nm s) (initR s)
  unfold joinR at h
  rw [h] at this
  have h2 := List.all_eq_true.mp this.symm x hx
  rw [rowA_has] at h2
  exact h2
theorem shStD {l : List Stg} (h : ∀ x ∈ l, isName x.1 = true) : SeqAt.shaped (.list (l.map stD)) = true := by
  refine shaped_of ?_ ?_
  · rw [PyData.canLay0]
    refine lay_all l fun x hx => ?_
    unfold stD
    rw [PyData.canLay0, PyData.canLayAll0, PyData.canLayAll0, PyData.canLayAll0, PyData.canLay0, PyData.canLay0, name_ok (h x hx)]
    rfl
  · have : ∀ l : List Stg, PyData.depthAll (l.map stD) ≤ 4 := dep_le fun k => by
      simp [stD, PyData.depth, PyData.depthAll]
    have := this l
    simp only [PyData.depth]
    omega
theorem shStD1 {x : Stg} (h : isName x.1 = true) : SeqAt.shaped (stD x) = true := by
  refine shaped_of ?_ ?_
  · unfold stD
    rw [PyData.canLay0, PyData.canLayAll0, PyData.canLayAll0, PyData.canLayAll0, PyData.canLay0, PyData.canLay0, name_ok h]
    rfl
  · simp [stD, PyData.depth, PyData.depthAll]
theorem dpStD {K : PySem.W.Frag} {H : Hp} {q : Addr} {x : Stg} (h : H q = some (.tup (stV x))) : Dp K H (.ref q) (stD x) := .tup (sqT_new h) (.cons (.str _) (.cons (.int _) .nil))
theorem dpStDs {K : PySem.W.Frag} {H : Hp} : ∀ {L : List (Addr × Stg)}, (∀ t ∈ L, H t.1 = some (.tup (stV t.2))) → DpAll K H (L.map fun t => V.ref t.1) ((L.map (·.2)).map stD)
  | [], _ => .nil
  | t :: L, h => .cons (dpStD (h t List.mem_cons_self)) (dpStDs fun u hu => h u (List.mem_cons_of_mem _ hu))
theorem offV_at {c : CA} {js : List Nat} {Lo : List (Addr × List V)} (e : Lo.map (·.2) = offV c js) {j : Nat} {t : Addr × List V} (h : Lo[j]? = some t) : ∃ n, js[j]? = some n ∧ t.2 = [V.int (n : Int), V.ref ((c.ss[n]?.map (·.1)).getD 0)] := by
  have h1 : (Lo.map (·.2))[j]? = some t.2 := by rw [List.getElem?_map, h]; rfl
  rw [e] at h1
  unfold offV at h1
  rw [List.getElem?_map] at h1
  cases hj : js[j]? with
  | none =>
    rw [hj] at h1
    cases h1
  | some n =>
    rw [hj] at h1
    exact ⟨n, rfl, (Option.some.inj h1).symm⟩
theorem inD_st (x : Stg) (l : List Stg) : ((l.map stD).any fun z => PyData.eqv z (stD x)) = decide (x ∈ l) := by
  rw [List.any_map]
  induction l with
  | nil => simp
  | cons y l ih =>
    rw [List.any_cons, ih]
    show (PyData.eqv (stD y) (stD x) || _) = _
    rw [eqv_stD]
    by_cases h : y = x
    · simp [h]
    · have h' : ¬ x = y := fun e => h e.symm
      simp [h, h']
section
variable {P : Program} {w : World} {K : PySem.W.Frag} {mg : Str → Option Value} {base : Heap}
def spLawReached (K : PySem.W.Frag) : Sp := fun vs H Q _ => ∃ (a d : Addr) (cs : List CA) (c0 : CA) (R : List RA), vs = [.ref a, .ref d] ∧ CsAt K H a cs ∧ CsOk cs ∧ (∀ c ∈ cs, c.ss.length ≤ 50) ∧ cs[0]? = some c0 ∧ RowsAt K H d R ∧ InvR cs R ∧ nStages cs ≤ 15 ∧ hasR R (c0.nm, 0) = true ∧
  ∀ H' q xs, Same H H' → H q = none → StLs H' q xs → (∀ x ∈ xs, hasR R x = true) → (c0.nm, 0) ∈ xs → xs.length ≤ 10000 → Q (.ref q) H'
abbrev nLr : List Str := ["courses", "rows", "found", "place", "number", "step", "goal"]
theorem scLr : FnScope nLr ["courses", "rows"] (defScope sLawReached) := ⟨rfl, rfl, rfl, by decide +kernel, rfl, by decide +kernel, by decide +kernel⟩
theorem ok_lawreached {f fO fJ fN : Addr} {fd fdO fdJ fdN : FuncData} (F : Fun K "_law_reached" "_law_reached" sLawReached f fd) (N : Nones mg) (G__law_off : FnOk P w K mg base CX0 2 fO fdO ["courses", "stage"] (spLawOff K)) (C__law_off : CallC K mg "_law_off" ["courses", "stage"] fO fdO)
    (G__law_joined : FnOk P w K mg base CX0 2 fJ fdJ ["rows", "stage", "step"] (spLawJoined K)) (C__law_joined : CallC K mg "_law_joined" ["rows", "stage", "step"] fJ fdJ) (G__law_named : FnOk P w K mg base CX0 1 fN fdN ["stage", "step"] spLawNamed) (C__law_named : CallC K mg "_law_named" ["stage", "step"] fN fdN) : FnOk P w K mg base CX0 3 f fd ["courses", "rows"] (spLawReached K) := by
  refine F.ok scLr (fun vs H Q E h => ?_) (fun cdv A outer s H vs Q E hr h => ?_)
  · obtain ⟨a, d, cs, c0, R, rfl, _⟩ := h
    rfl
  · obtain ⟨a, d, cs, c0, R, rfl, hC, ok, l50, hc0, hR, iR, n15, h0, q⟩ := h
    have hu65 : (A.deeper (envOfC (Str.ofString "_law_reached") (defScope sLawReached) s.heap.objs.size f cdv)).units + 65 < cLine := by
      have := hr.un
      omega
    refine ⟨_, pss_cons (ps_set (i := 2) scLr.nd rfl (Or.inr rfl) (pe_lst (pa_cons (pe_tup (pa_cons (pe_ix ix_tup (pe_ix ix_tup (pv 0) pe_int (fun _ _ => rfl)) pe_int (fun _ _ => rfl)) (pa_cons pe_int pa_nil))) pa_nil)))
      (pss_cons (ps_for PassesOwn.never rfl (pi_range1 (by rfl) N.range (pa_cons pe_int pa_nil)) (pg_name (i := 3) scLr.nd rfl (Or.inl rfl))
        (pss_one (ps_if (pt_cmpR op_lt (pv 3) (pe_callB call_len_seq (by rfl) N.len PySem.boot_len (pa_cons (pv 2) pa_nil)) (nomark _)) (pss_one (ps_for PassesOwn.never rfl (pi_list (pe_call G__law_off (hr.mono (by decide)) (by rfl) C__law_off.g C__law_off.kp C__law_off.b .nil pass0 (pa_cons (pv 0) (pa_cons (pe_ix ix_list (pv 2) (pv 3) (fun _ _ => rfl)) pa_nil)))) (pg_tup rfl (pgs_cons (pg_name (i := 4) scLr.nd rfl (Or.inl rfl)) (pgs_cons (pg_name (i := 5) scLr.nd rfl (Or.inl rfl)) pgs_nil)))
            (pss_one (ps_if (pt_cmpR op_notN (pe_call G__law_joined (hr.mono (by decide)) (by rfl) C__law_joined.g C__law_joined.kp C__law_joined.b .nil pass0 (pa_cons (pv 1) (pa_cons (pe_ix ix_list (pv 2) (pv 3) (fun _ _ => rfl)) (pa_cons (pv 5) pa_nil)))) pe_non (nomark _)) (pss_one (ps_expr (pe_bm PySem.F.plainAttrs_list PySem.F.slot_list_extend PySem.F.type_list_extend mt_extend (pv 2) (pa_cons (pe_lc (own := [("goal", 6)]) (g := gName 6) rfl scLr.nd (pi_list (pe_call G__law_named (hr.mono (by decide)) (by rfl) C__law_named.g C__law_named.kp C__law_named.b .nil pass0 (pa_cons (pe_ix ix_list (pv 2) (pv 3) (fun _ _ => rfl)) (pa_cons (pv 5) pa_nil)))) (blkOk_by (own := [("goal", 6)]) (N := nLr) (sc := defScope sLawReached) (by decide +kernel)) (fun _ _ _ _ _ => (pg_name (i := 6) scLr.nd rfl (Or.inl rfl))) (fun _ _ _ _ _ => pts_one (pt_cmpR (notInD_at (K := K) rfl hu65) (pv 6) (pv 2) (by rfl))) (fun _ _ _ _ _ => (pv 6))) pa_nil)))) pss_nil)))) pss_nil)))
      (pss_one (ps_ret (pe_callB (Ka.cr_sortG hr.units) (by rfl) N.sorted (by decide +kernel) (pa_cons (pv 2) pa_nil))))), ?_⟩
    have mc0 := List.mem_of_getElem? hc0
    have hcv : (cs.map fun c => V.ref c.a)[0]? = some (.ref c0.a) := by rw [List.getElem?_map, hc0]; rfl
    refine ⟨_, rfl, a, _, _, .ref c0.a, rfl, rfl, hC.1, atI_nat (j := 0) hcv, c0.a, _, _, .str c0.nm, rfl, rfl, (hC.2 c0 mc0).t, rfl, smallE (by show 2 ≤ 1000000; decide), fun e1 n1 => ⟨smallE (by show 1 ≤ 1000000; decide), fun q1 nq1 => ?_⟩⟩
    have s1 := same_new (o := .tup [V.str c0.nm, V.int 0]) n1
    have et1 : upd H e1 (.tup [V.str c0.nm, V.int 0]) e1 = some (.tup (stV (c0.nm, 0))) := upd_same
    generalize upd H e1 (.tup [V.str c0.nm, V.int 0]) = H1 at s1 et1 nq1
    have s2 := same_new (o := .lst [V.ref e1]) nq1
    have eq1 : upd H1 q1 (.lst [V.ref e1]) q1 = some (.lst [V.ref e1]) := upd_same
    generalize upd H1 q1 (.lst [V.ref e1]) = H2 at s2 eq1
    have nq := s1.free nq1
    refine ⟨60, rfl, by decide, by decide, ?_⟩
    refine for_it walk_r0 (n := 60) (fun i σ Z => ∃ (L : List (Addr × Stg)) (x3 x4 x5 x6 : Option V), σ = [some (.ref a), some (.ref d), some (.ref q1), x3, x4, x5, x6] ∧ Same H Z ∧ Z q1 = some (.lst (L.map fun t => V.ref t.1)) ∧ (∀ t ∈ L, Z t.1 = some (.tup (stV t.2)) ∧ hasR R t.2 = true) ∧ (c0.nm, 0) ∈ L.map (·.2) ∧ L.length ≤ 1 + 100 * i) ⟨[(e1, c0.nm, 0)], none, none, none, none, rfl, s1.trans s2, eq1, fun t ht => ?_, List.mem_singleton.mpr rfl, Nat.le_refl _⟩ (fun i σ Z _ h => True.intro) (fun i x σ Z Z' hi h y => ?_) (fun σ Z h => ?_)
    · rw [List.mem_singleton.mp ht]
      exact ⟨s2 _ _ et1, h0⟩
    · obtain ⟨rfl, rfl⟩ := y
      obtain ⟨L, x3, x4, x5, x6, rfl, sZ, eZ, tL, m0, lL⟩ := h
      refine ⟨_, rfl, _, rfl, q1, _, rfl, .inl (sqL_new eZ), _, _, rfl, rfl, _, rfl, ?_⟩
      rw [List.length_map]
      refine ite2 (fun el => ?_) (fun el => ?_)
      · have el : i < L.length := Int.ofNat_lt.mp (of_decide_eq_true el)
        obtain ⟨t, ht⟩ : ∃ t, L[i]? = some t := ⟨L[i]'el, List.getElem?_eq_getElem el⟩
        have htv : (L.map fun t => V.ref t.1)[i]? = some (.ref t.1) := by rw [List.getElem?_map, ht]; rfl
        obtain ⟨et, hrt⟩ := tL t (List.mem_of_getElem? ht)
        obtain ⟨c, mc, n1', n2'⟩ := mem_stagesOf.mp (by
          obtain ⟨u, hu, e⟩ := List.mem_map.mp (hasR_iff.mp hrt)
          rw [← e]
          exact iR.key u hu : t.2 ∈ stagesOf cs)
        have ex : t.2 = (c.nm, t.2.2) := Prod.ext n1'.symm rfl
        rw [ex] at et
        refine ⟨_, rfl, _, rfl, _, rfl, q1, _, _, .ref t.1, rfl, rfl, sqL_new eZ, atI_nat htv, a, t.1, cs, c, t.2.2, rfl, hC.mono sZ, ok, mc, et, fun Z2 q2 s3 nq2 mo => ?_⟩
        have hne : q2 ≠ q1 := fun z => by
          rw [z, eZ] at nq2
          cases nq2
        obtain ⟨Lo, o1, o2, o3⟩ := mo
        have lo : (offs c t.2.2).length ≤ 50 := Nat.le_trans (offs_len c t.2.2) (l50 c mc)
        refine ⟨q2, rfl, ⟨_, sqL_new o1⟩, ?_⟩
        have lLo : Lo.length = (offs c t.2.2).length := by
          have := congrArg List.length o2
          unfold offV at this
          rw [List.length_map, List.length_map] at this
          exact this
        refine for_it (walk_list (K := K) (a := q2) (xs := Lo.map fun t => V.ref t.1)) (fun j σ Z => ∃ (L : List (Addr × Stg)) (x4 x5 x6 : Option V), σ = [some (.ref a), some (.ref d), some (.ref q1), some (.int (i : Nat)), x4, x5, x6] ∧ Same H Z ∧ Z q2 = some (.lst (Lo.map fun t => V.ref t.1)) ∧ (∀ t ∈ Lo, Z t.1 = some (.tup t.2)) ∧ Z q1 = some (.lst (L.map fun t => V.ref t.1)) ∧ (∀ t ∈ L, Z t.1 = some (.tup (stV t.2)) ∧ hasR R t.2 = true) ∧ (c0.nm, 0) ∈ L.map (·.2) ∧ L.length ≤ 1 + 100 * i + 2 * j ∧ L[i]? = some t) ⟨L, x4, x5, x6, rfl, sZ.trans s3, o1, o3, s3 _ _ eZ, fun u hu => ⟨s3 _ _ (tL u hu).1, (tL u hu).2⟩, m0, lL, ht⟩ (fun j σ Z _ h => ?_) (fun j x σ Z Z' hj h y => ?_) (fun σ Z h => ?_)
        · obtain ⟨_, _, _, _, _, _, e, _⟩ := h
          exact sqL_new e
        · obtain ⟨rfl, hy⟩ := y
          obtain ⟨t2, ht2, rfl⟩ := get_map hy
          obtain ⟨L, x4, x5, x6, rfl, sZ, o1, o3, eZ, tL, m0, lL, ht⟩ := h
          rw [List.length_map] at hj
          obtain ⟨n, hn, et2⟩ := offV_at o2 ht2
          obtain ⟨st, hst, hsn⟩ := offs_lt (List.mem_of_getElem? hn)
          have hstm := List.mem_of_getElem? hst
          have e2 := o3 t2 (List.mem_of_getElem? ht2)
          rw [et2, hst] at e2
          have e2 : Z' t2.1 = some (.tup [V.int (n : Int), V.ref st.1]) := e2
          have hcS := (hC.2 c mc).p st hstm
          have htv : (L.map fun t => V.ref t.1)[i]? = some (.ref t.1) := by rw [List.getElem?_map, ht]; rfl
          have et := (tL t (List.mem_of_getElem? ht)).1
          rw [ex] at et
          refine ⟨t2.1, _, rfl, sqT_new e2, rfl, _, _, rfl, _, _, rfl, rfl, ?_⟩
          refine ⟨_, rfl, _, rfl, _, rfl, q1, _, _, .ref t.1, rfl, rfl, sqL_new eZ, atI_nat htv, _, rfl, d, t.1, st.1, c.nm, t.2.2, st.2, R, rfl, et, sZ _ _ hcS, hR.mono sZ, iR.l4 n15, fun hjn Z3 s4 => ?_, fun row hrow lrow Z3 q3 s4 hq3 => ?_⟩
          · refine ⟨rfl, _, rfl, iteNo rfl ?_⟩
            exact ⟨L, _, _, x6, rfl, sZ.trans s4, s4 _ _ o1, fun u hu => s4 _ _ (o3 u hu), s4 _ _ eZ, fun u hu => ⟨s4 _ _ (tL u hu).1, (tL u hu).2⟩, m0, by omega, ht⟩
          · refine ⟨rfl, _, rfl, iteYes rfl ?_⟩
            have sZ3 := sZ.trans s4
            have eZ3 := s4 _ _ eZ
            refine ⟨_, rfl, Or.inl ⟨rfl, _, sqL_new eZ3⟩, _, rfl, _, rfl, q1, _, _, .ref t.1, rfl, rfl, sqL_new eZ3, atI_nat htv, _, rfl, t.1, st.1, c.nm, t.2.2, st.2, rfl, s4 _ _ et, sZ3 _ _ hcS, fun Z4 q4 s5 nq4 hp4 => ?_⟩
            obtain ⟨Lp, p1, p2, p3⟩ := hp4
            have lp : Lp.length ≤ 2 := by
              have := partsS_len c.nm st.2
              rw [← p2, List.length_map] at this
              exact this
            have eZ4 := s5 _ _ eZ3
            have tL4 : ∀ u ∈ L, Z4 u.1 = some (.tup (stV u.2)) ∧ hasR R u.2 = true := fun u hu => ⟨s5 _ _ (s4 _ _ (tL u hu).1), (tL u hu).2⟩
            have hnm : ∀ x, hasR R x = true → isName x.1 = true := fun x hx => by
              obtain ⟨u, hu, e⟩ := List.mem_map.mp (hasR_iff.mp hx)
              obtain ⟨c', mc', n', _⟩ := mem_stagesOf.mp (iR.key u hu)
              rw [← e, ← n']
              exact (ok.ok c' mc').nm
            have hrp : ∀ u ∈ Lp, hasR R u.2 = true := fun u hu => joinR_has hrow (by rw [← p2]; exact List.mem_map.mpr ⟨u, hu, rfl⟩)
            refine ⟨q4, rfl, ⟨_, sqL_new p1⟩, fun D nD => ?_⟩
            refine lc_it (walk_list (K := K) (a := q4) (xs := Lp.map fun t => V.ref t.1)) (fun k G => Same Z4 G ∧ ∃ M : List (Addr × Stg), G D = some (.lst (M.map fun t => V.ref t.1)) ∧ (∀ u ∈ M, u ∈ Lp) ∧ M.length ≤ k) ⟨same_new nD, [], upd_same, fun u hu => (nomatch hu), Nat.le_refl _⟩ (fun _ _ _ h => sqL_new (h.1 _ _ p1)) (fun k x G G' hk h y => ?_) (fun G h => ?_)
            · obtain ⟨rfl, hy⟩ := y
              obtain ⟨u, hu, rfl⟩ := get_map hy
              obtain ⟨sG, M, eM, mM, lM⟩ := h
              have mu := List.mem_of_getElem? hu
              rw [List.length_map] at hk
              refine ⟨rfl, _, rfl, _, rfl, stD u.2, (L.map (·.2)).map stD, dpStD (sG _ _ (p3 u mu)), .lst (sqL_new (sG _ _ eZ4)) (dpStDs fun v hv => sG _ _ (tL4 v hv).1), ?_, ?_, _, rfl, ?_⟩
              · exact shStD1 (hnm _ (hrp u mu))
              · exact shStD fun x hx => by
                  obtain ⟨v, hv, e⟩ := List.mem_map.mp hx
                  rw [← e]
                  exact hnm _ (tL4 v hv).2
              · refine ite2 (fun _ => ?_) (fun _ => ?_)
                · refine ⟨_, rfl, _, eM, by rw [List.length_map]; exact small (by omega), fun b o eb => ?_, M ++ [u], ?_, fun v hv => ?_, ?_⟩
                  · rw [upd_ne (ne_of_none eb nD)]
                    exact sG _ _ eb
                  · rw [upd_same, List.map_append]
                    rfl
                  · rcases List.mem_append.mp hv with z | z
                    · exact mM v z
                    · rw [List.mem_singleton.mp z]
                      exact mu
                  · rw [List.length_append]
                    show M.length + 1 ≤ k + 1
                    omega
                · exact ⟨sG, M, eM, mM, by omega⟩
            · obtain ⟨sG, M, eM, mM, lM⟩ := h
              rw [List.length_map] at lM
              refine ⟨q1, D, _, _, rfl, rfl, sG _ _ eZ4, eM, by rw [List.length_map, List.length_map]; exact smallE (by omega), ?_⟩
              have sAll : Same H G := (sZ3.trans s5).trans sG
              have keep : ∀ {b : Addr} {o : HO}, G b = some o → b ≠ q1 → upd G q1 (.lst (L.map (fun t => V.ref t.1) ++ M.map fun t => V.ref t.1)) b = some o := fun e ne => by rw [upd_ne ne]; exact e
              have eqG := sG _ _ eZ4
              have ktup : ∀ {b : Addr} {xs : List V}, G b = some (.tup xs) → upd G q1 (.lst (L.map (fun t => V.ref t.1) ++ M.map fun t => V.ref t.1)) b = some (.tup xs) := fun e => keep e (fun z => by rw [z, eqG] at e; cases e)
              refine ⟨L ++ M, _, _, x6, rfl, fun b o eb => ?_, ?_, fun u hu => ?_, ?_, fun u hu => ?_, ?_, ?_, ?_⟩
              · rw [upd_ne (ne_of_none eb nq)]
                exact sAll _ _ eb
              · refine keep (sG _ _ (s5 _ _ (s4 _ _ o1))) hne
              · exact ktup (sG _ _ (s5 _ _ (s4 _ _ (o3 u hu))))
              · rw [upd_same, List.map_append]
              · rcases List.mem_append.mp hu with z | z
                · exact ⟨ktup (sG _ _ (tL4 u z).1), (tL4 u z).2⟩
                · exact ⟨ktup (sG _ _ (p3 u (mM u z))), hrp u (mM u z)⟩
              · rw [List.map_append]
                exact List.mem_append.mpr (.inl m0)
              · rw [List.length_append]
                omega
              · rw [List.getElem?_append_left (lt_of_get ht)]
                exact ht
        · obtain ⟨L, x4, x5, x6, rfl, sZ, _, _, eZ, tL, m0, lL, _⟩ := h
          rw [List.length_map] at lL
          exact ⟨L, _, x4, x5, x6, rfl, sZ, eZ, tL, m0, by omega⟩
      · exact ⟨L, _, x4, x5, x6, rfl, sZ, eZ, tL, m0, by omega⟩
    · obtain ⟨L, x3, x4, x5, x6, rfl, sZ, eZ, tL, m0, lL⟩ := h
      have hz0 : Ka.hzV (L.map spZ) = L.map fun t => V.ref t.1 := by
        unfold Ka.hzV
        rw [List.map_map]
        rfl
      refine ⟨_, rfl, q1, L.map spZ, rfl, by rw [hz0]; exact sqL_new eZ, fun z hz => ?_, fun z hz y hy => ?_, fun z hz => ?_, fun z hz => ?_, fun q3 nq3 => ?_⟩
      · obtain ⟨t, ht, rfl⟩ := List.mem_map.mp hz
        exact dpStD (tL t ht).1
      · obtain ⟨t, ht, rfl⟩ := List.mem_map.mp hz
        obtain ⟨u, hu, rfl⟩ := List.mem_map.mp hy
        simp [spZ, PySem.W.alike, PySem.W.alikeAll]
      · obtain ⟨t, ht, rfl⟩ := List.mem_map.mp hz
        exact ⟨_, _, rfl⟩
      · obtain ⟨t, ht, rfl⟩ := List.mem_map.mp hz
        simp [spZ, PyData.depth, PyData.depthAll]
      · have hS2 : Ka.hzV ((L.map spZ).mergeSort Ka.hzLe) = (L.mergeSort fun x y => stLe x.2 y.2).map fun t => V.ref t.1 := by
          rw [← PySem.W.sort_maps (r := fun x y : SP => stLe x.2 y.2) (s := Ka.hzLe) spZ (l := L) (fun x _ y _ => rfl)]
          unfold Ka.hzV
          rw [List.map_map]
          rfl
        rw [hS2]
        refine q _ q3 ((L.mergeSort fun x y => stLe x.2 y.2).map (·.2)) (sZ.trans (same_new nq3)) (sZ.free nq3) ⟨_, upd_same, rfl, fun t ht => same_new nq3 _ _ (tL t (List.mem_mergeSort.mp ht)).1⟩ (fun x hx => ?_) ?_ ?_
        · obtain ⟨t, ht, rfl⟩ := List.mem_map.mp hx
          exact (tL t (List.mem_mergeSort.mp ht)).2
        · obtain ⟨t, ht, e⟩ := List.mem_map.mp m0
          exact List.mem_map.mpr ⟨t, List.mem_mergeSort.mpr ht, e⟩
        · rw [List.length_map, List.length_mergeSort]
          omega
end
end Kb
namespace Kb
open PySem PySem.Spec PyProof.Rows L2
/-! ### the law's own look -/
theorem inV_nat (k : Nat) : ∀ es : List Nat, inV (.int (k : Int)) (natV es) = decide (k ∈ es)
  | [] => by simp [inV, natV]
  | y :: es => by
    have ih := inV_nat k es
    unfold inV natV at ih ⊢
    rw [List.map_cons, List.any_cons, ih]
    show (((y : Int) == (k : Int)) || _) = _
    by_cases h1 : y = k
    · subst h1
      simp
    · have h2 : ¬ k = y := fun e => h1 e.symm
      have h3 : ¬ (y : Int) = (k : Int) := fun e => h1 (by omega)
      simp [h1, h2, h3]
theorem flat_nats (es : List Nat) : (natV es).all flatV = true := by
  unfold natV
  rw [List.all_map, List.all_eq_true]
  exact fun _ _ => rfl
section
variable {P : Program} {w : World} {K : PySem.W.Frag} {mg : Str → Option Value} {base : Heap}
def spLawLooks (K : PySem.W.Frag) : Sp := fun vs H Q _ => ∃ (a dl d : Addr) (cs : List CA) (ps : List DP) (ks : List Str) (R : List RA), vs = [.ref a, .ref dl, .ref d] ∧ CsAt K H a cs ∧ CsOk cs ∧ H dl = some (.dK (byKV ps)) ∧ DOk ps ∧ IsDesks ps ks ∧ RowsAt K H d R ∧ RwOk cs ps R ∧
  ∀ H' v, Same H H' → LookV H' v (looksL ps ks R cs (srt (R.map (·.1)))) → Q v H'
abbrev nLk : List Str := ["courses", "deal", "rows", "stage", "number", "step", "row"]
theorem scLk : FnScope nLk ["courses", "deal", "rows"] (defScope sLawLooks) := ⟨rfl, rfl, rfl, by decide +kernel, rfl, by decide +kernel, by decide +kernel⟩
theorem ok_lawlooks {f fN fO fJ fB : Addr} {fd fdN fdO fdJ fdB : FuncData} (F : Fun K "_law_looks" "_law_looks" sLawLooks f fd) (N : Nones mg) (G__law_by_name : FnOk P w K mg base CX0 1 fN fdN ["courses"] (spLawByName K)) (C__law_by_name : CallC K mg "_law_by_name" ["courses"] fN fdN)
    (G__law_off : FnOk P w K mg base CX0 2 fO fdO ["courses", "stage"] (spLawOff K)) (C__law_off : CallC K mg "_law_off" ["courses", "stage"] fO fdO) (G__law_joined : FnOk P w K mg base CX0 2 fJ fdJ ["rows", "stage", "step"] (spLawJoined K)) (C__law_joined : CallC K mg "_law_joined" ["rows", "stage", "step"] fJ fdJ)
    (G__law_by : FnOk P w K mg base CX0 2 fB fdB ["deal", "u", "v"] (spLawBy K)) (C__law_by : CallC K mg "_law_by" ["deal", "u", "v"] fB fdB) : FnOk P w K mg base CX0 3 f fd ["courses", "deal", "rows"] (spLawLooks K) := by
  refine F.ok scLk (fun vs H Q E h => ?_) (fun cdv A outer s0 H vs Q E hr h => ?_)
  · obtain ⟨a, dl, d, cs, ps, ks, R, rfl, _⟩ := h
    rfl
  · obtain ⟨a, dl, d, cs, ps, ks, R, rfl, hC, ok, hD, dok, isd, hR, rok, q⟩ := h
    refine ⟨_, pss_cons (ps_for PassesOwn.never rfl (pi_list (pe_callB (Ka.cr_sortT rfl hr.units) (by rfl) N.sorted (by decide +kernel) (pa_cons (pv 2) pa_nil))) (pg_name (i := 3) scLk.nd rfl (Or.inl rfl))
        (pss_cons (ps_if (PW.pt (pw_and (pt_cmpR op_in_seq (pe_ix ix_tup (pv 3) pe_int (fun _ _ => rfl)) (pe_ix ix_tup (pe_dget (hu_of hr) (pe_call G__law_by_name (hr.mono (by decide)) (by rfl) C__law_by_name.g C__law_by_name.kp C__law_by_name.b .nil pass0 (pa_cons (pv 0) pa_nil)) (pe_ix ix_tup (pv 3) pe_int (fun _ _ => rfl)) (fun _ _ => rfl)) pe_int (fun _ _ => rfl)) (by rfl)) (pw_and1 (pt_cmpR (op_neD hr.units) (pe_dget (hu_of hr) (pv 2) (pv 3) (fun _ _ => rfl)) (pe_tup pa_nil) (nomark _))))) (pss_one (ps_ret (pe_tup (pa_cons (pv 3) (pa_cons (pe_op op_sub pe_int pe_int) pa_nil))))) pss_nil)
        (pss_one (ps_for PassesOwn.never rfl (pi_list (pe_call G__law_off (hr.mono (by decide)) (by rfl) C__law_off.g C__law_off.kp C__law_off.b .nil pass0 (pa_cons (pv 0) (pa_cons (pv 3) pa_nil)))) (pg_tup rfl (pgs_cons (pg_name (i := 4) scLk.nd rfl (Or.inl rfl)) (pgs_cons (pg_name (i := 5) scLk.nd rfl (Or.inl rfl)) pgs_nil)))
          (pss_cons (ps_set (i := 6) scLk.nd rfl (Or.inl rfl) (pe_call G__law_joined (hr.mono (by decide)) (by rfl) C__law_joined.g C__law_joined.kp C__law_joined.b .nil pass0 (pa_cons (pv 2) (pa_cons (pv 3) (pa_cons (pv 5) pa_nil)))))
          (pss_one (ps_if (PW.pt (pw_and (pt_cmpR op_notN (pv 6) pe_non (nomark _)) (pw_and1 (pt_not (pt_val (pe_call G__law_by (hr.mono (by decide)) (by rfl) C__law_by.g C__law_by.kp C__law_by.b .nil pass0 (pa_cons (pv 1) (pa_cons (pe_dget (hu_of hr) (pv 2) (pv 3) (fun _ _ => rfl)) (pa_cons (pv 6) pa_nil))))))))) (pss_one (ps_ret (pe_tup (pa_cons (pv 3) (pa_cons (pv 4) pa_nil))))) pss_nil)))))))
      (pss_one (ps_ret pe_non)), ?_⟩
    refine ⟨_, rfl, d, rowKV R, rfl, hR.d, fun x hx y hy => ?_, fun x hx => ?_, fun rs l hrs hat nl => ?_⟩
    · obtain ⟨t, _, rfl⟩ := List.mem_map.mp hx
      obtain ⟨u, _, rfl⟩ := List.mem_map.mp hy
      simp [Ka.keysD, stK, Ka.keyD, PySem.W.alike, PySem.W.alikeAll]
    · obtain ⟨t, _, rfl⟩ := List.mem_map.mp hx
      simp [stK]
    have hkm : (rowKV R).map (·.1) = (R.map (·.1)).map stK := by
      unfold rowKV
      rw [List.map_map, List.map_map]
      rfl
    rw [hkm, ← srt_keys] at hrs
    have s12 := same_new (o := .lst (rs.map fun r => V.ref r.1)) nl
    have el : upd H l (.lst (rs.map fun r => V.ref r.1)) l = some (.lst (rs.map fun r => V.ref r.1)) := upd_same
    have hat := fun r hr => s12 _ _ (hat r hr)
    generalize upd H l (.lst (rs.map fun r => V.ref r.1)) = H2 at s12 el hat
    have smem : ∀ x ∈ srt (R.map (·.1)), x ∈ R.map (·.1) := fun x hx => List.mem_mergeSort.mp hx
    have slen : rs.length = (srt (R.map (·.1))).length := by
      have := congrArg List.length hrs
      rwa [List.length_map, List.length_map] at this
    generalize srt (R.map (·.1)) = X at hrs smem slen q
    refine ⟨l, rfl, ⟨_, sqL_new el⟩, ?_⟩
    refine for_it (walk_list (K := K) (a := l) (xs := rs.map fun r => V.ref r.1)) (fun i σ Z => ∃ x3 x4 x5 x6 : Option V, σ = [some (.ref a), some (.ref dl), some (.ref d), x3, x4, x5, x6] ∧ Same H2 Z ∧ looksL ps ks R cs X = looksL ps ks R cs (X.drop i)) ⟨none, none, none, none, rfl, fun _ _ e => e, rfl⟩ (fun i σ Z _ h => ?_) (fun i y σ Z Z' hi h yy => ?_) (fun σ Z h => ?_)
    · obtain ⟨_, _, _, _, _, sZ, _⟩ := h
      exact sqL_new (sZ _ _ el)
    · obtain ⟨rfl, hy⟩ := yy
      obtain ⟨r, hr1, rfl⟩ := get_map hy
      obtain ⟨x3, x4, x5, x6, rfl, sZ, hl⟩ := h
      have hrl := lt_of_get hr1
      have hx : X[i]? = some (X[i]'(by omega)) := List.getElem?_eq_getElem _
      generalize X[i]'(by omega) = x at hx
      have hrx : r.2 = stK x := by
        have e1 : (rs.map (·.2))[i]? = some r.2 := by rw [List.getElem?_map, hr1]; rfl
        rw [hrs, List.getElem?_map, hx] at e1
        exact (Option.some.inj e1).symm
      obtain ⟨t, ht, etx⟩ := List.mem_map.mp (smem x (List.mem_of_getElem? hx))
      obtain ⟨c, mc, n1, n2⟩ := rok.key t ht
      rw [etx] at n1 n2
      have ex : (c.nm, x.2) = x := Prod.ext n1 rfl
      have sHZ := s12.trans sZ
      have hkey : Z' r.1 = some (.tup (stV (c.nm, x.2))) := by
        rw [ex]
        have := sZ _ _ (hat r (List.mem_of_getElem? hr1))
        rw [hrx] at this
        exact this
      obtain ⟨y, hrow⟩ : ∃ y, rowA R x = some y := by
        have h1 : (valV (rowKV R) (stK x)).isSome = true := by
          have hm : stK x ∈ (rowKV R).map (·.1) := by
            rw [hkm]
            exact List.mem_map.mpr ⟨x, List.mem_map.mpr ⟨t, ht, etx⟩, rfl⟩
          exact valV_some hm
        rw [valV_rows] at h1
        cases e : rowA R x with
        | none =>
          rw [e] at h1
          cases h1
        | some y => exact ⟨y, rfl⟩
      have hym := rowA_mem hrow
      have ynm := rok.nm _ hym
      have ybd := rok.bad _ hym
      have yln : y.2.length ≤ 40000 := rok.len _ hym
      have g1 : ∀ {G : Hp}, Same Z' G → DGet G d (.ref r.1) (some (.ref y.1)) := fun {G} s => .inr ⟨rowKV R, stK x, r.1, (Rd.mono hR.d (sHZ.trans s)), rfl, by rw [s _ _ hkey, ex]; rfl, by rw [valV_rows, hrow]; rfl⟩
      have hyS : ∀ {G : Hp}, Same Z' G → SqT K G y.1 (y.2.map V.str) := fun s => Same.sqT (sHZ.trans s) (hR.r _ hym)
      have hcr : crsOf cs x.1 = some c := by rw [← n1]; exact crsOf_mem ok.nd mc
      have hdrop := drop_of_get hx
      have hunf : looksL ps ks R cs (X.drop i) = if x.2 ∈ c.es ∧ y.2 ≠ [] then some (x, -1) else match badAt ps ks R c y.2 (offs c x.2) with
          | some j => some (x, (j : Int))
          | none => looksL ps ks R cs (X.drop (i + 1)) := by
        rewrite [hdrop, looksL, hcr, hrow]
        first
        | (dsimp only; done)
        | (dsimp only
           by_cases hh : x.2 ∈ c.es ∧ y.2 ≠ []
           · rw [if_pos hh, if_pos hh]
           · rw [if_neg hh, if_neg hh]
             cases badAt ps ks R c y.2 (offs c x.2) <;> rfl)
      have cc := hC.2 c mc
      refine ⟨_, rfl, r.1, _, _, .int (x.2 : Int), rfl, rfl, sqT_new hkey, rfl, _, rfl, a, cs, rfl, hC.mono sHZ, ok.nd, by have := ok.n8; omega, fun G9 d9 s9 nd9 e9 => ?_⟩
      have g9 : DGet G9 d9 (.str c.nm) (some (.ref c.a)) := by
        have := DGet.k (k := Sum.inr c.nm) e9
        rw [nm_at ok.nd mc] at this
        exact this
      refine ⟨_, rfl, r.1, _, _, .str c.nm, rfl, rfl, sqT_new (s9 _ _ hkey), rfl, d9, .ref c.a, rfl, g9, c.a, _, _, .ref c.ea, rfl, rfl, Same.sqT (sHZ.trans s9) cc.t, rfl, ?_⟩
      refine ⟨c.ea, _, rfl, .inr (Same.sqT (sHZ.trans s9) cc.e), rfl, flat_nats _, _, rfl, ?_⟩
      rw [if_neg (by decide), inV_nat]
      refine ite2 (fun c0 => ?_) (fun c0 => iteF ?_)
      · have he : x.2 ∈ c.es := of_decide_eq_true c0
        refine ⟨_, rfl, _, rfl, d, .ref y.1, rfl, g1 s9, Nat.zero_le _, fun e ne => ?_⟩
        have sG := s9.trans (same_new (o := .tup []) ne)
        refine ⟨Ka.rowD y.2, Ka.rowD [], .tup (hyS sG) (dpRs _), .tup (sqT_new upd_same) .nil, shR ynm, by decide +kernel, ?_⟩
        rw [eqR]
        refine ⟨_, rfl, ite2 (fun c1 => ?_) (fun c1 => ?_)⟩
        · have hy0 : y.2 ≠ [] := fun z => by rw [z] at c1; simp at c1
          refine ⟨_, rfl, 0, 1, rfl, rfl, smallE (by show 2 ≤ 1000000; decide), fun q3 n3 => ?_⟩
          have s3 := same_new (o := .tup [V.ref r.1, V.int (-1)]) n3
          refine q _ (.ref q3) ((sHZ.trans sG).trans s3) ?_
          rw [hl, hunf, if_pos ⟨he, hy0⟩]
          exact ⟨q3, r.1, rfl, upd_same, by rw [← ex]; exact s3 _ _ (sG _ _ hkey)⟩
        · have hy0 : y.2 = [] := by simpa using c1
          have hno : ¬ (x.2 ∈ c.es ∧ y.2 ≠ []) := fun z => z.2 hy0
          generalize upd G9 e (.tup []) = G0 at sG
          refine ⟨_, rfl, _, rfl, a, r.1, cs, c, x.2, rfl, hC.mono (sHZ.trans sG), ok, mc, sG _ _ hkey, fun G1 l1 sG1 nl1 out => ?_⟩
          have s1G := sG.trans sG1
          obtain ⟨Lo, o1, o2, o3⟩ := out
          refine ⟨l1, rfl, ⟨_, sqL_new o1⟩, ?_⟩
          have lLo : Lo.length = (offs c x.2).length := by
            have := congrArg List.length o2
            unfold offV at this
            rw [List.length_map, List.length_map] at this
            exact this
          refine for_it (walk_list (K := K) (a := l1) (xs := Lo.map fun t => V.ref t.1)) (fun j σ Y => ∃ x4 x5 x6 : Option V, σ = [some (.ref a), some (.ref dl), some (.ref d), some (.ref r.1), x4, x5, x6] ∧ Same G1 Y ∧ badAt ps ks R c y.2 (offs c x.2) = badAt ps ks R c y.2 ((offs c x.2).drop j)) ⟨x4, x5, x6, rfl, fun _ _ e => e, rfl⟩ (fun j σ Y _ h => ?_) (fun j z σ Y Y' hj h yy => ?_) (fun σ Y h => ?_)
          · obtain ⟨_, _, _, _, sY, _⟩ := h
            exact sqL_new (sY _ _ o1)
          · obtain ⟨rfl, hz⟩ := yy
            obtain ⟨t, ht, rfl⟩ := get_map hz
            obtain ⟨x4, x5, x6, rfl, sY, hbad⟩ := h
            obtain ⟨n, hoj, et2⟩ := offV_at o2 ht
            obtain ⟨st, hst, hsn⟩ := offs_lt (List.mem_of_getElem? hoj)
            have t1 := o3 t (List.mem_of_getElem? ht)
            rw [et2, hst] at t1
            have t1 : G1 t.1 = some (.tup [V.int (n : Int), V.ref st.1]) := t1
            have hdo := drop_of_get hoj
            have sYt := s1G.trans sY
            have hstm := List.mem_of_getElem? hst
            have hcS := (sHZ.trans sYt) _ _ ((hC.2 c mc).p st hstm)
            refine ⟨t.1, _, rfl, sqT_new (sY _ _ t1), rfl, _, _, rfl, _, _, rfl, rfl, ?_⟩
            refine ⟨_, rfl, _, rfl, _, rfl, d, r.1, st.1, c.nm, x.2, st.2, R, rfl, sYt _ _ hkey, hcS, hR.mono (sHZ.trans sYt), rok.len, fun hjr Y1 sY1 => ?_, fun row hjr lrow Y1 q2 sY1 hq2 => ?_⟩
            · refine ⟨_, rfl, rfl, _, rfl, iteNo rfl (iteNo rfl ?_)⟩
              exact ⟨_, _, _, rfl, sY.trans sY1, by rw [hbad, hdo, badAt, hst]; dsimp only; rw [hjr]⟩
            · have sY1t := sYt.trans sY1
              have rbd : ∀ z ∈ row, (deskOf ps z).isSome = true := catL_all rok.bad (fun z hz => by
                unfold initR at hz
                split at hz
                · cases hz
                · rename_i hcf
                  rw [List.mem_singleton.mp hz]
                  exact rok.dd c mc st hstm (by simpa using hcf)) hjr
              refine ⟨_, rfl, rfl, _, rfl, iteYes rfl ?_⟩
              refine ⟨_, rfl, _, rfl, _, rfl, d, .ref y.1, rfl, g1 sY1t, _, rfl, dl, y.1, q2, ps, y.2, row, rfl, sHZ.trans sY1t _ _ hD, dok, hyS sY1t, by omega, bad_sm ybd, hq2, lrow, bad_sm rbd, fun Y3 sY3 => ?_⟩
              rw [by_eq isd]
              have sY3t := sY1t.trans sY3
              refine ⟨_, rfl, ?_⟩
              cases hw : withinB ps y.2 row ks with
              | true =>
                refine iteF ?_
                exact ⟨_, _, _, rfl, (sY.trans sY1).trans sY3, by rw [hbad, hdo, badAt, hst]; dsimp only; rw [hjr]; dsimp only; rw [if_pos hw]⟩
              | false =>
                refine iteT ?_
                refine ⟨_, rfl, _, rfl, smallE (by show 2 ≤ 1000000; decide), fun q3 n3 => ?_⟩
                have hres : looksL ps ks R cs X = some (x, (n : Int)) := by
                  rw [hl, hunf, if_neg hno, hbad, hdo, badAt, hst]
                  dsimp only
                  rw [hjr]
                  dsimp only
                  rw [if_neg (by rw [hw]; decide)]
                have s3 := same_new (o := .tup [V.ref r.1, V.int (n : Nat)]) n3
                refine q _ (.ref q3) ((sHZ.trans sY3t).trans s3) ?_
                rw [hres]
                exact ⟨q3, r.1, rfl, upd_same, by rw [← ex]; exact s3 _ _ (sY3t _ _ hkey)⟩
          · obtain ⟨x4, x5, x6, rfl, sY, hbad⟩ := h
            refine ⟨_, _, _, _, rfl, (sZ.trans s1G).trans sY, ?_⟩
            rw [hl, hunf, if_neg hno, hbad, List.length_map, List.drop_eq_nil_of_le (by omega)]
            rfl
      · have hno : ¬ (x.2 ∈ c.es ∧ y.2 ≠ []) := fun z => c0 (decide_eq_true z.1)
        have sG : Same Z' G9 := s9
        refine ⟨_, rfl, _, rfl, a, r.1, cs, c, x.2, rfl, hC.mono (sHZ.trans sG), ok, mc, sG _ _ hkey, fun G1 l1 sG1 nl1 out => ?_⟩
        have s1G := sG.trans sG1
        obtain ⟨Lo, o1, o2, o3⟩ := out
        refine ⟨l1, rfl, ⟨_, sqL_new o1⟩, ?_⟩
        have lLo : Lo.length = (offs c x.2).length := by
          have := congrArg List.length o2
          unfold offV at this
          rw [List.length_map, List.length_map] at this
          exact this
        refine for_it (walk_list (K := K) (a := l1) (xs := Lo.map fun t => V.ref t.1)) (fun j σ Y => ∃ x4 x5 x6 : Option V, σ = [some (.ref a), some (.ref dl), some (.ref d), some (.ref r.1), x4, x5, x6] ∧ Same G1 Y ∧ badAt ps ks R c y.2 (offs c x.2) = badAt ps ks R c y.2 ((offs c x.2).drop j)) ⟨x4, x5, x6, rfl, fun _ _ e => e, rfl⟩ (fun j σ Y _ h => ?_) (fun j z σ Y Y' hj h yy => ?_) (fun σ Y h => ?_)
        · obtain ⟨_, _, _, _, sY, _⟩ := h
          exact sqL_new (sY _ _ o1)
        · obtain ⟨rfl, hz⟩ := yy
          obtain ⟨t, ht, rfl⟩ := get_map hz
          obtain ⟨x4, x5, x6, rfl, sY, hbad⟩ := h
          obtain ⟨n, hoj, et2⟩ := offV_at o2 ht
          obtain ⟨st, hst, hsn⟩ := offs_lt (List.mem_of_getElem? hoj)
          have t1 := o3 t (List.mem_of_getElem? ht)
          rw [et2, hst] at t1
          have t1 : G1 t.1 = some (.tup [V.int (n : Int), V.ref st.1]) := t1
          have hdo := drop_of_get hoj
          have sYt := s1G.trans sY
          have hstm := List.mem_of_getElem? hst
          have hcS := (sHZ.trans sYt) _ _ ((hC.2 c mc).p st hstm)
          refine ⟨t.1, _, rfl, sqT_new (sY _ _ t1), rfl, _, _, rfl, _, _, rfl, rfl, ?_⟩
          refine ⟨_, rfl, _, rfl, _, rfl, d, r.1, st.1, c.nm, x.2, st.2, R, rfl, sYt _ _ hkey, hcS, hR.mono (sHZ.trans sYt), rok.len, fun hjr Y1 sY1 => ?_, fun row hjr lrow Y1 q2 sY1 hq2 => ?_⟩
          · refine ⟨_, rfl, rfl, _, rfl, iteNo rfl (iteNo rfl ?_)⟩
            exact ⟨_, _, _, rfl, sY.trans sY1, by rw [hbad, hdo, badAt, hst]; dsimp only; rw [hjr]⟩
          · have sY1t := sYt.trans sY1
            have rbd : ∀ z ∈ row, (deskOf ps z).isSome = true := catL_all rok.bad (fun z hz => by
              unfold initR at hz
              split at hz
              · cases hz
              · rename_i hcf
                rw [List.mem_singleton.mp hz]
                exact rok.dd c mc st hstm (by simpa using hcf)) hjr
            refine ⟨_, rfl, rfl, _, rfl, iteYes rfl ?_⟩
            refine ⟨_, rfl, _, rfl, _, rfl, d, .ref y.1, rfl, g1 sY1t, _, rfl, dl, y.1, q2, ps, y.2, row, rfl, sHZ.trans sY1t _ _ hD, dok, hyS sY1t, by omega, bad_sm ybd, hq2, lrow, bad_sm rbd, fun Y3 sY3 => ?_⟩
            rw [by_eq isd]
            have sY3t := sY1t.trans sY3
            refine ⟨_, rfl, ?_⟩
            cases hw : withinB ps y.2 row ks with
            | true =>
              refine iteF ?_
              exact ⟨_, _, _, rfl, (sY.trans sY1).trans sY3, by rw [hbad, hdo, badAt, hst]; dsimp only; rw [hjr]; dsimp only; rw [if_pos hw]⟩
            | false =>
              refine iteT ?_
              refine ⟨_, rfl, _, rfl, smallE (by show 2 ≤ 1000000; decide), fun q3 n3 => ?_⟩
              have hres : looksL ps ks R cs X = some (x, (n : Int)) := by
                rw [hl, hunf, if_neg hno, hbad, hdo, badAt, hst]
                dsimp only
                rw [hjr]
                dsimp only
                rw [if_neg (by rw [hw]; decide)]
              have s3 := same_new (o := .tup [V.ref r.1, V.int (n : Nat)]) n3
              refine q _ (.ref q3) ((sHZ.trans sY3t).trans s3) ?_
              rw [hres]
              exact ⟨q3, r.1, rfl, upd_same, by rw [← ex]; exact s3 _ _ (sY3t _ _ hkey)⟩
        · obtain ⟨x4, x5, x6, rfl, sY, hbad⟩ := h
          refine ⟨_, _, _, _, rfl, (sZ.trans s1G).trans sY, ?_⟩
          rw [hl, hunf, if_neg hno, hbad, List.length_map, List.drop_eq_nil_of_le (by omega)]
          rfl
    · obtain ⟨x3, x4, x5, x6, rfl, sZ, hl⟩ := h
      refine q _ .non (s12.trans sZ) ?_
      rw [hl, List.length_map, List.drop_eq_nil_of_le (by omega)]
      rfl
end
end Kb
namespace Kb
open PySem PySem.Spec PyProof.Rows L2
section
variable {P : Program} {w : World} {K : PySem.W.Frag} {mg : Str → Option Value} {base : Heap}
theorem scBox : FnScope ["script", "k", "cell", "great"] ["script", "k"] (defScope sBox) := ⟨rfl, rfl, rfl, by decide +kernel, rfl, by decide +kernel, by decide +kernel⟩
def spBox (K : PySem.W.Frag) : Sp := fun vs H Q _ => ∃ (a : Addr) (k : Nat) (ns : List Int), vs = [.ref a, .int (k : Nat)] ∧ SqL K H a (intV ns) ∧ k ≤ 3 ∧ ∀ H' p, Same H H' → H p = none → Box H' p → Q (.ref p) H'
theorem ok_box {f : Addr} {fd : FuncData} (F : Fun K "_law_box" "_law_box" sBox f fd) (mi : mg "int" = none) (ml : mg "len" = none) (ma : mg "abs" = none) : FnOk P w K mg base CX0 1 f fd ["script", "k"] (spBox K) := by
  refine F.ok scBox (fun vs H Q E h => ?_) (fun cdv A outer s H vs Q E hr h => ?_)
  · obtain ⟨a, k, ns, rfl, _⟩ := h
    rfl
  · obtain ⟨a, k, ns, rfl, hA, hk, q⟩ := h
    refine ⟨_, pss_cons (ps_set (i := 2) scBox.nd rfl (Or.inl rfl) (pe_op op_add (pe_op op_mul pe_int (pv 1)) pe_int))
      (pss_cons (ps_if (pt_cmpR op_lt (pv 1) (pe_callB call_len_seq (by rfl) ml PySem.boot_len (pa_cons (pv 0) pa_nil)) (nomark _)) (pss_one (ps_set (i := 2) scBox.nd rfl (Or.inl rfl) (pe_callB call_abs (by rfl) ma (by decide +kernel) (pa_cons (pe_callTy call_int1 (by rfl) mi (by decide +kernel) (pa_cons (pe_ix ix_list (pv 0) (pv 1) (fun _ _ => rfl)) pa_nil)) pa_nil)))) (pss_one (ps_if (pt_cmpR op_gt (pe_callB call_len_seq (by rfl) ml PySem.boot_len (pa_cons (pv 0) pa_nil)) pe_int (nomark _)) (pss_one (ps_set (i := 2) scBox.nd rfl (Or.inl rfl) (pe_op op_add (pv 2) (pe_op op_mul (pe_op op_mod (pe_callTy call_int1 (by rfl) mi (by decide +kernel) (pa_cons (pe_callB call_abs (by rfl) ma (by decide +kernel) (pa_cons (pe_callTy call_int1 (by rfl) mi (by decide +kernel) (pa_cons (pe_ix ix_list (pv 0) (pe_op op_mod (pe_callTy call_int1 (by rfl) mi (by decide +kernel) (pa_cons (pv 1) pa_nil)) (pe_callB call_len_seq (by rfl) ml PySem.boot_len (pa_cons (pv 0) pa_nil))) (fun _ _ => rfl)) pa_nil)) pa_nil)) pa_nil)) pe_int) pe_int)))) pss_nil)))
      (pss_cons (ps_set (i := 3) scBox.nd rfl (Or.inl rfl) (pe_ifExp (pt_cmpR op_ge (pv 2) (pe_op op_pow pe_int pe_int) (nomark _)) (pv 2) pe_int))
      (pss_one (ps_ret (pe_lst (pa_cons (pv 3) (pa_cons (pe_op op_add (pe_op op_mod (pe_callTy call_int1 (by rfl) mi (by decide +kernel) (pa_cons (pe_op op_add (pe_op op_add (pe_op op_mul (pe_op op_mod (pe_callTy call_int1 (by rfl) mi (by decide +kernel) (pa_cons (pv 2) pa_nil)) pe_int) pe_int) (pe_op op_mul pe_int (pv 1))) pe_int) pa_nil)) pe_int) pe_int) pa_nil))))))), ?_⟩
    have s1000 : ∀ n, n ≤ 1000000 → n ≤ sizeLine := fun n h => smallE h
    refine ⟨.int (k : Nat), rfl, _, (k : Nat), rfl, rfl, .inl (by decide), _, _, rfl, rfl, ?_⟩
    refine ⟨.int (k : Nat), rfl, .ref a, rfl, a, _, rfl, .inl hA, _, _, rfl, rfl, _, rfl, ?_⟩
    refine ite2 (fun c => ?_) (fun c => ?_)
    · have c := of_decide_eq_true c
      rw [intV_len] at c
      have hg : ns[k]? = some (ns[k]'(by omega)) := List.getElem?_eq_getElem (by omega)
      refine ⟨.ref a, rfl, .int (k : Nat), rfl, a, _, _, _, rfl, rfl, hA, atI_nat (intV_get hg), .inl ⟨_, rfl, _, rfl, ?_⟩⟩
      refine ⟨_, rfl, 10, 18, rfl, rfl, ⟨by decide, by decide, by decide⟩, _, _, rfl, rfl, _, rfl, ite2 (fun _ => ⟨_, rfl, ?_⟩) (fun _ => ?_)⟩
      all_goals
        refine ⟨_, rfl, _, rfl, .inl ⟨_, rfl, _, 2147483629, rfl, rfl, (by show (0 : Int) < 2147483629; decide), _, _, rfl, rfl, .inr (by decide), .int (k : Nat), rfl, _, _, rfl, rfl, .inl (by decide), _, _, rfl, rfl, _, _, rfl, rfl, .inl ⟨_, rfl, _, 2147483629, rfl, rfl, (by show (0 : Int) < 2147483629; decide), _, 1, rfl, rfl, ?_⟩⟩⟩
        exact ⟨s1000 2 (by decide), fun l2 nl2 => q _ l2 (same_new nl2) nl2 ⟨_, _, upd_same⟩⟩
    · refine ⟨.ref a, rfl, a, _, rfl, .inl hA, _, 0, rfl, rfl, _, rfl, ite2 (fun c2 => ?_) (fun c2 => ?_)⟩
      · have c2 := of_decide_eq_true c2
        rw [intV_len] at c2
        obtain ⟨r, hr1, hr2⟩ := mod_nat (k : Int) (n := ns.length) (by omega)
        have hg : ns[r]? = some (ns[r]'(by omega)) := List.getElem?_eq_getElem (by omega)
        refine ⟨_, rfl, .ref a, rfl, .int (k : Nat), rfl, .inl ⟨_, rfl, .ref a, rfl, a, _, rfl, .inl hA, _, _, rfl, rfl, ?_, ?_⟩⟩
        · show (0 : Int) < (((intV ns).length : Nat) : Int)
          rw [intV_len]
          exact c2
        · refine ⟨a, _, _, _, rfl, rfl, hA, at_of (by rw [intV_len]; exact hr2) (intV_get hg), .inl ⟨_, rfl, _, rfl, .inl ⟨_, rfl, _, 2147483629, rfl, rfl, (by show (0 : Int) < 2147483629; decide), _, _, rfl, rfl, .inr (by decide), _, _, rfl, rfl, ?_⟩⟩⟩
          refine ⟨_, rfl, 10, 18, rfl, rfl, ⟨by decide, by decide, by decide⟩, _, _, rfl, rfl, _, rfl, ite2 (fun _ => ⟨_, rfl, ?_⟩) (fun _ => ?_)⟩
          all_goals
            refine ⟨_, rfl, _, rfl, .inl ⟨_, rfl, _, 2147483629, rfl, rfl, (by show (0 : Int) < 2147483629; decide), _, _, rfl, rfl, .inr (by decide), .int (k : Nat), rfl, _, _, rfl, rfl, .inl (by decide), _, _, rfl, rfl, _, _, rfl, rfl, .inl ⟨_, rfl, _, 2147483629, rfl, rfl, (by show (0 : Int) < 2147483629; decide), _, 1, rfl, rfl, ?_⟩⟩⟩
            exact ⟨s1000 2 (by decide), fun l2 nl2 => q _ l2 (same_new nl2) nl2 ⟨_, _, upd_same⟩⟩
      · refine ⟨_, rfl, 10, 18, rfl, rfl, ⟨by decide, by decide, by decide⟩, _, _, rfl, rfl, _, rfl, ite2 (fun _ => ⟨_, rfl, ?_⟩) (fun _ => ?_)⟩
        all_goals
          refine ⟨_, rfl, _, rfl, .inl ⟨_, rfl, _, 2147483629, rfl, rfl, (by show (0 : Int) < 2147483629; decide), _, _, rfl, rfl, .inr (by decide), .int (k : Nat), rfl, _, _, rfl, rfl, .inl (by decide), _, _, rfl, rfl, _, _, rfl, rfl, .inl ⟨_, rfl, _, 2147483629, rfl, rfl, (by show (0 : Int) < 2147483629; decide), _, 1, rfl, rfl, ?_⟩⟩⟩
          exact ⟨s1000 2 (by decide), fun l2 nl2 => q _ l2 (same_new nl2) nl2 ⟨_, _, upd_same⟩⟩
end
end Kb
/-! l[::-1] of a list. -/
namespace Ka
open PySem PySem.Spec PyProof.Rows L2 HT
theorem pick_back (xs : Array Value) : slicePick xs none none (some (-1)) = xs.toList.reverse.toArray := by
  unfold slicePick
  congr 1
  have hb : sliceBounds none none (some (-1)) xs.size = ((xs.size : Int) - 1, -1, -1) := by
    unfold sliceBounds
    simp
  rw [hb]
  dsimp only
  unfold sliceRange
  have hc : (if ((-1 : Int) > 0) then (if ((xs.size : Int) - 1 < -1) then (-1 - ((xs.size : Int) - 1) + -1 - 1) / -1 else 0) else (if ((xs.size : Int) - 1 > -1) then (((xs.size : Int) - 1) - -1 - -1 - 1) / (- -1) else 0)) = (xs.size : Int) := by
    rw [if_neg (by decide)]
    by_cases h : xs.size = 0
    · rw [h]
      rfl
    · rw [if_pos (by omega), show (-(-1 : Int)) = 1 by decide, Int.ediv_one]
      omega
  rw [hc]
  show List.filterMap (fun x => xs[x]?) (List.map (fun (k : Nat) => ((xs.size : Int) - 1 + -1 * (k : Int)).toNat) (List.range xs.size)) = _
  rw [List.filterMap_map]
  rw [← back_items xs]
  have hf : ((fun x => xs[x]?) ∘ fun (k : Nat) => ((xs.size : Int) - 1 + -1 * (k : Int)).toNat) = fun (k : Nat) => xs[((xs.size : Int) - 1 + (k : Int) * -1).toNat]? := by
    funext k
    show xs[((xs.size : Int) - 1 + -1 * (k : Int)).toNat]? = _
    rw [show (-1 : Int) * (k : Int) = (k : Int) * -1 by omega]
  rw [hf]
def tRevS (K : PySem.W.Frag) (te : TE) : TE := fun σ H Q => te σ H fun x H1 => ∃ a xs, x = .ref a ∧ SqL K H1 a xs ∧ ∀ p, H1 p = none → Q (.ref p) (upd H1 p (.lst xs.reverse))
theorem pe_revS {X : Cx} {e : Expr} {te : TE} {k : Nat} {p1 p2 p3 pos : Pos} (he : PE X e te) : PE X (.Subscript e (.Slice none none (some (.UnaryOp .USub (.Constant (.int 1) k p1) p2)) p3) pos) (tRevS X.K te) := by
  refine ⟨fun pins s σ H Q I h => Subscript_ (thn (he.run pins s σ H _ I h) fun v s1 ⟨x, H1, I1, r1, a, xs, ex, hx, q⟩ => ?_)⟩
  subst ex
  cases r1
  have hm : PO X (some (.UnaryOp .USub (.Constant (.int 1) k p1) p2)) (tPart (tUn (rU fun i => .int (-i)) (tC (.int 1)))) := po_some (pe_un un_neg pe_int)
  refine wpAny_Slice (thn (po_none.run pins s1 σ H1 (fun o H2 => o = none ∧ H2 = H1) I1 ⟨rfl, rfl⟩) fun vl s2 ⟨l, H2, I2, pl, el, e2⟩ => ?_)
  subst el e2
  refine thn (po_none.run pins s2 σ H2 (fun o H3 => o = none ∧ H3 = H2) I2 ⟨rfl, rfl⟩) fun vu s3 ⟨u, H3, I3, pu, eu, e3⟩ => ?_
  subst eu e3
  refine thn (hm.run pins s3 σ H3 (fun o H4 => o = some (-1) ∧ H4 = H3) I3 ⟨1, rfl, -1, rfl, rfl, rfl⟩) fun vs s4 ⟨o, H4, I4, ps, eo, e4⟩ => ?_
  subst eo e4
  have I5 : Inv X pins σ H4 { s4 with heap := s4.heap.push { cls := .type "slice", data := .fields #[vl, vu, vs] } } := I4.kept (t' := s4.toks) fun b ob z => Heap.get?_push_of_some _ z
  obtain ⟨its, r, ht, hz⟩ := I5.list hx
  have hl := r.length
  show wpAny (model X.prog X.w) X.A (subscriptTail e (.Slice none none (some (.UnaryOp .USub (.Constant (.int 1) k p1) p2)) p3) (.ref a) (.ref s4.heap.objs.size)) (EP X pins σ Q) X.xe { s4 with heap := s4.heap.push { cls := .type "slice", data := .fields #[vl, vu, vs] } }
  refine tail_any (ops := [.ref a, .ref s4.heap.objs.size]) ht.isList.typeIs slot_list_getitem.lookup ?_ (by with_unfolding_all rfl)
  refine wpAny_getItem_list_slice ht.isList (Heap.IsSliceOf.new _ vl vu vs) pl pu ps (by simp) ?_ (by rw [List.size_toArray]; omega)
  rw [pick_back]
  refine ⟨.ref _, _, I5.laid (t' := s4.toks) (o := .lst xs.reverse) (fun b ob z => Heap.get?_push_of_some _ z) (Nat.le_refl _) ?_, rfl, q _ (I5.hok.fresh (Nat.le_refl _))⟩
  exact ⟨by rw [List.length_reverse]; exact hz, _, 0, r.reverse, Heap.get?_push_size _ rfl⟩
end Ka
namespace Kb
open PySem PySem.Spec PyProof.Rows L2
/-! ### things in a drawn order -/
theorem erase_perm {α : Type} : ∀ (l : List α) (i : Nat) (h : i < l.length), (l[i] :: l.eraseIdx i).Perm l
  | x :: l, 0, _ => List.Perm.refl _
  | x :: l, i + 1, h => by
    rw [List.length_cons] at h
    have ih := erase_perm l i (by omega)
    show (l[i] :: x :: l.eraseIdx i).Perm (x :: l)
    exact (List.Perm.swap x l[i] _).trans (List.Perm.cons x ih)
section
variable {P : Program} {w : World} {K : PySem.W.Frag} {mg : Str → Option Value} {base : Heap}
def spLawMixed (K : PySem.W.Frag) : Sp := fun vs H Q _ => ∃ (x a : Addr) (xs : List V), vs = [.ref x, .ref a] ∧ Box H x ∧ a ≠ x ∧ H a = some (.lst xs) ∧ xs.length ≤ 100000 ∧ ∀ H' q ys, But x H H' → Box H' x → H q = none → H' q = some (.lst ys) → ys.Perm xs → Q (.ref q) H'
abbrev nLx : List Str := ["box", "some", "left", "found", "turn"]
theorem scLx : FnScope nLx ["box", "some"] (defScope sLawMixed) := ⟨rfl, rfl, rfl, by decide +kernel, rfl, by decide +kernel, by decide +kernel⟩
theorem ok_lawmixed {f fT : Addr} {fd fdT : FuncData} (F : Fun K "_law_mixed" "_law_mixed" sLawMixed f fd) (N : Nones mg) (G__law_take : FnOk P w K mg base CX0 1 fT fdT ["box", "many"] spTake) (C__law_take : CallC K mg "_law_take" ["box", "many"] fT fdT) : FnOk P w K mg base CX0 2 f fd ["box", "some"] (spLawMixed K) := by
  refine F.ok scLx (fun vs H Q E h => ?_) (fun cdv A outer s0 H vs Q E hr h => ?_)
  · obtain ⟨x, a, xs, rfl, _⟩ := h
    rfl
  · obtain ⟨x, a, xs, rfl, bx, nax, ha, lx, q⟩ := h
    refine ⟨_, pss_cons (ps_par (i := 2) (j := 3) rfl scLx.nd rfl rfl (by decide) rfl rfl (pa_cons (pe_callTy call_list_of (by rfl) N.list (by decide +kernel) (pa_cons (pv 1) pa_nil)) (pa_cons (pe_lst pa_nil) pa_nil)) (by rfl))
      (pss_cons (ps_for PassesOwn.never rfl (pi_range1 (by rfl) N.range (pa_cons (pe_callB call_len_seq (by rfl) N.len PySem.boot_len (pa_cons (pv 1) pa_nil)) pa_nil)) (pg_name (i := 4) scLx.nd rfl (Or.inl rfl))
        (pss_one (ps_expr (pe_bm PySem.F.plainAttrs_list PySem.F.slot_list_append PySem.F.type_list_append mt_append (pv 3) (pa_cons (pe_bm PySem.F.plainAttrs_list PySem.F.slot_list_pop PySem.F.type_list_pop mt_popAt (pv 2) (pa_cons (pe_call G__law_take (hr.mono (by decide)) (by rfl) C__law_take.g C__law_take.kp C__law_take.b .nil pass0 (pa_cons (pv 0) (pa_cons (pe_callB call_len_seq (by rfl) N.len PySem.boot_len (pa_cons (pv 2) pa_nil)) pa_nil))) pa_nil)) pa_nil)))))
      (pss_one (ps_ret (pv 3)))), ?_⟩
    refine ⟨_, rfl, a, xs, rfl, .inl (sqL_new ha), fun q1 n1 => ⟨smallE (by show 0 ≤ 1000000; decide), fun q2 n2 => ⟨_, _, rfl, ?_⟩⟩⟩
    have s1 := same_new (o := .lst xs) n1
    have e1 : upd H q1 (.lst xs) q1 = some (.lst xs) := upd_same
    have b1 := Box.upd (o := .lst xs) bx (Box.ne bx n1)
    generalize upd H q1 (.lst xs) = H1 at s1 e1 b1 n2
    have s2 := same_new (o := .lst []) n2
    have e2 : upd H1 q2 (.lst []) q2 = some (.lst []) := upd_same
    have b2 := Box.upd (o := .lst []) b1 (Box.ne b1 n2)
    have ne12 : q1 ≠ q2 := fun z => by
      rw [← z, e1] at n2
      cases n2
    have e1 := s2 _ _ e1
    have nq1x := Box.ne bx n1
    have nq2x := Box.ne b1 n2
    have n2H := s1.free n2
    generalize upd H1 q2 (.lst []) = H2 at s2 e1 e2 b2
    have s12 := s1.trans s2
    refine ⟨_, rfl, a, _, rfl, .inl (sqL_new (s12 _ _ ha)), (xs.length : Int), rfl, by omega, by omega, ?_⟩
    rw [show ((xs.length : Int)).toNat = xs.length from rfl]
    refine for_it walk_r0 (fun i σ Z => ∃ (ls fs : List V) (x4 : Option V), σ = [some (.ref x), some (.ref a), some (.ref q1), some (.ref q2), x4] ∧ But x H Z ∧ Box Z x ∧ Z q1 = some (.lst ls) ∧ Z q2 = some (.lst fs) ∧ (fs ++ ls).Perm xs ∧ ls.length + i = xs.length) ⟨xs, [], none, rfl, But.of s12, b2, e1, e2, by rw [List.nil_append], by omega⟩ (fun i σ Z _ h => True.intro) (fun i y σ Z Z' hi h yy => ?_) (fun σ Z h => ?_)
    · obtain ⟨rfl, rfl⟩ := yy
      obtain ⟨ls, fs, x4, rfl, kZ, bZ, e1, e2, pm, ln⟩ := h
      refine ⟨_, rfl, Or.inl ⟨rfl, _, sqL_new e2⟩, _, rfl, Or.inl ⟨rfl, _, sqL_new e1⟩, _, rfl, _, rfl, q1, _, rfl, .inl (sqL_new e1), x, ls.length, rfl, bZ, by omega, by omega, fun r Z1 hr k1 b1 => ?_⟩
      have e1' := k1 _ _ nq1x e1
      have e2' := k1 _ _ nq2x e2
      have hy : ls[r]? = some (ls[r]'hr) := List.getElem?_eq_getElem hr
      refine ⟨q1, ls, (r : Int), r, ls[r]'hr, rfl, rfl, e1', by omega, by omega, seqIndex_at (by omega) (by omega), hy, ?_⟩
      have e2'' : upd Z1 q1 (.lst (ls.eraseIdx r)) q2 = some (.lst fs) := by
        rw [upd_ne (fun z => ne12 z.symm)]
        exact e2'
      have lf : fs.length ≤ xs.length := by
        have := pm.length_eq
        rw [List.length_append] at this
        omega
      refine ⟨q2, fs, ls[r]'hr, rfl, rfl, e2'', small (by omega), ?_⟩
      refine ⟨ls.eraseIdx r, fs ++ [ls[r]'hr], _, rfl, fun c u h e => ?_, Box.upd (Box.upd b1 nq1x) nq2x, ?_, upd_same, ?_, ?_⟩
      · rw [upd_ne (ne_of_none e n2H), upd_ne (ne_of_none e n1)]
        exact k1 _ _ h (kZ _ _ h e)
      · rw [upd_ne ne12, upd_same]
      · refine List.Perm.trans ?_ pm
        rw [List.append_assoc]
        exact List.Perm.append_left fs (erase_perm ls r hr)
      · rw [List.length_eraseIdx, if_pos hr]
        omega
    · obtain ⟨ls, fs, x4, rfl, kZ, bZ, e1, e2, pm, ln⟩ := h
      have : ls = [] := List.eq_nil_of_length_eq_zero (by omega)
      rw [this, List.append_nil] at pm
      exact ⟨_, rfl, q Z q2 fs kZ bZ n2H e2 pm⟩
end
end Kb
namespace Kb
open PySem PySem.Spec PyProof.Rows L2
/-! ### a row with something changed -/
theorem sqT_box {K : PySem.W.Frag} {H L : Hp} {x b : Addr} {xs : List V} (hb : Box H x) (k : But x H L) (h : SqT K H b xs) : SqT K L b xs := by
  obtain ⟨b0, b1, hx⟩ := hb
  rcases h with (h | ⟨o, h⟩) | h
  · exact .inl (.inl (k _ _ (fun e => by rw [e, hx] at h; cases h) h))
  · exact .inl (.inr ⟨o, k _ _ (fun e => by rw [e, hx] at h; cases h) h⟩)
  · exact .inr h
section
variable {P : Program} {w : World} {K : PySem.W.Frag} {mg : Str → Option Value} {base : Heap}
def spLawBent (K : PySem.W.Frag) : Sp := fun vs H Q _ => ∃ (x a dd : Addr) (us ds : List Str), vs = [.ref x, .ref a, .ref dd] ∧ Box H x ∧ SqT K H a (us.map V.str) ∧ us.length ≤ 40000 ∧ dd ≠ x ∧ H dd = some (.lst (ds.map V.str)) ∧ 0 < ds.length ∧ ds.length < 1000000 ∧
  ∀ (H' : Hp) (q : Addr) (zs : List Str), But x H H' → Box H' x → SqT K H' q (zs.map V.str) → (∀ z ∈ zs, z ∈ us ∨ z ∈ ds) → zs.length ≤ us.length + 1 → Q (.ref q) H'
abbrev nLb2 : List Str := ["box", "row", "deeds", "kind", "at"]
theorem scLb2 : FnScope nLb2 ["box", "row", "deeds"] (defScope sLawBent) := ⟨rfl, rfl, rfl, by decide +kernel, rfl, by decide +kernel, by decide +kernel⟩
theorem ok_lawbent {f fT fP : Addr} {fd fdT fdP : FuncData} (F : Fun K "_law_bent" "_law_bent" sLawBent f fd) (N : Nones mg) (G__law_take : FnOk P w K mg base CX0 1 fT fdT ["box", "many"] spTake) (C__law_take : CallC K mg "_law_take" ["box", "many"] fT fdT) (G__law_pick : FnOk P w K mg base CX0 2 fP fdP ["box", "some"] spPick) (C__law_pick : CallC K mg "_law_pick" ["box", "some"] fP fdP) : FnOk P w K mg base CX0 3 f fd ["box", "row", "deeds"] (spLawBent K) := by
  refine F.ok scLb2 (fun vs H Q E h => ?_) (fun cdv A outer s0 H vs Q E hr h => ?_)
  · obtain ⟨x, a, dd, us, ds, rfl, _⟩ := h
    rfl
  · obtain ⟨x, a, dd, us, ds, rfl, bx, ha, lu, ndx, hdd, ld, ld2, q⟩ := h
    refine ⟨_, pss_cons (ps_par (i := 3) (j := 4) rfl scLb2.nd rfl rfl (by decide) rfl rfl (pa_cons (pe_call G__law_take (hr.mono (by decide)) (by rfl) C__law_take.g C__law_take.kp C__law_take.b .nil pass0 (pa_cons (pv 0) (pa_cons pe_int pa_nil))) (pa_cons (pe_call G__law_take (hr.mono (by decide)) (by rfl) C__law_take.g C__law_take.kp C__law_take.b .nil pass0 (pa_cons (pv 0) (pa_cons (pe_op op_add (pe_callB call_len_seq (by rfl) N.len PySem.boot_len (pa_cons (pv 1) pa_nil)) pe_int) pa_nil))) pa_nil)) (by rfl))
      (pss_cons (ps_if (pt_cmpR op_eq (pv 3) pe_int (nomark _)) (pss_one (ps_ret (Ka.pe_revT (pv 1)))) pss_nil)
      (pss_cons (ps_if (pt_cmpR op_eq (pv 3) pe_int (nomark _)) (pss_one (ps_ret (pe_op op_catA (pe_op op_catA (pe_slice sl_tupA (pv 1) po_none (po_some (pv 4))) (pe_tup (pa_cons (pe_call G__law_pick (hr.mono (by decide)) (by rfl) C__law_pick.g C__law_pick.kp C__law_pick.b .nil pass0 (pa_cons (pv 0) (pa_cons (pv 2) pa_nil))) pa_nil))) (pe_slice sl_tupA (pv 1) (po_some (pv 4)) po_none)))) pss_nil)
      (pss_cons (ps_if (pt_cmpR op_eq (pv 3) pe_int (nomark _)) (pss_one (ps_ret (pe_op op_catA (pe_slice sl_tupA (pv 1) po_none (po_some (pv 4))) (pe_slice sl_tupA (pv 1) (po_some (pe_op op_add (pv 4) pe_int)) po_none)))) pss_nil)
      (pss_one (ps_ret (pe_op op_catA (pe_op op_catA (pe_slice sl_tupA (pv 1) po_none (po_some (pv 4))) (pe_tup (pa_cons (pe_call G__law_pick (hr.mono (by decide)) (by rfl) C__law_pick.g C__law_pick.kp C__law_pick.b .nil pass0 (pa_cons (pv 0) (pa_cons (pv 2) pa_nil))) pa_nil))) (pe_slice sl_tupA (pv 1) (po_some (pe_op op_add (pv 4) pe_int)) po_none))))))), ?_⟩
    refine ⟨_, rfl, x, 5, rfl, bx, by decide, by decide, fun kd H1 hkd k1 b1 => ?_⟩
    have ha1 := sqT_box bx k1 ha
    refine ⟨_, rfl, _, rfl, a, _, rfl, .inr ha1, _, _, rfl, rfl, x, us.length + 1, (by rw [List.length_map]; rfl), b1, by omega, by omega, fun at_ H2 hat k2 b2 => ⟨_, _, rfl, ?_⟩⟩
    have ha2 := sqT_box b1 k2 ha1
    have k12 := k1.trans k2
    have hdd2 := k12 _ _ ndx hdd
    refine ⟨_, rfl, rfl, _, rfl, ite2 (fun c0 => ?_) (fun c0 => ⟨_, rfl, rfl, _, rfl, ite2 (fun c1 => ?_) (fun c1 => ⟨_, rfl, rfl, _, rfl, ite2 (fun c2 => ?_) (fun c2 => ?_)⟩)⟩)⟩
    · refine ⟨_, rfl, a, _, rfl, ha2, fun p np => ?_⟩
      refine q _ p us.reverse (k12.trans (But.of (same_new np))) (Box.upd b2 (Box.ne b2 np)) (by rw [List.map_reverse]; exact sqT_new upd_same) (fun z hz => .inl (List.mem_reverse.mp hz)) (by rw [List.length_reverse]; omega)
    · refine ⟨_, rfl, _, rfl, (at_ : Int), rfl, slA_takeR ha2 fun H3 p3 s3 h3 => ?_⟩
      have b3 := b2.mono s3
      have hdd3 := s3 _ _ hdd2
      refine ⟨_, rfl, _, rfl, x, dd, ds.map V.str, rfl, b3, ndx, .inl hdd3, by rw [List.length_map]; exact ld, by rw [List.length_map]; exact ld2, fun i v H4 hv k4 b4 => ⟨smallE (by show 1 ≤ 1000000; decide), fun t nt => ?_⟩⟩
      obtain ⟨dv, hdv, rfl⟩ := get_map hv
      have s5 := same_new (o := .tup [V.str dv]) nt
      have b5 := Box.upd (o := .tup [V.str dv]) b4 (Box.ne b4 nt)
      have et : SqT K (upd H4 t (.tup [V.str dv])) t ([dv].map V.str) := sqT_new upd_same
      have h35 := Same.sqT s5 (sqT_box b3 k4 h3)
      have ha5 := Same.sqT s5 (sqT_box b3 k4 (Same.sqT s3 ha2))
      have k5 := ((k12.trans (But.of s3)).trans k4).trans (But.of s5)
      generalize upd H4 t (.tup [V.str dv]) = H5 at s5 b5 et h35 ha5 k5
      have lt1 := List.length_take_le at_ us
      have lt2 : (us.drop at_).length ≤ us.length - at_ := by rw [List.length_drop]; exact Nat.le_refl _
      refine catR h35 et (by simp only [List.length_map, List.length_cons, List.length_nil]; omega) fun H6 p6 s6 h6 => ?_
      rw [← List.map_append] at h6
      refine ⟨_, rfl, _, rfl, (at_ : Int), rfl, ?_⟩
      dsimp only [tNoPart]
      refine slA_dropR (Same.sqT s6 ha5) fun H7 p7 s7 h7 => ?_
      refine catR (Same.sqT s7 h6) h7 (by simp only [List.length_map, List.length_append, List.length_cons, List.length_nil]; omega) fun H8 p8 s8 h8 => ?_
      rw [← List.map_append] at h8
      have s58 := (s6.trans s7).trans s8
      refine q H8 p8 (us.take at_ ++ [dv] ++ us.drop at_) (k5.trans (But.of s58)) (b5.mono s58) h8 (fun z hz => ?_) (by simp only [List.length_append, List.length_take, List.length_drop, List.length_cons, List.length_nil]; omega)
      rcases List.mem_append.mp hz with w | w
      · rcases List.mem_append.mp w with w | w
        · exact .inl (List.mem_of_mem_take w)
        · rw [List.mem_singleton.mp w]
          exact .inr (List.mem_of_getElem? hdv)
      · exact .inl (List.mem_of_mem_drop w)
    · refine ⟨_, rfl, _, rfl, (at_ : Int), rfl, slA_takeR ha2 fun H3 p3 s3 h3 => ?_⟩
      refine ⟨_, rfl, _, rfl, _, _, rfl, rfl, ((at_ + 1 : Nat) : Int), rfl, ?_⟩
      dsimp only [tNoPart]
      refine slA_dropR (Same.sqT s3 ha2) fun H7 p7 s7 h7 => ?_
      have lt1 := List.length_take_le at_ us
      refine catR (Same.sqT s7 h3) h7 (by simp only [List.length_map, List.length_take, List.length_drop]; omega) fun H8 p8 s8 h8 => ?_
      rw [← List.map_append] at h8
      have s38 := (s3.trans s7).trans s8
      refine q H8 p8 (us.take at_ ++ us.drop (at_ + 1)) (k12.trans (But.of s38)) (b2.mono s38) h8 (fun z hz => ?_) (by simp only [List.length_append, List.length_take, List.length_drop]; omega)
      rcases List.mem_append.mp hz with w | w
      · exact .inl (List.mem_of_mem_take w)
      · exact .inl (List.mem_of_mem_drop w)
    · refine ⟨_, rfl, _, rfl, (at_ : Int), rfl, slA_takeR ha2 fun H3 p3 s3 h3 => ?_⟩
      have b3 := b2.mono s3
      have hdd3 := s3 _ _ hdd2
      refine ⟨_, rfl, _, rfl, x, dd, ds.map V.str, rfl, b3, ndx, .inl hdd3, by rw [List.length_map]; exact ld, by rw [List.length_map]; exact ld2, fun i v H4 hv k4 b4 => ⟨smallE (by show 1 ≤ 1000000; decide), fun t nt => ?_⟩⟩
      obtain ⟨dv, hdv, rfl⟩ := get_map hv
      have s5 := same_new (o := .tup [V.str dv]) nt
      have b5 := Box.upd (o := .tup [V.str dv]) b4 (Box.ne b4 nt)
      have et : SqT K (upd H4 t (.tup [V.str dv])) t ([dv].map V.str) := sqT_new upd_same
      have h35 := Same.sqT s5 (sqT_box b3 k4 h3)
      have ha5 := Same.sqT s5 (sqT_box b3 k4 (Same.sqT s3 ha2))
      have k5 := ((k12.trans (But.of s3)).trans k4).trans (But.of s5)
      generalize upd H4 t (.tup [V.str dv]) = H5 at s5 b5 et h35 ha5 k5
      have lt1 := List.length_take_le at_ us
      have lt2 : (us.drop (at_ + 1)).length ≤ us.length - (at_ + 1) := by rw [List.length_drop]; exact Nat.le_refl _
      refine catR h35 et (by simp only [List.length_map, List.length_cons, List.length_nil]; omega) fun H6 p6 s6 h6 => ?_
      rw [← List.map_append] at h6
      refine ⟨_, rfl, _, rfl, _, _, rfl, rfl, ((at_ + 1 : Nat) : Int), rfl, ?_⟩
      dsimp only [tNoPart]
      refine slA_dropR (Same.sqT s6 ha5) fun H7 p7 s7 h7 => ?_
      refine catR (Same.sqT s7 h6) h7 (by simp only [List.length_map, List.length_append, List.length_cons, List.length_nil]; omega) fun H8 p8 s8 h8 => ?_
      rw [← List.map_append] at h8
      have s58 := (s6.trans s7).trans s8
      refine q H8 p8 (us.take at_ ++ [dv] ++ us.drop (at_ + 1)) (k5.trans (But.of s58)) (b5.mono s58) h8 (fun z hz => ?_) (by simp only [List.length_append, List.length_take, List.length_drop, List.length_cons, List.length_nil]; omega)
      rcases List.mem_append.mp hz with w | w
      · rcases List.mem_append.mp w with w | w
        · exact .inl (List.mem_of_mem_take w)
        · rw [List.mem_singleton.mp w]
          exact .inr (List.mem_of_getElem? hdv)
      · exact .inl (List.mem_of_mem_drop w)
end
end Kb
/-! sorted(t), t a tuple of texts. -/
namespace Ka
open PySem PySem.Spec PyProof.Rows L2
section
variable {prog : Program} {w : World} {A : Around} {E : Value → Shared → Prop} {s : Shared}
theorem sorted_tupS {a : Addr} {vs : List Value} {ss : List Str} {Q : Value → Shared → Prop} {o : Obj} {n : Nat} (ho : s.heap.get? a = some o) (hc : o.cls = .type "tuple") (hd : o.data = .seq vs.toArray n) (hS : StrsAre vs ss) (h64 : vs.length < 64)
    (h : ∀ (h1 h2 : Heap) (out : Array Value) (ss' : List Str) (e : Nat), (∀ b o, s.heap.get? b = some o → h1.get? b = some o) → (∀ b o, h1.get? b = some o → h2.get? b = some o) → h2.get? h1.objs.size = some (seqObj "list" out e) → StrsAre out.toList ss' → ss'.Perm ss → sortedS ss' = true →
      Q (.ref h1.objs.size) { s with heap := h2 }) : wpAny (model prog w) A (call (.builtin "sorted") [.ref a]) Q E s := by
  have hsz : vs.toArray.size ≤ sizeLine := by
    rw [List.size_toArray]
    exact small64 h64
  refine Calls.call_function_entry kind_sorted plain_sorted entry_sorted (args_sorted1 _) ?_
  unfold Builtin.«sorted»
  refine wpAny_bind (m := checkCount "sorted" 1 1 _) (wpAny_pure ?_)
  refine wpAny_bind (wpAny_collect_seq a (.inr rfl) ho hc hd (fun h1 k1 => ?_) hsz)
  refine wpAny_bind (wpAny_newList ?_ (by simpa using hsz))
  have hoL : (h1.push (seqObj "list" vs.toArray 0)).get? h1.objs.size = some (seqObj "list" vs.toArray 0) := Heap.get?_push_size _ rfl
  show wpAny _ _ _ _ _ { s with heap := h1.push (seqObj "list" vs.toArray 0) }
  refine wpAny_bind (wpAny_holding (wpAny_call_entry slot_list_sort ⟨_, hoL, rfl⟩ entry_list_sort (list_sort_treeK strKind_oneLt hoL hS.keysOf (fun v₁ v₂ rest e => keyKind_strs (by rw [← e]; exact hS)) h64 fun st' hp hs => ⟨_, rfl, ?_⟩) (args_list_sort _)))
  obtain ⟨ss', e1, e2, e3⟩ := sorted_out_str hS hp hs
  obtain ⟨e, he⟩ := sortedHeap_at (out := (arrOf st').map (·.2)) hoL
  refine wpAny_pure ⟨_, rfl, h h1 _ _ ss' e k1 (fun b o hb => ?_) he e1 e2 e3⟩
  have hlt := Heap.lt_size hb
  rw [sortedHeap_old (Nat.ne_of_lt hlt) (by rw [size_push']; exact Nat.lt_succ_of_lt hlt)]
  exact Heap.get?_push_of_some _ hb
end
def rSortedT (K : PySem.W.Frag) : List V → Hp → VK → Prop := fun vs H Q => ∃ (a : Addr) (xs : List Str), vs = [V.ref a] ∧ SqT K H a (xs.map V.str) ∧ xs.length < 64 ∧
  ∀ (ys : List Str) (p : Addr), ys.Perm xs → sortedS ys = true → H p = none → Q (.ref p) (upd H p (.lst (ys.map V.str)))
theorem cr_sortedT {X : Cx} : CallR X (.builtin "sorted") (rSortedT X.K) := by
  intro pins s σ H vs us Q I r h
  obtain ⟨a, xs, rfl, hs, h64, q⟩ := h
  obtain ⟨its, rv, ht, _⟩ := I.tuple hs
  rw [Vals.ref1 r]
  have hlen0 := rv.length
  rw [List.length_map] at hlen0
  obtain ⟨o, ho, hc, n, hd⟩ := ht
  refine sorted_tupS ho hc hd rv.strs (by rw [← hlen0]; exact h64) fun h1 h2 out ys e k1 k2 he e1 e2 e3 => ?_
  have hlen : (ys.map V.str).length ≤ sizeLine := by rw [List.length_map, e2.length_eq]; exact small64 h64
  have I1 : Inv X pins σ H { s with heap := h1, toks := s.toks } := I.kept k1
  exact ⟨.ref h1.objs.size, upd H h1.objs.size (.lst (ys.map V.str)), I1.laid (t' := s.toks) k2 (Nat.le_refl _) ⟨hlen, out.toList, e, vals_of_strs e1, he⟩, rfl, q ys _ e2 e3 (I1.hok.fresh (Nat.le_refl _))⟩
end Ka
/-! sorted(set(t)), t a tuple of texts. -/
namespace Ka
open PySem PySem.Spec PyProof.Rows L2
/-- just the texts of L, each once -/
def Of (es : List (Int × Value)) (L : List Str) : Prop := (∀ x : Str, x ∈ L ↔ ∃ e ∈ es, ∃ t, e.2 = .str x t) ∧ es.Pairwise (fun e f => ∀ x t u, e.2 = .str x t → f.2 = .str x u → False) ∧ es.length ≤ L.length
theorem Of.perm {es fs : List (Int × Value)} {L : List Str} (h : Of es L) (p : fs.Perm es) : Of fs L := by
  refine ⟨fun x => (h.1 x).trans ⟨fun ⟨e, he, t⟩ => ⟨e, p.mem_iff.mpr he, t⟩, fun ⟨e, he, t⟩ => ⟨e, p.mem_iff.mp he, t⟩⟩, ?_, by rw [p.length_eq]; exact h.2.2⟩
  exact (p.pairwise_iff fun {a b} hab x t u e1 e2 => hab x u t e2 e1).mpr h.2.1
theorem Of.there {es : List (Int × Value)} {L : List Str} (h : Of es L) {x : Str} {e : Int × Value} {t : Tok} (he : e ∈ es) (ee : e.2 = .str x t) : Of es (L ++ [x]) := by
  refine ⟨fun y => ?_, h.2.1, by rw [List.length_append]; exact Nat.le_trans h.2.2 (Nat.le_add_right _ _)⟩
  rw [List.mem_append, List.mem_singleton]
  refine ⟨fun z => z.elim (fun z => (h.1 y).mp z) fun z => ⟨e, he, t, by rw [z]; exact ee⟩, fun z => .inl ((h.1 y).mpr z)⟩
theorem Of.add {es : List (Int × Value)} {L : List Str} (h : Of es L) {x : Str} {k : Int} {t : Tok} (no : ∀ e ∈ es, ∀ u, e.2 ≠ .str x u) : Of (es ++ [(k, .str x t)]) (L ++ [x]) := by
  refine ⟨fun y => ?_, ?_, by rw [List.length_append, List.length_append]; exact Nat.add_le_add_right h.2.2 _⟩
  · rw [List.mem_append, List.mem_singleton]
    constructor
    · rintro (z | rfl)
      · obtain ⟨e, he, u, hu⟩ := (h.1 y).mp z
        exact ⟨e, List.mem_append_left _ he, u, hu⟩
      · exact ⟨_, List.mem_append_right _ List.mem_cons_self, t, rfl⟩
    · rintro ⟨e, he, u, hu⟩
      rcases List.mem_append.mp he with z | z
      · exact .inl ((h.1 y).mpr ⟨e, z, u, hu⟩)
      · rw [List.mem_singleton.mp z] at hu
        cases hu
        exact .inr rfl
  · rw [List.pairwise_append]
    refine ⟨h.2.1, List.pairwise_singleton _ _, fun e he f hf y t' u e1 e2 => ?_⟩
    rw [List.mem_singleton.mp hf] at e2
    cases e2
    exact no e he _ e1
/-- a set of just the texts of L at a; its table rises -/
def SetM (P : Program) (w : World) (h : Heap) (a : Addr) (L : List Str) : Prop :=
  ∃ ob es ep tb, h.get? a = some ob ∧ ob.ExactSet ∧ ob.data = .set es ep tb ∧ ElemsOf (strKind P w) es.toList ∧ Of es.toList L ∧ es.size < scanBound ∧ tb.fits es.size = true ∧ Ris tb.place.toList ∧ (w.params.followText "set-order" = true ∨ tb.led = true)
theorem SetM.up {P : Program} {w : World} {h h' : Heap} {a : Addr} {m : List Str} (S : SetM P w h a m) (k : ∀ o, h.get? a = some o → h'.get? a = some o) : SetM P w h' a m := by
  obtain ⟨ob, es, ep, tb, z, rest⟩ := S
  exact ⟨ob, es, ep, tb, k _ z, rest⟩
section
variable {P : Program} {w : World} {A : Around} {E : Value → Shared → Prop} {s : Shared} {a : Addr} {m : List Str}
theorem setM_tail {gv : Bool → Sem Unit} (hgv : ∀ (b : Bool) (s1 : Shared) (Z : Unit → Shared → Prop), Z () s1 → wpAny (model P w) A (gv b) Z E s1) {ob : Obj} {es : Array (Int × Value)} {ep : Nat} {tb : SetTable} (z0 : s.heap.get? a = some ob) (zx : ob.ExactSet) (zd : ob.data = .set es ep tb)
    {es1 : Array (Int × Value)} {tb2 : SetTable} (el1 : ElemsOf (strKind P w) es1.toList) (m1 : Of es1.toList m) (b1 : es1.size < scanBound) (f2 : tb2.fits es1.size = true) (r2 : Ris tb2.place.toList) (l2 : w.params.followText "set-order" = true ∨ tb2.led = true) {was : Bool} {R : Option Bool → Shared → Prop}
    (fin : ∀ h2, Heap.SameBut a s.heap h2 → SetM P w h2 a m → R (some true) { s with heap := h2 }) :
    wpAny (model P w) A (do
        storeSet a es1 tb2
        if (!was && tb2.tooFull) = true then do
            gv (relayAll tb2 es1 (SetTable.grown es1.size)).2.2
            storeSet a (relayAll tb2 es1 (SetTable.grown es1.size)).1 (relayAll tb2 es1 (SetTable.grown es1.size)).2.1
            pure (some true)
          else pure (some true)) R E s := by
  refine wpAny_bind (wpAny_storeSet_of z0 zd ?_ (fits_of_scanBound b1))
  have z1 := store_at (es' := es1) (t' := tb2) z0 zd
  have same1 := Heap.SameBut.update s.heap a (Obj.putSet es1 tb2)
  split
  · have q1 := relayAll_perm tb2 es1 (SetTable.grown es1.size)
    have q2 := relayAll_fits tb2 es1 (SetTable.grown es1.size)
    have q3 := relayAll_ris tb2 es1 (SetTable.grown es1.size)
    have q4 := relayAll_led tb2 es1 (SetTable.grown es1.size)
    generalize relayAll tb2 es1 (SetTable.grown es1.size) = Y at q1 q2 q3 q4 ⊢
    obtain ⟨es2, tb3, gave⟩ := Y
    dsimp only at q1 q2 q3 q4 ⊢
    have size2 : es2.size = es1.size := by rw [← Array.length_toList, q1.length_eq, Array.length_toList]
    refine wpAny_bind (hgv _ _ _ ?_)
    refine wpAny_bind (wpAny_storeSet_of z1 rfl ?_ (fits_of_scanBound (by rw [size2]; exact b1)))
    have z2 := store_at (es' := es2) (t' := tb3) z1 rfl
    refine wpAny_pure (fin _ (same1.trans (Heap.SameBut.update _ a _)) ⟨_, es2, _, tb3, z2, zx, rfl, el1.perm q1, m1.perm q1, by rw [size2]; exact b1, q2, q3, l2.imp id fun y => by rw [q4]; exact y⟩)
  · exact wpAny_pure (fin _ same1 ⟨_, es1, _, tb2, z1, zx, rfl, el1, m1, b1, f2, r2, l2⟩)
theorem setM_add {x : Str} {tk : Tok} {Q : Bool → Shared → Prop} (S : SetM P w s.heap a m) (room : m.length + 1 < scanBound) (fin : ∀ (b : Bool) (h2 : Heap), Heap.SameBut a s.heap h2 → SetM P w h2 a (m ++ [x]) → Q b { s with heap := h2 }) :
    wpAny (model P w) A (setAddHashed a (.str x tk) ((strKind P w).hash x)) Q E s := by
  obtain ⟨ob, es, ep, tb, z0, zx, zd, el, me, bo, fi, ri, le⟩ := S
  have ky : (strKind P w).is x (.str x tk) = true := strKind_is P w x tk
  have scn : (Value.str x tk).scannable = true := rfl
  unfold setAddHashed setAddHashedIn
  refine wpAny_holding (wpAny_bind (wpAny_setState_of z0 zd fi ?_))
  dsimp only
  rw [byScan_of scn bo el]
  simp only [↓reduceIte]
  unfold setAddByScan
  refine wpAny_bind (wpAny_bind (wpAny_rule (wpAny_bind (wpAny_setScan_of ky z0 zd fi el ?_))))
  cases found : List.findIdx? (fun e => (strKind P w).is x e.2) es.toList with
  | some j =>
    dsimp only
    obtain ⟨hj, hx, _⟩ := List.findIdx?_eq_some_iff_getElem.mp found
    obtain ⟨t, ht⟩ := Value.isStrOf_shape hx
    exact wpAny_pure (wpAny_pure (fin _ s.heap (Heap.SameBut.refl a s.heap) ⟨ob, es, ep, tb, z0, zx, zd, el, me.there (List.getElem_mem hj) ht, bo, fi, ri, le⟩))
  | none =>
    dsimp only
    have told : ∀ (b : Bool) {s1 : Shared} {Z : Unit → Shared → Prop}, Z () s1 → wpAny (model P w) A (match b with | true => rule "set.scan.the-table-gave-way" | false => pure ()) Z E s1 := fun b s1 Z y => by
      cases b
      · exact wpAny_pure y
      · exact wpAny_rule y
    have q1 := layNew_perm tb es ((strKind P w).hash x) (.str x tk)
    have q2 := layNew_fits tb es ((strKind P w).hash x) (.str x tk)
    have q3 := layNew_ris tb es ((strKind P w).hash x) (.str x tk) ri
    have q4 := layNew_led tb es ((strKind P w).hash x) (.str x tk)
    generalize layNew tb es ((strKind P w).hash x) (.str x tk) = Y at q1 q2 q3 q4 ⊢
    obtain ⟨es1, tb1, was, gave⟩ := Y
    dsimp only at q1 q2 q3 q4 ⊢
    rw [Array.toList_push] at q1
    have el1 : ElemsOf (strKind P w) es1.toList := (el.push ky scn).perm q1
    have size1 : es1.size = es.size + 1 := by rw [← Array.length_toList, q1.length_eq, List.length_append, Array.length_toList]; rfl
    have no : ∀ e ∈ es.toList, ∀ u, e.2 ≠ .str x u := fun e he u ee => by
      have := List.findIdx?_eq_none_iff.mp found e he
      rw [ee, strKind_is] at this
      cases this
    have m1 : Of es1.toList (m ++ [x]) := (me.add no).perm q1
    have few := me.2.2
    rw [Array.length_toList] at few
    have b1 : es1.size < scanBound := by omega
    have le1 : w.params.followText "set-order" = true ∨ tb1.led = true := le.imp id fun y => by rw [q4]; exact y
    refine wpAny_bind (told _ ?_)
    split
    · refine wpAny_bind ?_
      rw [hashByValue_scannable 8 scn]
      refine wpAny_pure ?_
      refine setM_tail (m := m ++ [x]) ?_ z0 zx zd el1 m1 b1 ?_ ?_ ?_ ?_
      · intro b s1 Z y
        cases b
        · exact wpAny_pure y
        · exact wpAny_rule y
      · split
        · exact q2
        · exact SetTable.fits_plain_off q2
      · split <;> exact q3
      · split <;> exact le1
      · intro h2 sb S2
        dsimp only
        exact wpAny_pure (fin _ h2 sb S2)
    · refine wpAny_bind (wpAny_pure ?_)
      simp only [↓reduceIte]
      refine setM_tail (m := m ++ [x]) ?_ z0 zx zd el1 m1 b1 q2 q3 le1 ?_
      · intro b s1 Z y
        cases b
        · exact wpAny_pure y
        · exact wpAny_rule y
      · intro h2 sb S2
        dsimp only
        exact wpAny_pure (fin _ h2 sb S2)
theorem setM_new {h : Heap} (z : h.get? a = some { cls := .type "set", dict := none, data := .set #[] 0 (.fresh 0 0 (!w.params.followText "set-order")) }) : SetM P w h a [] := by
  refine ⟨_, #[], 0, _, z, ⟨rfl, rfl, rfl⟩, rfl, (fun e he => by simp at he), ⟨fun x => ⟨(fun q => nomatch q), (fun ⟨e, he, _⟩ => by simp at he)⟩, List.Pairwise.nil, Nat.le_refl _⟩, (by decide), (by rfl), List.Pairwise.nil, ?_⟩
  show _ ∨ (!w.params.followText "set-order") = true
  cases w.params.followText "set-order"
  · exact .inr rfl
  · exact .inl rfl
theorem setM_loop {I : Addr} {fp wr : List Addr} {G : Array GenState → Array GenState → Prop} {n : Nat} {Pv : Nat → Value → Prop} {St : Nat → Shared → Prop} {R : Result → Shared → Prop} (W : WalksS P w A.in1 I fp wr G n Pv St) (D : Addr) (hD : D ∉ fp) (hb : n + 1 < scanBound) (xs : List Str) (hn : xs.length = n) (txt : ∀ i v, Pv i v → ∃ x tk, v = .str x tk ∧ xs[i]? = some x)
    (out : ∀ s2, Moved (D :: wr) G s s2 → SetM P w s2.heap D xs → R (.ok (.ret .none)) s2) (st0 : St 0 s) (S0 : SetM P w s.heap D []) : codeAny (model P w) A (.builtin "set.update.loop" ⟨[.ref D, .ref I], []⟩) R s := by
  have hDw : D ∉ wr := fun z => hD (W.sub _ z)
  have more : ∀ b ∈ wr, b ∈ D :: wr := fun b z => List.mem_cons_of_mem _ z
  suffices H : ∀ (k i : Nat) (s1 : Shared), n - i = k → i ≤ n → Moved (D :: wr) G s s1 → St i s1 → SetM P w s1.heap D (xs.take i) → codeAny (model P w) A (.builtin "set.update.loop" ⟨[.ref D, .ref I], []⟩) R s1 from H (n - 0) 0 s rfl (Nat.zero_le _) (Moved.refl W.grefl) st0 S0
  intro k
  induction k with
  | zero =>
    intro i s1 hk hi mv st S1
    obtain rfl : i = n := by omega
    rw [← hn, List.take_length] at S1
    refine codeAny_builtin F.entry_set_update_loop ?_
    rw [Around.under_plainId F.plain_set_update_loop _]
    show wpAny _ A.in1 (pyNext (.ref I) >>= _) _ _ s1
    refine wpAny_bind (W.done s1 _ _ st fun s2 m2 => ?_)
    show wpAny _ A.in1 (ret Value.none) _ _ s2
    exact wpAny_pure (out s2 (Moved.trans W.gtrans mv (m2.mono more)) (S1.up fun o e => m2.heap D o hDw e))
  | succ k ih =>
    intro i s1 hk hi mv st S1
    have lt : i < n := by omega
    refine codeAny_builtin F.entry_set_update_loop ?_
    rw [Around.under_plainId F.plain_set_update_loop _]
    show wpAny _ A.in1 (pyNext (.ref I) >>= _) _ _ s1
    refine wpAny_bind (W.item i s1 _ _ lt st fun v s2 pv st2 m2 => ?_)
    obtain ⟨x, tk, rfl, hx⟩ := txt i v pv
    have S2 : SetM P w s2.heap D (xs.take i) := S1.up fun o e => m2.heap D o hDw e
    show wpAny _ A.in1 (holding [Value.str x tk] (setAdd D (.str x tk)) >>= _) _ _ s2
    refine wpAny_bind (wpAny_holding ?_)
    unfold setAdd
    refine wpAny_holding (wpAny_bind ((strKind P w).pyHash (k := x) (strKind_is _ _ _ _) ?_))
    refine setM_add (s := { s2 with toks := s2.toks + 1 }) S2 (by rw [List.length_take]; omega) fun b h2 sb S3 => ?_
    have S3 : SetM P w h2 D (xs.take (i + 1)) := by
      rw [List.take_add_one, hx]
      exact S3
    refine wpAny_pure ⟨plainId_quiet F.plain_set_update_loop _, ih (i + 1) _ (by omega) lt ?_ (W.frame _ s2 _ _ st2 (Nat.le_succ _) fun c hc o e => ?_) S3⟩
    · refine Moved.trans W.gtrans mv ((m2.mono more).then_heap (Nat.le_succ _) fun c o hc e => ?_)
      rw [sb.2 c (fun z => hc (by rw [z]; exact List.mem_cons_self))]
      exact e
    · rw [sb.2 c (fun z => hD (by rw [← z]; exact hc))]
      exact e
/-- what set() makes first -/
def bareM (w : World) : Obj := { cls := .type "set", dict := none, data := .set #[] 0 (.fresh 0 0 (!w.params.followText "set-order")) }
theorem strsAtM {vs : List Value} {xs : List Str} (h : StrsAre vs xs) : ∀ (i : Nat) (v : Value), vs[i]? = some v → ∃ x tk, v = .str x tk ∧ xs[i]? = some x := fun i v e => by
  obtain ⟨tk, z⟩ := SS.strs_at h i v e
  have hl := PyProof.Rows.StrsAre.length h
  obtain ⟨hi, _⟩ := List.getElem?_eq_some_iff.mp e
  refine ⟨_, tk, z, ?_⟩
  first
    | (rw [List.getD_eq_getElem?_getD, List.getElem?_eq_getElem (by omega)]; rfl)
    | (rw [List.getElem?_eq_getElem (by omega)]; simp)
set_option maxHeartbeats 6400000 in
theorem set_tupM {l : Addr} {its : Array Value} {xs : List Str} {Q : Value → Shared → Prop} (cold : A.handled = none) (tl : s.heap.IsTuple l its) (txt : StrsAre its.toList xs) (few : its.size + 1 < scanBound)
    (fin : ∀ (h2 : Heap) (tk : Nat), SetM P w h2 s.heap.objs.size xs → (∀ b o, s.heap.get? b = some o → h2.get? b = some o) → Q (.ref s.heap.objs.size) { s with heap := h2, toks := tk }) :
    wpAny (model P w) A (call (.type "set") [.ref l]) Q E s := by
  obtain ⟨c, rest, hmro⟩ := F.called_set.mro
  have hmade := F.called_set.made
  have hsub := F.called_set.sub
  refine wpAny_call (codeAny_of_tree ?_)
  show wpAny _ _ (callAny (.type "set") _) _ _ _
  refine wpAny_pure ⟨Code.quiet_builtin _ (by decide +kernel), codeAny_builtin F.entry_type_call ?_⟩
  rw [Around.under_plain (weight_type_call_type "set" [.ref l] []) rfl]
  have h1 := F.called_set.notType
  have h2 := F.called_set.canCreate
  have hct := F.typeCall_set_1 (.ref l)
  repeat (any_goals (first | assumption | wp_step))
  refine codeAny_mono (code_set_led1 (.ref l) (E := E) (Q₁ := fun ob s1 => ob = .ref s.heap.objs.size ∧ s1 = { s with heap := s.heap.push (bareM w) }) ⟨rfl, rfl⟩) fun r s1 hr => ?_
  cases r with
  | error e => exact hr
  | ok fl =>
    cases fl with
    | ret ob =>
      obtain ⟨rfl, rfl⟩ := hr
      have z0 : (s.heap.push (bareM w)).get? s.heap.objs.size = some (bareM w) := Heap.get?_push_size _ rfl
      have hT : Shared.TypeIs { s with heap := s.heap.push (bareM w) } (.ref s.heap.objs.size) "set" := ⟨_, z0, rfl⟩
      have hli := F.called_set.init.lookup
      have hbi := F.called_set.init.bind (.ref s.heap.objs.size)
      repeat (any_goals (first | assumption | wp_step))
      refine codeAny_mono (codeAny_call_builtin (R := wants (fun r s2 => r = .none ∧ ∃ h2 tk, s2 = { s with heap := h2, toks := tk } ∧ SetM P w h2 s.heap.objs.size xs ∧ ∀ b o, s.heap.get? b = some o → h2.get? b = some o) E) F.called_set.init.plain F.entry_set_init (check_set_init_1 hT ?_)) fun r2 s2 hr2 => ?_
      · obtain ⟨⟨cls, dict, data, slots⟩, gl, cl, nl, dl⟩ := tl
        simp only at cl dl
        subst cl dl
        have gl1 : (s.heap.push (bareM w)).get? l = some { cls := .type "tuple", dict := dict, data := .seq its nl, slots := slots } := Heap.get?_push_of_some _ gl
        have hsls := F.sub_tuple_set
        have hslf := F.sub_tuple_frozenset
        have hne : (Value.type "tuple" == Value.type "dict") = false := by decide
        have tl1 : (s.heap.push (bareM w)).IsTuple l its := ⟨_, gl1, rfl, nl, rfl⟩
        unfold Builtin.«set.__init__» noKeywords Builtin.Frozenset.updateFrom
        generalize walkP : pyIter = Pit
        wp_walk
        subst walkP
        refine wpAny_pyIter_tuple tl1 ?_
        refine wpAny_bind (wpAny_runValue ?_)
        have lt0 : l < s.heap.objs.size := Heap.lt_size gl
        have cold3 : A.in1.in1.in1.handled = none := by simp [cold]
        have lt1 : l ≠ (s.heap.push (bareM w)).objs.size := by
          rw [Heap.size_push]
          exact Nat.ne_of_lt (Nat.lt_succ_of_lt lt0)
        have hD : s.heap.objs.size ∉ [(s.heap.push (bareM w)).objs.size, l] := by
          rw [Heap.size_push]
          simp only [List.mem_cons, List.mem_singleton, List.not_mem_nil, or_false, not_or]
          exact ⟨Nat.ne_of_lt (Nat.lt_succ_self _), Nat.ne_of_gt lt0⟩
        refine setM_loop ((Walks.tuple cold3 _ l lt1 its).toS) s.heap.objs.size hD few xs (by have := PyProof.Rows.StrsAre.length txt; rw [Array.length_toList] at this; omega) (fun i v e => strsAtM txt i v (by rw [Array.getElem?_toList]; exact e)) ?_ ⟨⟨_, Heap.get?_push_size _ rfl, rfl, rfl⟩, tl1.push _⟩ (setM_new (Heap.get?_push_of_some _ z0))
        intro s2 mv S2
        obtain ⟨h2, g2, d2, tk2, o2⟩ := s2
        obtain rfl : g2 = s.gens := mv.gens
        obtain rfl : d2 = s.drawn := mv.drawn
        obtain rfl : o2 = s.os := mv.os
        show wpAny _ _ _ _ _ _
        refine wpAny_pure ?_
        show wpAny _ _ (ret Value.none) _ _ _
        refine wpAny_pure ⟨rfl, h2, tk2, rfl, S2, fun b o e => ?_⟩
        have lb : b < s.heap.objs.size := Heap.lt_size e
        have nb : b ≠ (s.heap.push (bareM w)).objs.size := by
          rw [Heap.size_push]
          exact Nat.ne_of_lt (Nat.lt_succ_of_lt lb)
        exact mv.heap b o (by simp only [List.mem_cons, List.mem_singleton, List.not_mem_nil, or_false, not_or]; exact ⟨Nat.ne_of_lt lb, nb⟩) (Heap.get?_push_of_some _ (Heap.get?_push_of_some _ e))
      · cases r2 with
        | error e => exact hr2
        | ok fl2 =>
          cases fl2 with
          | ret r =>
            obtain ⟨rfl, h2, tk, rfl, S2, k2⟩ := hr2
            repeat (any_goals (first | assumption | wp_step))
            exact fin _ _ S2 k2
          | _ => exact hr2.elim
    | _ => exact hr.elim
theorem strsOfM : ∀ vs : List Value, (∀ v ∈ vs, ∃ x tk, v = .str x tk) → ∃ xs : List Str, StrsAre vs xs
  | [], _ => ⟨[], .nil⟩
  | v :: vs, h => by
    obtain ⟨x, tk, rfl⟩ := h v List.mem_cons_self
    obtain ⟨xs, hx⟩ := strsOfM vs fun u hu => h u (List.mem_cons_of_mem _ hu)
    exact ⟨x :: xs, .cons x tk hx⟩
theorem strs_mem {x : Str} : ∀ {vs : List Value} {xs : List Str}, StrsAre vs xs → (x ∈ xs ↔ ∃ t, Value.str x t ∈ vs) := by
  intro vs xs h
  induction h with
  | nil => simp
  | cons y tk h ih =>
    rw [List.mem_cons, ih]
    constructor
    · rintro (rfl | ⟨t, ht⟩)
      · exact ⟨tk, List.mem_cons_self⟩
      · exact ⟨t, List.mem_cons_of_mem _ ht⟩
    · rintro ⟨t, ht⟩
      rcases List.mem_cons.mp ht with z | z
      · cases z
        exact .inl rfl
      · exact .inr ⟨t, z⟩
theorem strs_nodup : ∀ {vs : List Value} {xs : List Str}, StrsAre vs xs → vs.Pairwise (fun e f => ∀ x t u, e = Value.str x t → f = .str x u → False) → xs.Nodup := by
  intro vs xs h
  induction h with
  | nil => exact fun _ => List.nodup_nil
  | cons y tk h ih =>
    intro p
    obtain ⟨p1, p2⟩ := List.pairwise_cons.mp p
    refine List.nodup_cons.mpr ⟨fun z => ?_, ih p2⟩
    obtain ⟨t, ht⟩ := (strs_mem h).mp z
    exact p1 _ ht y tk t rfl rfl
theorem sorted_setM {Q : Value → Shared → Prop} (S : SetM P w s.heap a m) (cold : A.handled = none) (few : m.length < 64)
    (fin : ∀ (s2 : Shared) (p : Addr) (out : Array Value) (c : Nat) (ys : List Str), (∀ b o, s.heap.get? b = some o → s2.heap.get? b = some o) → s2.gens = s.gens → s2.os = s.os → s.heap.objs.size ≤ p → s2.heap.get? p = some (seqObj "list" out c) → StrsAre out.toList ys → sortedS ys = true → ys.Nodup → (∀ x, x ∈ ys ↔ x ∈ m) → Q (.ref p) s2) :
    wpAny (model P w) A (call (.builtin "sorted") [.ref a]) Q E s := by
  obtain ⟨ob, es, ep, tb, z0, zx, zd, el, me, bo, fi, ri, le⟩ := S
  refine Calls.call_function_entry kind_sorted plain_sorted entry_sorted (args_sorted1 _) ?_
  unfold Builtin.«sorted»
  refine wpAny_bind (m := checkCount "sorted" 1 1 _) (wpAny_pure ?_)
  refine wpAny_bind (collect_set (A := A.in1) cold ⟨ob, z0, zx.1, zd⟩ fi bo ri le fun s1 vs k1 hz g1 o1 pm => ?_)
  have vl : vs.length ≤ m.length := by rw [pm.length_eq, List.length_map]; exact me.2.2
  obtain ⟨xs, hS⟩ := strsOfM vs fun v hv => by
    obtain ⟨e, he, rfl⟩ := List.mem_map.mp (pm.mem_iff.mp hv)
    obtain ⟨⟨k, hk, _⟩, _⟩ := el e he
    obtain ⟨tk, z⟩ := Value.isStrOf_shape hk
    exact ⟨k, tk, z⟩
  have memX : ∀ x, x ∈ xs ↔ x ∈ m := fun x => by
    rw [me.1 x, strs_mem hS]
    constructor
    · rintro ⟨t, ht⟩
      obtain ⟨e, he, ee⟩ := List.mem_map.mp (pm.mem_iff.mp ht)
      exact ⟨e, he, t, ee⟩
    · rintro ⟨e, he, t, ee⟩
      exact ⟨t, pm.mem_iff.mpr (List.mem_map.mpr ⟨e, he, ee⟩)⟩
  have ndX : xs.Nodup := strs_nodup hS ((pm.pairwise_iff fun {a b} hab x t u e1 e2 => hab x u t e2 e1).mpr (List.pairwise_map.mpr me.2.1))
  refine wpAny_bind (wpAny_newList ?_ (by rw [sizeLine_eq]; omega))
  have hoL : (s1.heap.push (seqObj "list" vs.toArray 0)).get? s1.heap.objs.size = some (seqObj "list" vs.toArray 0) := Heap.get?_push_size _ rfl
  refine wpAny_bind (wpAny_holding (wpAny_call_entry slot_list_sort ⟨_, hoL, rfl⟩ entry_list_sort (list_sort_treeK strKind_oneLt hoL hS.keysOf (fun v₁ v₂ rest e => keyKind_strs (by rw [← e]; exact hS)) (by omega) fun st' hp hs => ⟨_, rfl, ?_⟩) (args_list_sort _)))
  obtain ⟨ys, e1, e2, e3⟩ := sorted_out_str hS hp hs
  obtain ⟨c, hc⟩ := sortedHeap_at (out := (arrOf st').map (·.2)) hoL
  have hxl := PyProof.Rows.StrsAre.length hS
  refine wpAny_pure ⟨_, rfl, fin _ s1.heap.objs.size _ c ys (fun b o hb => ?_) g1 o1 hz hc e1 e3 (e2.nodup_iff.mpr ndX) (fun x => e2.mem_iff.trans (memX x))⟩
  have y := k1 b o hb
  have hlt := Heap.lt_size y
  show (sortedHeap (s1.heap.push (seqObj "list" vs.toArray 0)) s1.heap.objs.size vs _).get? b = some o
  rw [sortedHeap_old (Nat.ne_of_lt hlt) (by rw [size_push']; exact Nat.lt_succ_of_lt hlt)]
  exact Heap.get?_push_of_some _ y
end
theorem sub_len {α : Type} [DecidableEq α] : ∀ {ys zs : List α}, ys.Nodup → (∀ x ∈ ys, x ∈ zs) → ys.length ≤ zs.length
  | [], _, _, _ => Nat.zero_le _
  | y :: ys, zs, nd, h => by
    have nd := List.nodup_cons.mp nd
    have hy := h y List.mem_cons_self
    have := sub_len (zs := zs.erase y) nd.2 fun x hx => (List.mem_erase_of_ne fun (e : x = y) => nd.1 (by rw [← e]; exact hx)).mpr (h x (List.mem_cons_of_mem _ hx))
    rw [List.length_erase_of_mem hy] at this
    have hp : 0 < zs.length := List.length_pos_of_mem hy
    rw [List.length_cons]
    omega
/-- the set's place in H -/
def SetMO (P : Program) (w : World) (a : Addr) (m : List Str) : HO := .ext fun h => SetM P w h a m
theorem setMO_ok {P : Program} {w : World} {H : Hp} {h : Heap} {a : Addr} {m : List Str} (S : SetM P w h a m) : ObjOk P w H h a (SetMO P w a m) := by
  have ⟨ob, _, _, _, z, _⟩ := S
  exact ⟨S, ⟨ob, z⟩, fun h1 h2 p k => SetM.up p k⟩
def rSetM (K : PySem.W.Frag) (P : Program) (w : World) : List V → Hp → VK → Prop := fun vs H Q => ∃ (l : Addr) (xs : List Str), vs = [.ref l] ∧ SqT K H l (xs.map V.str) ∧ xs.length < 64 ∧ ∀ a, H a = none → Q (.ref a) (upd H a (SetMO P w a xs))
theorem cr_setM {X : Cx} (hc : X.calm = true) : CallR X (.type "set") (rSetM X.K X.prog X.w) := by
  intro pins s σ H vs us Q I r h
  obtain ⟨l, xs, rfl, ht, few, q⟩ := h
  rw [Vals.ref1 r]
  obtain ⟨its, rv, tl, hz⟩ := I.tuple ht
  have ln := rv.length
  rw [List.length_map] at ln
  have hn : H s.heap.objs.size = none := I.hok.fresh (Nat.le_refl _)
  refine set_tupM (P := X.prog) (w := X.w) (I.ok.hd hc) tl rv.strs (by rw [List.size_toArray, ← ln]; show _ < 4096; omega) fun h2 tk S k => ?_
  exact ⟨.ref s.heap.objs.size, _, I.laid (t' := tk) k (Nat.le_refl _) (setMO_ok S), rfl, q _ hn⟩
def rSortM (P : Program) (w : World) : List V → Hp → VK → Prop := fun vs H Q => ∃ (a : Addr) (m : List Str), vs = [.ref a] ∧ H a = some (SetMO P w a m) ∧ m.length < 64 ∧ ∀ (ys : List Str) (p : Addr), sortedS ys = true → ys.Nodup → (∀ x, x ∈ ys ↔ x ∈ m) → H p = none → Q (.ref p) (upd H p (.lst (ys.map V.str)))
theorem cr_sortM {X : Cx} (hc : X.calm = true) : CallR X (.builtin "sorted") (rSortM X.prog X.w) := by
  intro pins s σ H vs us Q I r h
  obtain ⟨a, m, rfl, ha, few, q⟩ := h
  have S : SetM X.prog X.w s.heap a m := (I.hok a _ ha).1
  rw [Vals.ref1 r]
  refine sorted_setM S (I.ok.hd hc) few fun s2 p out c ys k g o hp hg e1 e2 e3 e4 => ?_
  have hn : H p = none := I.hok.fresh hp
  have len : (ys.map V.str).length ≤ sizeLine := by
    rw [List.length_map, sizeLine_eq]
    have := sub_len (zs := m) e3 fun x hx => (e4 x).mp hx
    omega
  have J : Inv X pins σ (upd H p (.lst (ys.map V.str))) { s with heap := s2.heap, gens := s2.gens, drawn := s2.drawn, toks := s2.toks } :=
    I.call (ch := []) (Un.laid k hp hn) (I.hok.laid k hp ⟨len, out.toList, c, vals_of_strs e1, hg⟩) (by rw [g]; exact I.bare) (fun _ z => nomatch z)
  have e : s2 = { s with heap := s2.heap, gens := s2.gens, drawn := s2.drawn, toks := s2.toks } := by
    cases s2
    cases s
    cases o
    rfl
  rw [e]
  exact ⟨.ref p, _, J, rfl, q ys p e2 e3 e4 hn⟩
end Ka
/-! sorted(d.items()) of a dict with texts as keys and rows of texts as values. -/
namespace Ka
open PySem PySem.Spec PyProof.Rows L2 PySem.W PySem.SeqAt
abbrev IE := Str × Addr
def itKV (es : List IE) : List (L2.Key × V) := es.map fun e => (Sum.inr e.1, V.ref e.2)
section
variable {X : Cx}
def rItemsK : V → List V → Hp → VK → Prop := fun x xs H Q => ∃ (a : Addr) (kvs : List (L2.Key × V)), x = .ref a ∧ xs = [] ∧ H a = some (.dK kvs) ∧ ∀ p, H p = none → Q (.ref p) (upd H p (L2.DX.itemsO p a))
theorem mt_itemsK : MtR X "dict.items" rItemsK := by
  intro pins s σ H x xs v us Q I rx rxs h
  obtain ⟨a, kvs, rfl, rfl, ha, q⟩ := h
  cases rx
  cases rxs
  obtain ⟨z, hs0, vs, kv, hdo⟩ := I.hok a _ ha
  refine call_meetsIn PySem.F.slot_dict_items hdo.typeIs PySem.F.entry_dict_items (PySem.F.args_dict_items_1 _) (meets_dict_items (mixKind X.prog X.w) a hs0) ⟨⟨vs, hdo⟩, ?_⟩
  have hf : H s.heap.objs.size = none := I.hok.fresh (Nat.le_refl _)
  exact ⟨.ref s.heap.objs.size, upd H s.heap.objs.size (L2.DX.itemsO s.heap.objs.size a), I.laid (t' := s.toks) (fun b u e => Heap.get?_push_of_some _ e) (Nat.le_refl _) (L2.DX.itemsO_ok (Heap.get?_push_size _ rfl)), rfl, q _ hf⟩
end
theorem alike_strsI : ∀ xs ys : List Str, alikeAll (xs.map PyData.str) (ys.map PyData.str) = true
  | [], _ => by simp [alikeAll]
  | _ :: _, [] => by simp [alikeAll]
  | x :: xs, y :: ys => by
    show alikeAll (.str x :: xs.map .str) (.str y :: ys.map .str) = true
    rw [alikeAll, alike_strsI xs ys]
    simp [alike]
theorem depth_strsI : ∀ xs : List Str, PyData.depthAll (xs.map PyData.str) = 0
  | [] => by simp [PyData.depthAll]
  | x :: xs => by
    show PyData.depthAll (.str x :: xs.map .str) = 0
    rw [PyData.depthAll, depth_strsI xs]
    simp [PyData.depth]
theorem reads_strsI {h : Heap} : ∀ {k : List Str} {us : List Value}, Vals (k.map V.str) us → ReadsAll h us (k.map PyData.str) []
  | [], _, r => by
    cases r
    exact .nil
  | x :: k, _, r => by
    rw [List.map_cons] at r
    cases r with
    | cons a b =>
      obtain ⟨t, rfl⟩ := a
      exact .cons (as := []) (bs := []) (.str x t) (reads_strsI b)
/-- a pair at its place -/
abbrev IP := Addr × IE
def itD (M : IE → List Str) (z : IP) : PyData := .tuple [.str z.2.1, .tuple ((M z.2).map PyData.str)]
def leKI (a b : Str) : Bool := !ltCps b.cps.toList a.cps.toList
theorem leKI_iff {a b : Str} : leKI a b = true ↔ a.cps.toList ≤ b.cps.toList := by
  unfold leKI
  rw [ltCps_eq, Bool.not_eq_true', decide_eq_false_iff_not]
  exact Iff.rfl
theorem leKI_sorted (l : List Str) : sortedS (l.mergeSort leKI) = true := by
  refine sortedS_of_pairwise _ ((List.pairwise_mergeSort (fun a b c h1 h2 => ?_) (fun a b => ?_) l).imp fun {a b} h => ?_)
  · rw [leKI_iff] at h1 h2 ⊢
    exact List.le_trans h1 h2
  · rw [Bool.or_eq_true, leKI_iff, leKI_iff]
    exact List.le_total _ _
  · have h : (!ltCps b.cps.toList a.cps.toList) = true := h
    simpa using h
theorem itD_le {M : IE → List Str} {zs : List IP} (nd : (zs.map (·.2.1)).Nodup) : ∀ a ∈ zs, ∀ b ∈ zs, dataLe false (itD M) a b = leKI a.2.1 b.2.1 := by
  intro a ha b hb
  show (!dataLt (itD M b) (itD M a)) = _
  by_cases e : a = b
  · subst e
    have e1 : dataLt (itD M a) (itD M a) = false := lex_irrefl _
    rw [e1]
    symm
    exact leKI_iff.mpr (List.le_refl _)
  · have ne : ¬ b.2.1 = a.2.1 := fun z => e (by
      obtain ⟨i, hi⟩ := List.getElem?_of_mem ha
      obtain ⟨j, hj⟩ := List.getElem?_of_mem hb
      have e1 : (zs.map (·.2.1))[i]? = some a.2.1 := by rw [List.getElem?_map, hi]; rfl
      have e2 : (zs.map (·.2.1))[j]? = some a.2.1 := by rw [List.getElem?_map, hj, ← z]; rfl
      have := (List.getElem?_inj (List.getElem?_eq_some_iff.mp e1).1 nd).mp (e1.trans e2.symm)
      subst this
      exact Option.some.inj (hi.symm.trans hj))
    have e1 : dataLt (itD M b) (itD M a) = ltCps b.2.1.cps.toList a.2.1.cps.toList := by
      unfold itD
      rw [dataLt_pair (by simp [alike]) (by simp [alike, alike_strsI]), dataLt_str, ltCps_eq]
      have : ¬ PyData.eqv (.str b.2.1) (.str a.2.1) = true := by
        simp only [PyData.eqv, beq_iff_eq]
        exact ne
      rw [if_neg this]
    rw [e1]
    rfl
theorem ip_each : ∀ {zs : List IP}, EachIs (fun v (b : IP) => v = Value.ref b.1) (zs.map fun z => Value.ref z.1) zs
  | [] => .nil
  | z :: zs => .cons rfl ip_each
theorem ip_vals {zs : List IP} {us : List Value} (e : EachIs (fun v (b : IP) => v = Value.ref b.1) us zs) : Vals (zs.map fun r => V.ref r.1) us := by
  induction e with
  | nil => exact .nil
  | cons h t ih =>
    subst h
    exact .cons rfl ih
def rSortItK : List V → Hp → VK → Prop := fun vs H Q => ∃ (p a : Addr) (es : List IE) (M : IE → List Str), vs = [.ref p] ∧ H p = some (L2.DX.itemsO p a) ∧ H a = some (.dK (itKV es)) ∧ (es.map (·.1)).Nodup ∧ (∀ e ∈ es, H e.2 = some (.tup ((M e).map V.str))) ∧
  ∀ (H' : Hp) (l : Addr) (ps : List IP), (∀ b o, H b = some o → H' b = some o) → H l = none → (ps.map (·.2)).Perm es → sortedS (ps.map (·.2.1)) = true → H' l = some (.lst (ps.map fun z => V.ref z.1)) → (∀ z ∈ ps, H' z.1 = some (.tup [.str z.2.1, .ref z.2.2])) → Q (.ref l) H'
theorem cr_sortItK {X : Cx} (hc : X.calm = true) (hu : X.A.units + 64 < cLine) : CallR X (.builtin "sorted") rSortItK := by
  intro pins s σ H vs us Q I r h
  obtain ⟨p, a, es, M, rfl, hp, ha, nd, hM, q⟩ := h
  obtain rfl := Vals.ref1 r
  have view : s.heap.IsItemsView p a := (show ObjOk X.prog X.w H s.heap p (L2.DX.itemsO p a) from I.hok p _ hp).1
  obtain ⟨hz, hs0, kvs, kv, hdo⟩ := I.hok a _ ha
  obtain ⟨ep, hat⟩ := hdo.dictAt
  have lk : (itKV es).length = kvs.length := Paired.length kv
  have le : (itKV es).length = es.length := List.length_map _
  refine Calls.call_function_entry PyProof.Rows.kind_sorted PyProof.Rows.plain_sorted PyProof.Rows.entry_sorted (PyProof.Rows.args_sorted1 _) ?_
  unfold Builtin.«sorted»
  refine wpAny_bind (m := checkCount "sorted" 1 1 _) (wpAny_pure ?_)
  refine wpAny_bind (kdx_collect (A := X.A.in1) (I.ok.hd hc) view hat (by omega) fun h' tk as hk hl hG => ?_)
  have las : as.length = es.length := by omega
  have nda : as.Nodup := List.Pairwise.imp (fun {a b} (h : a < b) => Nat.ne_of_lt h) hG.rise
  have I1 : Inv X pins σ H { s with heap := h', toks := tk } := I.kept (t' := tk) hk
  obtain ⟨H2, I2, g, qt⟩ := L2.DX.takeT (P := fun b vs => ∀ e, (b, e) ∈ as.zip es → vs = [.str e.1, .ref e.2]) I as _ I1 nda fun b hb => by
    obtain ⟨j, hj⟩ := List.mem_iff_getElem?.mp hb
    obtain ⟨key, k, x, f1, f2, f3⟩ := hG.pairs j b hj
    have hjl := (List.getElem?_eq_some_iff.mp hj).1
    have hes : es[j]? = some (es[j]'(by omega)) := List.getElem?_eq_getElem (by omega)
    generalize es[j]'(by omega) = e at hes
    have hit : (itKV es)[j]? = some (Sum.inr e.1, V.ref e.2) := by
      unfold itKV
      rw [List.getElem?_map, hes]
      rfl
    obtain ⟨qv, g1, g2, g3⟩ := LiI.paired_get kv hit
    rw [f1] at g1
    cases g1
    refine ⟨Nat.le_of_lt (hG.above b hb), I.hok.fresh (Nat.le_of_lt (hG.above b hb)), [.str e.1, .ref e.2], fun e2 h2 => ?_, fun H3 => ⟨(by show 2 ≤ sizeLine; decide), [key, x], .cons ?_ (.cons g3 .nil), ⟨_, f3, rfl, _, rfl⟩⟩⟩
    · obtain ⟨i, hi⟩ := List.getElem?_of_mem h2
      rw [List.getElem?_zip_eq_some] at hi
      have := (List.getElem?_inj hjl nda).mp (hj.trans hi.1.symm)
      subst this
      have := Option.some.inj (hes.symm.trans hi.2)
      rw [this]
    · have g2 : (Sum.inr e.1 : L2.Key) = k := g2
      have rk : RelV (kV (Sum.inr e.1 : L2.Key)) key := by
        rw [g2]
        exact relV_key (show keyIs k key = true from f2)
      exact rk
  have tups : ∀ z ∈ as.zip es, H2 z.1 = some (.tup [.str z.2.1, .ref z.2.2]) := fun z hz => by
    obtain ⟨vs, h1, h2⟩ := qt z.1 (List.of_mem_zip hz).1
    rw [h2, h1 z.2 hz]
  have zas : (as.zip es).map (fun z => Value.ref z.1) = as.map Value.ref := by
    have : (as.zip es).map (·.1) = as := List.map_fst_zip (by omega)
    conv => rhs; rw [← this]
    rw [List.map_map]
    rfl
  have zes : (as.zip es).map (·.2) = es := List.map_snd_zip (by omega)
  have znd : ((as.zip es).map (·.2.1)).Nodup := by
    have : (as.zip es).map (·.2.1) = es.map (·.1) := by
      conv => rhs; rw [← zes]
      rw [List.map_map]
      rfl
    rw [this]
    exact nd
  have hMz : ∀ z ∈ as.zip es, H2 z.2.2 = some (.tup ((M z.2).map V.str)) := fun z hz => g _ _ (hM z.2 (List.of_mem_zip hz).2)
  have zlen : (as.zip es).length ≤ sizeLine := by
    rw [List.length_zip]
    omega
  generalize as.zip es = zs at tups zas zes znd hMz zlen
  rw [← zas]
  refine wpAny_bind (wpAny_newList ?_ (by rw [List.length_map]; exact zlen))
  have hoL : (h'.push (seqObj "list" (zs.map fun z => Value.ref z.1).toArray 0)).get? h'.objs.size = some (seqObj "list" (zs.map fun z => Value.ref z.1).toArray 0) := Heap.get?_push_size _ rfl
  refine wpAny_bind (wpAny_holding ?_)
  show wpAny (model X.prog X.w) X.A.in1 (call (.builtin "list.sort") [.ref h'.objs.size]) _ _ { s with heap := h'.push (seqObj "list" (zs.map fun z => Value.ref z.1).toArray 0), toks := tk }
  have er : EachIs (fun v (b : IP) => ∃ as, Reads (h'.push (seqObj "list" (zs.map fun z => Value.ref z.1).toArray 0)) v (itD M b) as ∧ h'.objs.size ∉ as) (zs.map fun z => Value.ref z.1) zs := (each_mem ip_each).mono fun v b ⟨ev, hm⟩ => by
    subst ev
    obtain ⟨its, rv, ht, _⟩ := I2.tuple (.inl (.inl (tups b hm)))
    obtain ⟨o2, ho2, hc2, n2, hd2⟩ := ht
    obtain ⟨its3, rv3, ht3, _⟩ := I2.tuple (.inl (.inl (hMz b hm)))
    obtain ⟨o3, ho3, hc3, n3, hd3⟩ := ht3
    cases rv with
    | cons r1 r2 =>
      cases r2 with
      | cons r3 r4 =>
        cases r4
        obtain ⟨t, rfl⟩ := r1
        cases r3
        refine ⟨[], Reads.tuple (Heap.get?_push_of_some _ ho2) hc2 hd2 (.cons (as := []) (bs := []) (.str _ t) (.cons (as := []) (bs := []) (Reads.tuple (Heap.get?_push_of_some _ ho3) hc3 hd3 (reads_strsI rv3)) .nil)), fun hmm => by cases hmm⟩
  refine list_sort_data (s := { s with heap := h'.push (seqObj "list" (zs.map fun z => Value.ref z.1).toArray 0), toks := tk }) (enc := itD M) hoL ip_each er (AllAlike.of fun b b' => ?_) (Sortable.tuples fun b => ⟨_, _, rfl⟩) zlen (fun r _ => ?_) fun out ho2 eo => ?_
  · unfold itD
    simp [alike, alikeAll, alike_strsI]
  · have hdep : (itD M r).depth ≤ 3 := by
      unfold itD
      simp [PyData.depth, PyData.depthAll, depth_strsI]
    show X.A.units + 1 + 1 + (itD M r).depth < cLine
    omega
  · obtain ⟨e', he'⟩ := PyProof.Rows.sortedHeap_at (vs := zs.map fun z => Value.ref z.1) (out := out.toArray) hoL
    have hle2 : ((zs.mergeSort (dataLe false (itD M))).map fun r => V.ref r.1).length ≤ sizeLine := by
      rw [List.length_map, List.length_mergeSort]
      exact zlen
    have up : ∀ b o, h'.get? b = some o → (sortedHeap (h'.push (seqObj "list" (zs.map fun z => Value.ref z.1).toArray 0)) h'.objs.size (zs.map fun z => Value.ref z.1) out.toArray).get? b = some o := fun b u e => by
      have hb : b < h'.objs.size := Heap.lt_size e
      rw [PyProof.Rows.sortedHeap_old (Nat.ne_of_lt hb) (by rw [size_push']; exact Nat.lt_succ_of_lt hb)]
      exact Heap.get?_push_of_some _ e
    have lf : H2 h'.objs.size = none := I2.hok.fresh (Nat.le_refl _)
    have lf0 : H h'.objs.size = none := I1.hok.fresh (Nat.le_refl _)
    have kS : (zs.mergeSort (dataLe false (itD M))).map (fun z : IP => z.2.1) = (zs.map fun z : IP => z.2.1).mergeSort leKI := sort_maps (fun z : IP => z.2.1) (itD_le znd)
    have pm := List.mergeSort_perm zs (dataLe false (itD M))
    refine wpAny_pure ⟨_, rfl, .ref h'.objs.size, _, I2.laid (t' := tk) (o := .lst ((zs.mergeSort (dataLe false (itD M))).map fun r => V.ref r.1)) up (Nat.le_refl _) ⟨hle2, out, e', ip_vals eo, he'⟩, rfl, q _ _ (zs.mergeSort (dataLe false (itD M))) (fun b o e => ?_) lf0 ?_ ?_ upd_same (fun z hz => ?_)⟩
    · have e := g _ _ e
      rw [upd_ne (ne_of_none e lf)]
      exact e
    · have := pm.map (fun z : IP => z.2)
      rw [zes] at this
      exact this
    · rw [kS]
      exact leKI_sorted _
    · have e := tups z (pm.mem_iff.mp hz)
      rw [upd_ne (ne_of_none e lf)]
      exact e
end Ka
/-! set(l) of a list of texts; list(d.values()). -/
namespace Ka
open PySem PySem.Spec PyProof.Rows L2
section
variable {P : Program} {w : World} {A : Around} {E : Value → Shared → Prop} {s : Shared} {a : Addr} {m : List Str}
set_option maxHeartbeats 6400000 in
theorem set_lisM {l : Addr} {its : Array Value} {xs : List Str} {Q : Value → Shared → Prop} (cold : A.handled = none) (tl : s.heap.IsList l its) (txt : StrsAre its.toList xs) (few : its.size + 1 < scanBound)
    (fin : ∀ (h2 : Heap) (tk : Nat), SetM P w h2 s.heap.objs.size xs → (∀ b o, s.heap.get? b = some o → h2.get? b = some o) → Q (.ref s.heap.objs.size) { s with heap := h2, toks := tk }) :
    wpAny (model P w) A (call (.type "set") [.ref l]) Q E s := by
  obtain ⟨c, rest, hmro⟩ := F.called_set.mro
  have hmade := F.called_set.made
  have hsub := F.called_set.sub
  refine wpAny_call (codeAny_of_tree ?_)
  show wpAny _ _ (callAny (.type "set") _) _ _ _
  refine wpAny_pure ⟨Code.quiet_builtin _ (by decide +kernel), codeAny_builtin F.entry_type_call ?_⟩
  rw [Around.under_plain (weight_type_call_type "set" [.ref l] []) rfl]
  have h1 := F.called_set.notType
  have h2 := F.called_set.canCreate
  have hct := F.typeCall_set_1 (.ref l)
  repeat (any_goals (first | assumption | wp_step))
  refine codeAny_mono (code_set_led1 (.ref l) (E := E) (Q₁ := fun ob s1 => ob = .ref s.heap.objs.size ∧ s1 = { s with heap := s.heap.push (bareM w) }) ⟨rfl, rfl⟩) fun r s1 hr => ?_
  cases r with
  | error e => exact hr
  | ok fl =>
    cases fl with
    | ret ob =>
      obtain ⟨rfl, rfl⟩ := hr
      have z0 : (s.heap.push (bareM w)).get? s.heap.objs.size = some (bareM w) := Heap.get?_push_size _ rfl
      have hT : Shared.TypeIs { s with heap := s.heap.push (bareM w) } (.ref s.heap.objs.size) "set" := ⟨_, z0, rfl⟩
      have hli := F.called_set.init.lookup
      have hbi := F.called_set.init.bind (.ref s.heap.objs.size)
      repeat (any_goals (first | assumption | wp_step))
      refine codeAny_mono (codeAny_call_builtin (R := wants (fun r s2 => r = .none ∧ ∃ h2 tk, s2 = { s with heap := h2, toks := tk } ∧ SetM P w h2 s.heap.objs.size xs ∧ ∀ b o, s.heap.get? b = some o → h2.get? b = some o) E) F.called_set.init.plain F.entry_set_init (check_set_init_1 hT ?_)) fun r2 s2 hr2 => ?_
      · obtain ⟨⟨cls, dict, data, slots⟩, gl, cl, nl, dl⟩ := tl
        simp only at cl dl
        subst cl dl
        have gl1 : (s.heap.push (bareM w)).get? l = some { cls := .type "list", dict := dict, data := .seq its nl, slots := slots } := Heap.get?_push_of_some _ gl
        have hsls := F.sub_list_set
        have hslf := F.sub_list_frozenset
        have hne : (Value.type "list" == Value.type "dict") = false := by decide
        have tl1 : (s.heap.push (bareM w)).IsList l its := ⟨_, gl1, rfl, nl, rfl⟩
        unfold Builtin.«set.__init__» noKeywords Builtin.Frozenset.updateFrom
        generalize walkP : pyIter = Pit
        wp_walk
        subst walkP
        refine wpAny_pyIter_list tl1 ?_
        refine wpAny_bind (wpAny_runValue ?_)
        have lt0 : l < s.heap.objs.size := Heap.lt_size gl
        have cold3 : A.in1.in1.in1.handled = none := by simp [cold]
        have lt1 : l ≠ (s.heap.push (bareM w)).objs.size := by
          rw [Heap.size_push]
          exact Nat.ne_of_lt (Nat.lt_succ_of_lt lt0)
        have hD : s.heap.objs.size ∉ [(s.heap.push (bareM w)).objs.size, l] := by
          rw [Heap.size_push]
          simp only [List.mem_cons, List.mem_singleton, List.not_mem_nil, or_false, not_or]
          exact ⟨Nat.ne_of_lt (Nat.lt_succ_self _), Nat.ne_of_gt lt0⟩
        refine setM_loop ((Walks.list cold3 _ l lt1 its).toS) s.heap.objs.size hD few xs (by have := PyProof.Rows.StrsAre.length txt; rw [Array.length_toList] at this; omega) (fun i v e => strsAtM txt i v (by rw [Array.getElem?_toList]; exact e)) ?_ ⟨⟨_, Heap.get?_push_size _ rfl, rfl, rfl⟩, tl1.push _⟩ (setM_new (Heap.get?_push_of_some _ z0))
        intro s2 mv S2
        obtain ⟨h2, g2, d2, tk2, o2⟩ := s2
        obtain rfl : g2 = s.gens := mv.gens
        obtain rfl : d2 = s.drawn := mv.drawn
        obtain rfl : o2 = s.os := mv.os
        show wpAny _ _ _ _ _ _
        refine wpAny_pure ?_
        show wpAny _ _ (ret Value.none) _ _ _
        refine wpAny_pure ⟨rfl, h2, tk2, rfl, S2, fun b o e => ?_⟩
        have lb : b < s.heap.objs.size := Heap.lt_size e
        have nb : b ≠ (s.heap.push (bareM w)).objs.size := by
          rw [Heap.size_push]
          exact Nat.ne_of_lt (Nat.lt_succ_of_lt lb)
        exact mv.heap b o (by simp only [List.mem_cons, List.mem_singleton, List.not_mem_nil, or_false, not_or]; exact ⟨Nat.ne_of_lt lb, nb⟩) (Heap.get?_push_of_some _ (Heap.get?_push_of_some _ e))
      · cases r2 with
        | error e => exact hr2
        | ok fl2 =>
          cases fl2 with
          | ret r =>
            obtain ⟨rfl, h2, tk, rfl, S2, k2⟩ := hr2
            repeat (any_goals (first | assumption | wp_step))
            exact fin _ _ S2 k2
          | _ => exact hr2.elim
    | _ => exact hr.elim
end
def rSetL (K : PySem.W.Frag) (P : Program) (w : World) : List V → Hp → VK → Prop := fun vs H Q => ∃ (l : Addr) (xs : List Str), vs = [.ref l] ∧ SqL K H l (xs.map V.str) ∧ xs.length < 64 ∧ ∀ a, H a = none → Q (.ref a) (upd H a (SetMO P w a xs))
theorem cr_setL {X : Cx} (hc : X.calm = true) : CallR X (.type "set") (rSetL X.K X.prog X.w) := by
  intro pins s σ H vs us Q I r h
  obtain ⟨l, xs, rfl, ht, few, q⟩ := h
  rw [Vals.ref1 r]
  obtain ⟨its, rv, tl, hz⟩ := I.list ht
  have ln := rv.length
  rw [List.length_map] at ln
  have hn : H s.heap.objs.size = none := I.hok.fresh (Nat.le_refl _)
  refine set_lisM (P := X.prog) (w := X.w) (its := its.toArray) (I.ok.hd hc) tl.isList (by simpa using rv.strs) (by rw [List.size_toArray, ← ln]; show _ < 4096; omega) fun h2 tk S k => ?_
  exact ⟨.ref s.heap.objs.size, _, I.laid (t' := tk) k (Nat.le_refl _) (setMO_ok S), rfl, q _ hn⟩
/-! ### list(d.values()) -/
def valsO (p d : Addr) : HO := .ext fun h => h.IsValuesView p d
theorem valsO_ok {P : Program} {w : World} {H : Hp} {h : Heap} {p d : Addr} (e : h.get? p = some { cls := .type "dict_values", data := .fields #[.ref d] }) : ObjOk P w H h p (valsO p d) :=
  ⟨⟨_, e, rfl, rfl⟩, ⟨_, e⟩, fun h1 h2 x k => let ⟨o, ho, r⟩ := x; ⟨o, k o ho, r⟩⟩
section
variable {X : Cx}
def rValsK : V → List V → Hp → VK → Prop := fun x xs H Q => ∃ (a : Addr) (kvs : List (L2.Key × V)), x = .ref a ∧ xs = [] ∧ H a = some (.dK kvs) ∧ ∀ p, H p = none → Q (.ref p) (upd H p (valsO p a))
theorem mt_valuesK : MtR X "dict.values" rValsK := by
  intro pins s σ H x xs v us Q I rx rxs h
  obtain ⟨a, kvs, rfl, rfl, ha, q⟩ := h
  cases rx
  cases rxs
  obtain ⟨z, hs0, vs, kv, hdo⟩ := I.hok a _ ha
  refine call_meetsIn PySem.F.slot_dict_values hdo.typeIs PySem.F.entry_dict_values (PySem.F.args_dict_values_1 _) (meets_dict_values (mixKind X.prog X.w) a hs0) ⟨⟨vs, hdo⟩, ?_⟩
  have hf : H s.heap.objs.size = none := I.hok.fresh (Nat.le_refl _)
  exact ⟨.ref s.heap.objs.size, upd H s.heap.objs.size (valsO s.heap.objs.size a), I.laid (t' := s.toks) (fun b u e => Heap.get?_push_of_some _ e) (Nat.le_refl _) (valsO_ok (Heap.get?_push_size _ rfl)), rfl, q _ hf⟩
def rListV : List V → Hp → VK → Prop := fun xs H Q => ∃ (p a : Addr) (kvs : List (L2.Key × V)), xs = [.ref p] ∧ H p = some (valsO p a) ∧ H a = some (.dK kvs) ∧ ∀ q, H q = none → Q (.ref q) (upd H q (.lst (kvs.map (·.2))))
theorem call_list_vals (hc : X.calm = true) : CallR X (.type "list") rListV := by
  intro pins s σ H xs us Q I r h
  obtain ⟨p, a, kvs, rfl, hp, hk, q⟩ := h
  rw [Vals.ref1 r]
  have view : s.heap.IsValuesView p a := (show ObjOk X.prog X.w H s.heap p (valsO p a) from I.hok p _ hp).1
  obtain ⟨z, lo, vs, rk, hd⟩ := (show ObjOk X.prog X.w H s.heap a (.dK kvs) from I.hok a _ hk)
  obtain ⟨ep, hat⟩ := hd.dictAt
  have hl : kvs.length = vs.length := Paired.length rk
  refine PySem.W.kdl_call (PySem.W.kdl_values (knd := mixKind X.prog X.w) (kvs := vs) (ep := ep)) (I.ok.hd hc) ⟨view, hat⟩ (by rw [← hl]; exact z) fun h' tk acc' c' hkeep hS hacc => ?_
  refine ⟨.ref s.heap.objs.size, upd H s.heap.objs.size (.lst (kvs.map (·.2))), I.laid hkeep (Nat.le_refl _) (show ObjOk X.prog X.w _ _ _ (.lst (kvs.map (·.2))) from ⟨?_, acc'.toList, c', ?_, ?_⟩), rfl, q _ (I.hok.fresh (Nat.le_refl _))⟩
  · rw [List.length_map]; exact z
  · have el : acc'.toList.length = acc'.size := by simp
    refine vals_of_at (by rw [List.length_map, el, hacc.1, hl]) fun j x w h1 h2 => ?_
    obtain ⟨k, hky⟩ := hacc.2 j w (by rw [← Array.getElem?_toList]; exact h2)
    cases hkj : kvs[j]? with
    | none =>
      rw [List.getElem?_map, hkj] at h1
      cases h1
    | some kv =>
      rw [List.getElem?_map, hkj] at h1
      cases h1
      obtain ⟨y, g1, g2, g3⟩ := LiI.paired_get rk hkj
      rw [hky] at g1
      cases g1
      exact g3
  · rw [Array.toArray_toList]
    exact hS
end
end Ka
/-! set(l) of a list of numbers; sorted of such a set. -/
namespace Ka
open PySem PySem.Spec PyProof.Rows L2
section
variable {P : Program} {w : World} {A : Around} {E : Value → Shared → Prop} {s : Shared} {a : Addr}
set_option maxHeartbeats 6400000 in
theorem set_lisI {l : Addr} {its : Array Value} {ns : List Int} {Q : Value → Shared → Prop} (cold : A.handled = none) (tl : s.heap.IsList l its) (txt : IntsAre its.toList ns) (few : ns.length + 1 < scanBound)
    (fin : ∀ (h2 : Heap) (tk c : Nat), SetR w h2 s.heap.objs.size (fun j => decide (j ∈ ns)) c → c ≤ ns.length → (∀ b o, s.heap.get? b = some o → h2.get? b = some o) → Q (.ref s.heap.objs.size) { s with heap := h2, toks := tk }) :
    wpAny (model P w) A (call (.type "set") [.ref l]) Q E s := by
  obtain ⟨c, rest, hmro⟩ := F.called_set.mro
  have hmade := F.called_set.made
  have hsub := F.called_set.sub
  refine wpAny_call (codeAny_of_tree ?_)
  show wpAny _ _ (callAny (.type "set") _) _ _ _
  refine wpAny_pure ⟨Code.quiet_builtin _ (by decide +kernel), codeAny_builtin F.entry_type_call ?_⟩
  rw [Around.under_plain (weight_type_call_type "set" [.ref l] []) rfl]
  have h1 := F.called_set.notType
  have h2 := F.called_set.canCreate
  have hct := F.typeCall_set_1 (.ref l)
  repeat (any_goals (first | assumption | wp_step))
  refine codeAny_mono (code_set_led1 (.ref l) (E := E) (Q₁ := fun ob s1 => ob = .ref s.heap.objs.size ∧ s1 = { s with heap := s.heap.push (bareM w) }) ⟨rfl, rfl⟩) fun r s1 hr => ?_
  cases r with
  | error e => exact hr
  | ok fl =>
    cases fl with
    | ret ob =>
      obtain ⟨rfl, rfl⟩ := hr
      have z0 : (s.heap.push (bareM w)).get? s.heap.objs.size = some (bareM w) := Heap.get?_push_size _ rfl
      have hT : Shared.TypeIs { s with heap := s.heap.push (bareM w) } (.ref s.heap.objs.size) "set" := ⟨_, z0, rfl⟩
      have hli := F.called_set.init.lookup
      have hbi := F.called_set.init.bind (.ref s.heap.objs.size)
      repeat (any_goals (first | assumption | wp_step))
      refine codeAny_mono (codeAny_call_builtin (R := wants (fun r s2 => r = .none ∧ ∃ h2 tk c, s2 = { s with heap := h2, toks := tk } ∧ SetR w h2 s.heap.objs.size (fun j => decide (j ∈ ns)) c ∧ c ≤ ns.length ∧ ∀ b o, s.heap.get? b = some o → h2.get? b = some o) E) F.called_set.init.plain F.entry_set_init (check_set_init_1 hT ?_)) fun r2 s2 hr2 => ?_
      · obtain ⟨⟨cls, dict, data, slots⟩, gl, cl, nl, dl⟩ := tl
        simp only at cl dl
        subst cl dl
        have gl1 : (s.heap.push (bareM w)).get? l = some { cls := .type "list", dict := dict, data := .seq its nl, slots := slots } := Heap.get?_push_of_some _ gl
        have hsls := F.sub_list_set
        have hslf := F.sub_list_frozenset
        have hne : (Value.type "list" == Value.type "dict") = false := by decide
        have tl1 : (s.heap.push (bareM w)).IsList l its := ⟨_, gl1, rfl, nl, rfl⟩
        unfold Builtin.«set.__init__» noKeywords Builtin.Frozenset.updateFrom
        generalize walkP : pyIter = Pit
        wp_walk
        subst walkP
        refine wpAny_pyIter_list tl1 ?_
        refine wpAny_bind (wpAny_runValue ?_)
        have lt0 : l < s.heap.objs.size := Heap.lt_size gl
        have cold3 : A.in1.in1.in1.handled = none := by simp [cold]
        have lt1 : l ≠ (s.heap.push (bareM w)).objs.size := by
          rw [Heap.size_push]
          exact Nat.ne_of_lt (Nat.lt_succ_of_lt lt0)
        have hD : s.heap.objs.size ∉ [(s.heap.push (bareM w)).objs.size, l] := by
          rw [Heap.size_push]
          simp only [List.mem_cons, List.mem_singleton, List.not_mem_nil, or_false, not_or]
          exact ⟨Nat.ne_of_lt (Nat.lt_succ_self _), Nat.ne_of_gt lt0⟩
        have its_n : its.size = ns.length := by
          have := PyProof.Rows.IntsAre.length txt
          rwa [Array.length_toList] at this
        refine set_update_ints ((Walks.list cold3 _ l lt1 its).toS) s.heap.objs.size hD ns its_n few (fun i v hv => ?_) (its.size - 0) 0 _ (by omega) (Nat.zero_le _) ⟨⟨_, Heap.get?_push_size _ rfl, rfl, rfl⟩, tl1.push _⟩ ⟨0, Nat.le_refl 0, setR_new_at (Heap.get?_push_of_some _ z0)⟩ ?_
        · have lt : i < ns.length := by
            rw [← its_n]
            exact (Array.getElem?_eq_some_iff.mp hv).1
          obtain ⟨t, e⟩ := PyProof.Rows.IntsAre.int_at txt i v (by rw [Array.getElem?_toList]; exact hv)
          refine ⟨ns[i], t, List.getElem?_eq_getElem lt, ?_⟩
          rw [e, List.getD_eq_getElem?_getD, List.getElem?_eq_getElem lt]
          rfl
        intro s2 c2 mv hc2 S2
        obtain ⟨h2, g2, d2, tk2, o2⟩ := s2
        obtain rfl : g2 = s.gens := mv.gens
        obtain rfl : d2 = s.drawn := mv.drawn
        obtain rfl : o2 = s.os := mv.os
        show wpAny _ _ _ _ _ _
        refine wpAny_pure ?_
        show wpAny _ _ (ret Value.none) _ _ _
        refine wpAny_pure ⟨rfl, h2, tk2, c2, rfl, S2, by rw [← its_n]; exact hc2, fun b o e => ?_⟩
        have lb : b < s.heap.objs.size := Heap.lt_size e
        have nb : b ≠ (s.heap.push (bareM w)).objs.size := by
          rw [Heap.size_push]
          exact Nat.ne_of_lt (Nat.lt_succ_of_lt lb)
        exact mv.heap b o (by simp only [List.mem_cons, List.mem_singleton, List.not_mem_nil, or_false, not_or]; exact ⟨Nat.ne_of_lt lb, nb⟩) (Heap.get?_push_of_some _ (Heap.get?_push_of_some _ e))
      · cases r2 with
        | error e => exact hr2
        | ok fl2 =>
          cases fl2 with
          | ret r =>
            obtain ⟨rfl, h2, tk, c2, rfl, S2, l2, k2⟩ := hr2
            repeat (any_goals (first | assumption | wp_step))
            exact fin _ _ _ S2 l2 k2
          | _ => exact hr2.elim
    | _ => exact hr.elim
end
def SetIO (w : World) (a : Addr) (ns : List Int) : HO := .ext fun h => ∃ c, c ≤ ns.length ∧ SetR w h a (fun j => decide (j ∈ ns)) c
theorem setIO_ok {P : Program} {w : World} {H : Hp} {h : Heap} {a : Addr} {ns : List Int} (S : ∃ c, c ≤ ns.length ∧ SetR w h a (fun j => decide (j ∈ ns)) c) : ObjOk P w H h a (SetIO w a ns) := by
  obtain ⟨c, l, R⟩ := S
  have ⟨ob, _, _, _, z, _⟩ := R
  exact ⟨⟨c, l, R⟩, ⟨ob, z⟩, fun h1 h2 ⟨c, l, R⟩ k => ⟨c, l, R.at k⟩⟩
def rSetLI (K : PySem.W.Frag) (w : World) : List V → Hp → VK → Prop := fun vs H Q => ∃ (l : Addr) (ns : List Int), vs = [.ref l] ∧ SqL K H l (ns.map V.int) ∧ ns.length < 64 ∧ ∀ a, H a = none → Q (.ref a) (upd H a (SetIO w a ns))
theorem cr_setLI {X : Cx} (hc : X.calm = true) : CallR X (.type "set") (rSetLI X.K X.w) := by
  intro pins s σ H vs us Q I r h
  obtain ⟨l, ns, rfl, ht, few, q⟩ := h
  rw [Vals.ref1 r]
  obtain ⟨its, rv, tl, hz⟩ := I.list ht
  have hn : H s.heap.objs.size = none := I.hok.fresh (Nat.le_refl _)
  refine set_lisI (P := X.prog) (w := X.w) (its := its.toArray) (ns := ns) (I.ok.hd hc) tl.isList (by simpa using ints_of_vals rv) (by show _ < 4096; omega) fun h2 tk c S l k => ?_
  exact ⟨.ref s.heap.objs.size, _, I.laid (t' := tk) k (Nat.le_refl _) (setIO_ok ⟨c, l, S⟩), rfl, q _ hn⟩
def rSortSI (w : World) : List V → Hp → VK → Prop := fun vs H Q => ∃ (a : Addr) (m : List Int), vs = [.ref a] ∧ H a = some (SetIO w a m) ∧ m.length < 64 ∧ ∀ (ys : List Int) (p : Addr), ys.Pairwise (· < ·) → (∀ x, x ∈ ys ↔ x ∈ m) → H p = none → Q (.ref p) (upd H p (.lst (ys.map V.int)))
theorem vals_of_ints : ∀ {us : List Value} {ns : List Int}, IntsAre us ns → Vals (ns.map V.int) us
  | _, _, .nil => .nil
  | _, _, .cons n t h => .cons ⟨t, rfl⟩ (vals_of_ints h)
theorem cr_sortSI {X : Cx} (hc : X.calm = true) : CallR X (.builtin "sorted") (rSortSI X.w) := by
  intro pins s σ H vs us Q I r h
  obtain ⟨a, m, rfl, ha, few, q⟩ := h
  obtain ⟨c, lc, S⟩ : ∃ c, c ≤ m.length ∧ SetR X.w s.heap a (fun j => decide (j ∈ m)) c := (I.hok a _ ha).1
  rw [Vals.ref1 r]
  refine sorted_set S (I.ok.hd hc) (by omega) fun s2 p out c2 ys k g o hp hg e1 e2 e3 e4 => ?_
  have hn : H p = none := I.hok.fresh hp
  have len : (ys.map V.int).length ≤ sizeLine := by
    rw [List.length_map, sizeLine_eq]
    omega
  have J : Inv X pins σ (upd H p (.lst (ys.map V.int))) { s with heap := s2.heap, gens := s2.gens, drawn := s2.drawn, toks := s2.toks } :=
    I.call (ch := []) (Un.laid k hp hn) (I.hok.laid k hp ⟨len, out.toList, c2, vals_of_ints e1, hg⟩) (by rw [g]; exact I.bare) (fun _ z => nomatch z)
  have e : s2 = { s with heap := s2.heap, gens := s2.gens, drawn := s2.drawn, toks := s2.toks } := by
    cases s2
    cases s
    cases o
    rfl
  rw [e]
  exact ⟨.ref p, _, J, rfl, q ys p e2 (fun x => by rw [e3 x, decide_eq_true_eq]) hn⟩
end Ka
namespace Kb
open PySem PySem.Spec PyProof.Rows L2
/-! ### a course out of a text -/
abbrev PS := Nat × Bool × Nat × Nat
structure WSt where
  at_ : Nat
  st : Nat
  first : Option (Bool × Nat × Nat)
  ss : List PS
def kindOf (it : Str) : Option (Bool × Nat) :=
  if it = "A" then some (false, 0) else if it = "B" then some (false, 1) else if it = "C" then some (false, 2) else if it = "D" then some (false, 3) else
  if it = "x" then some (true, 0) else if it = "y" then some (true, 1) else if it = "z" then some (true, 2) else none
def itemP (s : WSt) (it : Str) : WSt := match kindOf it with
  | none => s
  | some c => { at_ := s.st, st := s.st + 1, first := some (s.first.getD (c.1, c.2, s.st)), ss := s.ss ++ [(s.at_, c.1, c.2, s.st)] }
abbrev P3 := Nat × List PS × List Nat
def endP (items : List Str) (es : List Nat) (w : WSt) : List Nat := if ("!" : Str) ∈ items then es else es ++ [w.at_]
def wordP (r : P3) (items : List Str) : Option P3 :=
  let w := items.foldl itemP { at_ := 0, st := r.1, first := none, ss := r.2.1 }
  if ("*" : Str) ∈ items then match w.first with
    | none => none
    | some f => some (w.st, w.ss ++ [(w.at_, f)], endP items r.2.2 w)
  else some (w.st, w.ss, endP items r.2.2 w)
def parseP : List (List Str) → P3 → Option P3
  | [], r => some r
  | w :: ws, r => match wordP r w with
    | none => none
    | some r' => parseP ws r'
def itemsOf (text : Str) : List (List Str) := (Txt.split text "|").map fun w => Txt.split w " "
def alph : List Str := ["A", "B", "C", "D", "x", "y", "z", "*", "!", "-"]
def isDo (it : Str) : Bool := match kindOf it with
  | some (false, _) => true
  | _ => false
def isCall (it : Str) : Bool := match kindOf it with
  | some (true, _) => true
  | _ => false
theorem in_do : ∀ it ∈ alph, (!(Builtin.Str.occurrences "ABCD" it 0 ("ABCD" : Str).length 1).isEmpty) = isDo it := by decide +kernel
theorem in_call : ∀ it ∈ alph, (!(Builtin.Str.occurrences "xyz" it 0 ("xyz" : Str).length 1).isEmpty) = isCall it := by decide +kernel
theorem in_both : ∀ it ∈ alph, (!(Builtin.Str.occurrences "ABCDxyz" it 0 ("ABCDxyz" : Str).length 1).isEmpty) = (kindOf it).isSome := by decide +kernel
theorem find_do : ∀ it ∈ alph, isDo it = true → ∃ i, i < 4 ∧ kindOf it = some (false, i) ∧ Txt.find "ABCD" it = (i : Int) := by
  have : ∀ it ∈ alph, isDo it = true → (∃ i : Fin 4, kindOf it = some (false, i.1) ∧ Txt.find "ABCD" it = (i.1 : Int)) := by decide +kernel
  intro it h1 h2
  obtain ⟨i, a, b⟩ := this it h1 h2
  exact ⟨i.1, i.2, a, b⟩
theorem find_call : ∀ it ∈ alph, isCall it = true → ∃ i, i < 3 ∧ kindOf it = some (true, i) ∧ Txt.find "xyz" it = (i : Int) := by
  have : ∀ it ∈ alph, isCall it = true → (∃ i : Fin 3, kindOf it = some (true, i.1) ∧ Txt.find "xyz" it = (i.1 : Int)) := by decide +kernel
  intro it h1 h2
  obtain ⟨i, a, b⟩ := this it h1 h2
  exact ⟨i.1, i.2, a, b⟩
def nmOf (ds cl : List Str) (c : Bool) (i : Nat) : Str := if c = true then (cl[i]?).getD "" else (ds[i]?).getD ""
def toStp (ds cl : List Str) (p : PS) : Stp := ⟨p.1, p.2.1, nmOf ds cl p.2.1 p.2.2.1, p.2.2.2⟩
def fV (ds cl : List Str) (f : Bool × Nat × Nat) : List V := [.str (kindS f.1), .str (nmOf ds cl f.1 f.2.1), .int (f.2.2 : Int)]
theorem stpV_f (ds cl : List Str) (p : PS) : stpV (toStp ds cl p) = V.int (p.1 : Int) :: fV ds cl p.2 := rfl
end Kb
namespace Kb
open PySem PySem.Spec PyProof.Rows L2
/-! ### the law's reading of a text -/
def FirstAt (K : PySem.W.Frag) (Z : Hp) (ds cl : List Str) (q : Addr) : Option (Bool × Nat × Nat) → Prop
  | none => SqT K Z q []
  | some f => SqT K Z q (fV ds cl f)
def SsAt (Z : Hp) (q : Addr) (ds cl : List Str) (ss : List PS) : Prop := ∃ L : List (Addr × PS), Z q = some (.lst (L.map fun t => V.ref t.1)) ∧ L.map (·.2) = ss ∧ ∀ t ∈ L, Z t.1 = some (.tup (stpV (toStp ds cl t.2)))
theorem FirstAt.but {K : PySem.W.Frag} {Z Y : Hp} {ds cl : List Str} {q x : Addr} {f : Option (Bool × Nat × Nat)} {l : List V} (hx : Z x = some (.lst l)) (k : But x Z Y) (h : FirstAt K Z ds cl q f) : FirstAt K Y ds cl q f := by
  have one : ∀ {xs : List V}, SqT K Z q xs → SqT K Y q xs := fun {xs} h => by
    rcases h with (h | ⟨o, h⟩) | h
    · exact .inl (.inl (k _ _ (fun e => by rw [e, hx] at h; cases h) h))
    · exact .inl (.inr ⟨o, k _ _ (fun e => by rw [e, hx] at h; cases h) h⟩)
    · exact .inr h
  cases f with
  | none => exact one h
  | some f => exact one h
theorem FirstAt.mono {K : PySem.W.Frag} {Z Y : Hp} {ds cl : List Str} {q : Addr} {f : Option (Bool × Nat × Nat)} (s : Same Z Y) (h : FirstAt K Z ds cl q f) : FirstAt K Y ds cl q f := by
  cases f with
  | none => exact Same.sqT s h
  | some f => exact Same.sqT s h
theorem SsAt.mono {Z Y : Hp} {q : Addr} {ds cl : List Str} {ss : List PS} (s : Same Z Y) (h : SsAt Z q ds cl ss) : SsAt Y q ds cl ss := by
  obtain ⟨L, h1, h2, h3⟩ := h
  exact ⟨L, s _ _ h1, h2, fun t ht => s _ _ (h3 t ht)⟩
/-- another list changes -/
theorem SsAt.but {Z Y : Hp} {q x : Addr} {ds cl : List Str} {ss : List PS} {l : List V} (hx : Z x = some (.lst l)) (ne : q ≠ x) (k : But x Z Y) (h : SsAt Z q ds cl ss) : SsAt Y q ds cl ss := by
  obtain ⟨L, h1, h2, h3⟩ := h
  exact ⟨L, k _ _ ne h1, h2, fun t ht => k _ _ (fun e => by have := h3 t ht; rw [e, hx] at this; cases this) (h3 t ht)⟩
/-- a step more -/
theorem SsAt.put {Z : Hp} {q t : Addr} {ds cl : List Str} {ss : List PS} {p : PS} (h : SsAt Z q ds cl ss) (ht : Z t = some (.tup (stpV (toStp ds cl p)))) (hl : ss.length < 1000000) :
    ∃ xs, Z q = some (.lst xs) ∧ xs.length < sizeLine ∧ SsAt (upd Z q (.lst (xs ++ [.ref t]))) q ds cl (ss ++ [p]) := by
  obtain ⟨L, h1, h2, h3⟩ := h
  have ll : L.length = ss.length := by rw [← h2, List.length_map]
  have kp : ∀ {c : Addr} {ys : List V}, Z c = some (.tup ys) → upd Z q (.lst (L.map (fun t => V.ref t.1) ++ [.ref t])) c = some (.tup ys) := fun e => by
    rw [upd_ne (fun z => by rw [z, h1] at e; cases e)]
    exact e
  refine ⟨_, h1, by rw [List.length_map]; exact small (by omega), L ++ [(t, p)], ?_, ?_, fun u hu => ?_⟩
  · rw [upd_same, List.map_append]
    rfl
  · rw [List.map_append, h2]
    rfl
  · rcases List.mem_append.mp hu with z | z
    · exact kp (h3 u z)
    · rw [List.mem_singleton.mp z]
      exact kp ht
theorem cr_setLI2 {X : Cx} {w : World} (hw : X.w = w) (hc : X.calm = true) : CallR X (.type "set") (Ka.rSetLI X.K w) := by
  subst hw
  exact Ka.cr_setLI hc
theorem cr_sortSI2 {X : Cx} {w : World} (hw : X.w = w) (hc : X.calm = true) : CallR X (.builtin "sorted") (Ka.rSortSI w) := by
  subst hw
  exact Ka.cr_sortSI hc
def fD (ds cl : List Str) (f : Bool × Nat × Nat) : PyData := .tuple [.str (kindS f.1), .str (nmOf ds cl f.1 f.2.1), .int (f.2.2 : Int)]
theorem eqF (ds cl : List Str) (f : Bool × Nat × Nat) : PyData.eqv (fD ds cl f) (.tuple []) = false := by
  simp [fD, PyData.eqv, PyData.eqvAll]
theorem kind_ok (c : Bool) : PyData.strOk (kindS c) = true := by
  cases c <;> decide +kernel
theorem shF {ds cl : List Str} {f : Bool × Nat × Nat} (h : isName (nmOf ds cl f.1 f.2.1) = true) : SeqAt.shaped (fD ds cl f) = true := by
  refine shaped_of ?_ ?_
  · unfold fD
    rw [PyData.canLay0, PyData.canLayAll0, PyData.canLayAll0, PyData.canLayAll0, PyData.canLayAll0, PyData.canLay0, PyData.canLay0, PyData.canLay0, name_ok h, kind_ok]
    rfl
  · simp [fD, PyData.depth, PyData.depthAll]
section
variable {P : Program} {w : World} {K : PySem.W.Frag} {mg : Str → Option Value} {base : Heap}
structure TxOk (text : Str) (r : P3) : Prop where
  al : ∀ w ∈ itemsOf text, ∀ it ∈ w, it ∈ alph
  pr : parseP (itemsOf text) (1, [], []) = some r
  n1 : (itemsOf text).length ≤ 50
  n2 : ∀ w ∈ itemsOf text, w.length ≤ 50
  l1 : text.length ≤ 1000
  l2 : ∀ w ∈ Txt.split text "|", w.length ≤ 1000
def spLawCourse (K : PySem.W.Frag) : Sp := fun vs H Q _ => ∃ (nm text : Str) (dd ca : Addr) (ds cl : List Str) (r : P3), vs = [.str nm, .str text, .ref dd, .ref ca] ∧ H dd = some (.lst (ds.map V.str)) ∧ H ca = some (.lst (cl.map V.str)) ∧ ds.length = 4 ∧ cl.length = 3 ∧ (∀ z ∈ ds, isName z = true) ∧ (∀ z ∈ cl, isName z = true) ∧ TxOk text r ∧
  ∀ H' (c : CA), Same H H' → CrsAt K H' c → c.nm = nm → c.n = r.1 → c.ss.map (·.2) = r.2.1.map (toStp ds cl) → c.es.Pairwise (· < ·) → (∀ e, e ∈ c.es ↔ e ∈ r.2.2) → Q (.ref c.a) H'
abbrev nLc : List Str := ["name", "text", "deeds", "calls", "stages", "ends", "steps", "word", "items", "at", "first", "item"]
theorem scLc : FnScope nLc ["name", "text", "deeds", "calls"] (defScope sLawCourse) := ⟨rfl, rfl, rfl, by decide +kernel, rfl, by decide +kernel, by decide +kernel⟩
theorem ok_lawcourse {f : Addr} {fd : FuncData} (F : Fun K "_law_course" "_law_course" sLawCourse f fd) (N : Nones mg) (nset : mg "set" = none) : FnOk P w K mg base CX0 1 f fd ["name", "text", "deeds", "calls"] (spLawCourse K) := by
  refine F.ok scLc (fun vs H Q E h => ?_) (fun cdv A outer s0 H vs Q E hr h => ?_)
  · obtain ⟨nm, text, dd, ca, ds, cl, r, rfl, _⟩ := h
    rfl
  · obtain ⟨nm, text, dd, ca, ds, cl, r, rfl, hdd, hca, l4, l3, nds, ncl, tx, q⟩ := h
    refine ⟨_, pss_cons (ps_par3 (i := 4) (j := 5) (l := 6) rfl scLc.nd rfl rfl rfl (by decide) (by decide) (by decide) rfl rfl rfl (pa_cons pe_int (pa_cons (pe_lst pa_nil) (pa_cons (pe_lst pa_nil) pa_nil))) (by rfl))
      (pss_cons (ps_for PassesOwn.never rfl (pi_list (pe_bm PySem.F.plainAttrs_str PySem.F.slot_str_split PySem.F.type_str_split mt_split (pv 1) (pa_cons pe_str pa_nil))) (pg_name (i := 7) scLc.nd rfl (Or.inl rfl))
        (pss_cons (ps_par3 (i := 8) (j := 9) (l := 10) rfl scLc.nd rfl rfl rfl (by decide) (by decide) (by decide) rfl rfl rfl (pa_cons (pe_bm PySem.F.plainAttrs_str PySem.F.slot_str_split PySem.F.type_str_split mt_split (pv 7) (pa_cons pe_str pa_nil)) (pa_cons pe_int (pa_cons (pe_tup pa_nil) pa_nil))) (by rfl))
        (pss_cons (ps_for PassesOwn.never rfl (pi_list (pv 8)) (pg_name (i := 11) scLc.nd rfl (Or.inl rfl))
          (pss_cons (ps_if (pt_cmpR op_in_str (pv 11) pe_str (by rfl)) (pss_one (ps_expr (pe_bm PySem.F.plainAttrs_list PySem.F.slot_list_append PySem.F.type_list_append mt_append (pv 6) (pa_cons (pe_tup (pa_cons (pv 9) (pa_cons pe_str (pa_cons (pe_ix ix_list (pv 2) (pe_bm PySem.F.plainAttrs_str PySem.F.slot_str_find PySem.F.type_str_find mt_find pe_str (pa_cons (pv 11) pa_nil)) (fun _ _ => rfl)) (pa_cons (pv 4) pa_nil))))) pa_nil)))) (pss_one (ps_if (pt_cmpR op_in_str (pv 11) pe_str (by rfl)) (pss_one (ps_expr (pe_bm PySem.F.plainAttrs_list PySem.F.slot_list_append PySem.F.type_list_append mt_append (pv 6) (pa_cons (pe_tup (pa_cons (pv 9) (pa_cons pe_str (pa_cons (pe_ix ix_list (pv 3) (pe_bm PySem.F.plainAttrs_str PySem.F.slot_str_find PySem.F.type_str_find mt_find pe_str (pa_cons (pv 11) pa_nil)) (fun _ _ => rfl)) (pa_cons (pv 4) pa_nil))))) pa_nil)))) pss_nil)))
          (pss_one (ps_if (pt_cmpR op_in_str (pv 11) pe_str (by rfl)) (pss_cons (ps_set (i := 10) scLc.nd rfl (Or.inl rfl) (pe_ifExp (pt_cmpR (op_eqD hr.units) (pv 10) (pe_tup pa_nil) (nomark _)) (pe_slice sl_tupA (pe_ix ix_list (pv 6) (pe_un un_neg pe_int) (fun _ _ => rfl)) (po_some pe_int) po_none) (pv 10)))
            (pss_one (ps_par (i := 9) (j := 4) rfl scLc.nd rfl rfl (by decide) rfl rfl (pa_cons (pv 4) (pa_cons (pe_op op_add (pv 4) pe_int) pa_nil)) (by rfl)))) pss_nil))))
        (pss_cons (ps_if (pt_cmpR op_in_seq pe_str (pv 8) (by rfl)) (pss_one (ps_expr (pe_bm PySem.F.plainAttrs_list PySem.F.slot_list_append PySem.F.type_list_append mt_append (pv 6) (pa_cons (pe_op op_catA (pe_tup (pa_cons (pv 9) pa_nil)) (pv 10)) pa_nil)))) pss_nil)
        (pss_one (ps_if (pt_cmpR op_notIn_seq pe_str (pv 8) (by rfl)) (pss_one (ps_expr (pe_bm PySem.F.plainAttrs_list PySem.F.slot_list_append PySem.F.type_list_append mt_append (pv 5) (pa_cons (pv 9) pa_nil)))) pss_nil))))))
      (pss_one (ps_ret (pe_tup (pa_cons (pv 0) (pa_cons (pv 4) (pa_cons (pe_callTy call_tuple_of (by rfl) N.tuple (by decide +kernel) (pa_cons (pe_callB (cr_sortSI2 (w := w) rfl rfl) (by rfl) N.sorted (by decide +kernel) (pa_cons (pe_callTy (cr_setLI2 (w := w) rfl rfl) (by rfl) nset (by decide +kernel) (pa_cons (pv 5) pa_nil)) pa_nil)) pa_nil)) (pa_cons (pe_callTy call_tuple_of (by rfl) N.tuple (by decide +kernel) (pa_cons (pv 6) pa_nil)) pa_nil)))))))), ?_⟩
    refine ⟨smallE (by show 0 ≤ 1000000; decide), fun qe n1 => ⟨smallE (by show 0 ≤ 1000000; decide), fun qs n2 => ⟨_, _, _, rfl, ?_⟩⟩⟩
    have s1 := same_new (o := .lst []) n1
    have e1 : upd H qe (.lst []) qe = some (.lst []) := upd_same
    generalize upd H qe (.lst []) = H1 at s1 e1 n2
    have s2 := same_new (o := .lst []) n2
    have e2 : upd H1 qs (.lst []) qs = some (.lst []) := upd_same
    have neE : qe ≠ qs := fun z => by
      rw [← z, e1] at n2
      cases n2
    have e1 := s2 _ _ e1
    generalize upd H1 qs (.lst []) = H2 at s2 e1 e2
    have nqs := s1.free n2
    have s12 := s1.trans s2
    refine ⟨_, rfl, rfl, text, "|", rfl, rfl, rfl, Nat.le_trans (Nat.add_le_add_right tx.l1 2) (smallE (by decide)), fun qp n3 => ?_⟩
    have s3 := same_new (o := .lst ((Txt.split text "|").map V.str)) n3
    have e3 : upd H2 qp (.lst ((Txt.split text "|").map V.str)) qp = some (.lst ((Txt.split text "|").map V.str)) := upd_same
    have neP : qp ≠ qs := fun z => by
      rw [z, e2] at n3
      cases n3
    have nePE : qp ≠ qe := fun z => by
      rw [z, e1] at n3
      cases n3
    have e1 := s3 _ _ e1
    have e2 := s3 _ _ e2
    generalize upd H2 qp (.lst ((Txt.split text "|").map V.str)) = H3 at s3 e1 e2 e3
    have s123 := s12.trans s3
    have hlw : (Txt.split text "|").length = (itemsOf text).length := by
      unfold itemsOf
      rw [List.length_map]
    have tn1 := tx.n1
    refine ⟨qp, rfl, ⟨_, sqL_new e3⟩, ?_⟩
    refine for_it (walk_list (K := K) (a := qp) (xs := (Txt.split text "|").map V.str)) (fun i σ Z => ∃ (st : Nat) (ss : List PS) (es : List Nat) (x7 x8 x9 x10 x11 : Option V), σ = [some (.str nm), some (.str text), some (.ref dd), some (.ref ca), some (.int (st : Int)), some (.ref qe), some (.ref qs), x7, x8, x9, x10, x11] ∧ Same H Z ∧ Z qp = some (.lst ((Txt.split text "|").map V.str)) ∧ Z qe = some (.lst (natV es)) ∧ SsAt Z qs ds cl ss ∧ parseP ((itemsOf text).drop i) (st, ss, es) = some r ∧ ss.length ≤ 60 * i ∧ es.length ≤ i) ⟨1, [], [], none, none, none, none, none, rfl, s123, e3, e1, ⟨[], e2, rfl, fun t ht => (nomatch ht)⟩, tx.pr, Nat.le_refl _, Nat.le_refl _⟩ (fun i σ Z _ h => ?_) (fun i x σ Z Z' hi h y => ?_) (fun σ Z h => ?_)
    · obtain ⟨_, _, _, _, _, _, _, _, _, _, e, _⟩ := h
      exact sqL_new e
    · obtain ⟨rfl, hy⟩ := y
      obtain ⟨W, hW, rfl⟩ := get_map hy
      obtain ⟨st, ss, es, x7, x8, x9, x10, x11, rfl, sZ, eP, eE, hSs, hpr, lss, les⟩ := h
      rw [List.length_map] at hi
      have hWm := List.mem_of_getElem? hW
      have hIt : (itemsOf text)[i]? = some (Txt.split W " ") := by
        unfold itemsOf
        rw [List.getElem?_map, hW]
        rfl
      have hIm := List.mem_of_getElem? hIt
      have hal0 := tx.al _ hIm
      have ln50 := tx.n2 _ hIm
      rw [drop_of_get hIt] at hpr
      unfold parseP at hpr
      refine ⟨_, rfl, rfl, W, " ", rfl, rfl, rfl, Nat.le_trans (Nat.add_le_add_right (tx.l2 W hWm) 2) (smallE (by decide)), fun q8 n8 => ?_⟩
      have s8 := same_new (o := .lst ((Txt.split W " ").map V.str)) n8
      have e8 : upd Z' q8 (.lst ((Txt.split W " ").map V.str)) q8 = some (.lst ((Txt.split W " ").map V.str)) := upd_same
      have ne8 : q8 ≠ qs := fun z => by
        obtain ⟨L0, hL0, _⟩ := id hSs
        rw [← z, n8] at hL0
        cases hL0
      have ne8E : q8 ≠ qe := fun z => by
        rw [z, eE] at n8
        cases n8
      generalize upd Z' q8 (.lst ((Txt.split W " ").map V.str)) = G8 at s8 e8
      refine ⟨Nat.zero_le _, fun f00 nf => ⟨_, _, _, rfl, ?_⟩⟩
      have s9 := same_new (o := .tup []) nf
      have ef : SqT K (upd G8 f00 (.tup [])) f00 [] := sqT_new upd_same
      have e8 := s9 _ _ e8
      generalize upd G8 f00 (.tup []) = G9 at s9 ef e8
      have s89 := s8.trans s9
      have sZ9 := sZ.trans s89
      have eP := s89 _ _ eP
      have eE := s89 _ _ eE
      have hSs := hSs.mono s89
      clear s8 s9 s89 n8 nf sZ
      refine ⟨_, rfl, q8, rfl, ⟨_, sqL_new e8⟩, ?_⟩
      refine for_it (walk_list (K := K) (a := q8) (xs := (Txt.split W " ").map V.str)) (fun j σ Z => ∃ (u : WSt) (f0 : Addr) (x11 : Option V), σ = [some (.str nm), some (.str text), some (.ref dd), some (.ref ca), some (.int (u.st : Int)), some (.ref qe), some (.ref qs), some (.str W), some (.ref q8), some (.int (u.at_ : Int)), some (.ref f0), x11] ∧ Same H Z ∧ Z qp = some (.lst ((Txt.split text "|").map V.str)) ∧ Z q8 = some (.lst ((Txt.split W " ").map V.str)) ∧ Z qe = some (.lst (natV es)) ∧ SsAt Z qs ds cl u.ss ∧ FirstAt K Z ds cl f0 u.first ∧ (∀ ff, u.first = some ff → isName (nmOf ds cl ff.1 ff.2.1) = true) ∧ u = ((Txt.split W " ").take j).foldl itemP { at_ := 0, st := st, first := none, ss := ss } ∧ u.ss.length ≤ 60 * i + j) ⟨{ at_ := 0, st := st, first := none, ss := ss }, f00, x11, rfl, sZ9, eP, e8, eE, hSs, ef, fun ff e => (nomatch e), rfl, lss⟩ (fun j σ Z _ h => ?_) (fun j x σ Z Z' hj h y => ?_) (fun σ Z h => ?_)
      · obtain ⟨_, _, _, _, _, _, e, _⟩ := h
        exact sqL_new e
      · obtain ⟨rfl, hy⟩ := y
        obtain ⟨it, hj2, rfl⟩ := get_map hy
        obtain ⟨u, f0, x11, rfl, sZ, eP, e8, eE, hSs, hF, hfn, hu, lu⟩ := h
        rw [List.length_map] at hj
        obtain ⟨Lq, hSsq, _⟩ := id hSs
        have hal := hal0 it (List.mem_of_getElem? hj2)
        refine ⟨_, rfl, it, "ABCD", rfl, rfl, _, rfl, ?_⟩
        cases hk : kindOf it with
        | none =>
          rw [in_do it hal, show isDo it = false by unfold isDo; rw [hk]]
          refine iteNo rfl ?_
          refine ⟨_, rfl, it, "xyz", rfl, rfl, _, rfl, ?_⟩
          rw [in_call it hal, show isCall it = false by unfold isCall; rw [hk]]
          refine iteNo rfl ?_
          refine ⟨_, rfl, it, "ABCDxyz", rfl, rfl, _, rfl, ?_⟩
          rw [in_both it hal, hk]
          refine iteNo rfl ?_
          refine ⟨u, f0, _, rfl, sZ, eP, e8, eE, hSs, hF, hfn, ?_, by omega⟩
          rw [take_put hj2, List.foldl_append, ← hu]
          show u = itemP u it
          unfold itemP
          rw [hk]
        | some kk =>
          obtain ⟨c, ix⟩ := kk
          cases c
          · -- false
            rw [in_do it hal, show isDo it = true by unfold isDo; rw [hk]]
            refine iteYes rfl ?_
            obtain ⟨ix', hix, hk', hfi⟩ := find_do it hal (by unfold isDo; rw [hk])
            rw [hk] at hk'
            cases hk'
            have hat : atI (ds.map V.str) (Txt.find "ABCD" it) = some (.str (nmOf ds cl false ix)) := by
              rw [hfi]
              have : (ds.map V.str)[ix]? = some (.str (nmOf ds cl false ix)) := by
                have hlt : ix < ds.length := by omega
                unfold nmOf
                rw [List.getElem?_map, List.getElem?_eq_getElem hlt]
                simp
              exact atI_nat this
            have nmok : isName (nmOf ds cl false ix) = true := by
              have hlt : ix < ds.length := by omega
              unfold nmOf
              rw [List.getElem?_eq_getElem hlt]
              simp only [Bool.false_eq_true, if_false, if_true, Option.getD_some]
              exact nds _ (List.getElem_mem hlt)
            refine ⟨_, rfl, Or.inl ⟨rfl, _, sqL_new hSsq⟩, _, rfl, _, rfl, rfl, _, rfl, "ABCD", it, rfl, rfl, dd, _, _, .str (nmOf ds cl false ix), rfl, rfl, sqL_new (sZ _ _ hdd), hat, _, rfl, smallE (by show 4 ≤ 1000000; decide), fun t nt => ?_⟩
            have sT := same_new (o := .tup [V.int (u.at_ : Int), V.str "do", V.str (nmOf ds cl false ix), V.int (u.st : Int)]) nt
            have eT : upd Z' t (.tup [V.int (u.at_ : Int), V.str "do", V.str (nmOf ds cl false ix), V.int (u.st : Int)]) t = some (.tup (stpV (toStp ds cl (u.at_, false, ix, u.st)))) := upd_same
            obtain ⟨xs, hq, lq, hS2⟩ := (hSs.mono sT).put eT (by omega)
            refine ⟨qs, xs, .ref t, rfl, rfl, hq, lq, ?_⟩
            have k2 : But qs (upd Z' t (.tup [V.int (u.at_ : Int), V.str "do", V.str (nmOf ds cl false ix), V.int (u.st : Int)])) _ := But.upd (o := .lst (xs ++ [.ref t]))
            have hq2 : upd (upd Z' t (.tup [V.int (u.at_ : Int), V.str "do", V.str (nmOf ds cl false ix), V.int (u.st : Int)])) qs (.lst (xs ++ [.ref t])) qs = some (.lst (xs ++ [.ref t])) := upd_same
            have eT2 := k2 _ _ (fun z => by have h3 := hq; rw [← z, eT] at h3; cases h3) eT
            have hF2 := (hF.mono sT).but hq k2
            have eP2 := k2 _ _ neP (sT _ _ eP)
            have e82 := k2 _ _ ne8 (sT _ _ e8)
            have eE2 := k2 _ _ neE (sT _ _ eE)
            have sZ2 : Same H (upd (upd Z' t (.tup [V.int (u.at_ : Int), V.str "do", V.str (nmOf ds cl false ix), V.int (u.st : Int)])) qs (.lst (xs ++ [.ref t]))) := fun b o eb => k2 _ _ (ne_of_none eb nqs) (sT _ _ (sZ _ _ eb))
            generalize upd (upd Z' t (.tup [V.int (u.at_ : Int), V.str "do", V.str (nmOf ds cl false ix), V.int (u.st : Int)])) qs (.lst (xs ++ [.ref t])) = G at hS2 hq2 eT2 hF2 eP2 e82 eE2 sZ2
            clear k2 sT eT hq lq nt
            refine ⟨_, rfl, it, "ABCDxyz", rfl, rfl, _, rfl, ?_⟩
            rw [in_both it hal, hk]
            refine iteYes rfl ?_
            cases hf : u.first with
            | none =>
              rw [hf] at hF2
              have hF2 : SqT K G f0 [] := hF2
              refine ⟨_, rfl, Nat.zero_le _, fun e ne => ?_⟩
              have sE := same_new (o := .tup []) ne
              refine ⟨.tuple [], .tuple [], .tup (Same.sqT sE hF2) .nil, .tup (sqT_new upd_same) .nil, by decide +kernel, by decide +kernel, _, rfl, iteYes (by decide +kernel) ?_⟩
              have hqE := sE _ _ hq2
              have eTE := sE _ _ eT2
              have hatL : atI (xs ++ [V.ref t]) (-1) = some (.ref t) := atI_last xs (.ref t)
              refine ⟨_, rfl, _, rfl, qs, _, _, .ref t, rfl, rfl, sqL_new hqE, hatL, 1, rfl, ?_⟩
              dsimp only [tNoPart]
              refine slR_drop (j := 1) (sqT_new eTE) fun G2 p2 s2 h2 => ?_
              refine ⟨_, rfl, _, rfl, _, _, rfl, rfl, _, _, rfl, ?_⟩
              refine ⟨itemP u it, p2, some (.str it), ?_, ((sZ2.trans sE).trans s2), s2 _ _ (sE _ _ eP2), s2 _ _ (sE _ _ e82), s2 _ _ (sE _ _ eE2), ?_, ?_, fun ff e => ?_, ?_, ?_⟩
              · unfold itemP
                rw [hk]
                rfl
              · unfold itemP
                rw [hk]
                exact (hS2.mono sE).mono s2
              · unfold itemP
                rw [hk, hf]
                exact h2
              · unfold itemP at e
                rw [hk, hf] at e
                cases e
                exact nmok
              · rw [take_put hj2, List.foldl_append, ← hu]
                rfl
              · unfold itemP
                rw [hk]
                simp only [List.length_append, List.length_cons, List.length_nil]
                omega
            | some ff =>
              rw [hf] at hF2
              have hF2 : SqT K G f0 (fV ds cl ff) := hF2
              refine ⟨_, rfl, Nat.zero_le _, fun e ne => ?_⟩
              have sE := same_new (o := .tup []) ne
              refine ⟨fD ds cl ff, .tuple [], .tup (Same.sqT sE hF2) (.cons (.str _) (.cons (.str _) (.cons (.int _) .nil))), .tup (sqT_new upd_same) .nil, shF (hfn ff hf), by decide +kernel, _, rfl, iteNo (eqF ds cl ff) ?_⟩
              refine ⟨_, rfl, _, rfl, _, rfl, _, _, rfl, rfl, _, _, rfl, ?_⟩
              refine ⟨itemP u it, f0, some (.str it), ?_, sZ2.trans sE, sE _ _ eP2, sE _ _ e82, sE _ _ eE2, ?_, ?_, fun fg e => ?_, ?_, ?_⟩
              · unfold itemP
                rw [hk]
                rfl
              · unfold itemP
                rw [hk]
                exact hS2.mono sE
              · unfold itemP
                rw [hk, hf]
                exact Same.sqT sE hF2
              · unfold itemP at e
                rw [hk, hf] at e
                cases e
                exact hfn _ hf
              · rw [take_put hj2, List.foldl_append, ← hu]
                rfl
              · unfold itemP
                rw [hk]
                simp only [List.length_append, List.length_cons, List.length_nil]
                omega
          · -- true
            rw [in_do it hal, show isDo it = false by unfold isDo; rw [hk]]
            refine iteNo rfl ?_
            refine ⟨_, rfl, it, "xyz", rfl, rfl, _, rfl, ?_⟩
            rw [in_call it hal, show isCall it = true by unfold isCall; rw [hk]]
            refine iteYes rfl ?_
            obtain ⟨ix', hix, hk', hfi⟩ := find_call it hal (by unfold isCall; rw [hk])
            rw [hk] at hk'
            cases hk'
            have hat : atI (cl.map V.str) (Txt.find "xyz" it) = some (.str (nmOf ds cl true ix)) := by
              rw [hfi]
              have : (cl.map V.str)[ix]? = some (.str (nmOf ds cl true ix)) := by
                have hlt : ix < cl.length := by omega
                unfold nmOf
                rw [List.getElem?_map, List.getElem?_eq_getElem hlt]
                simp
              exact atI_nat this
            have nmok : isName (nmOf ds cl true ix) = true := by
              have hlt : ix < cl.length := by omega
              unfold nmOf
              rw [List.getElem?_eq_getElem hlt]
              simp only [Bool.false_eq_true, if_false, if_true, Option.getD_some]
              exact ncl _ (List.getElem_mem hlt)
            refine ⟨_, rfl, Or.inl ⟨rfl, _, sqL_new hSsq⟩, _, rfl, _, rfl, rfl, _, rfl, "xyz", it, rfl, rfl, ca, _, _, .str (nmOf ds cl true ix), rfl, rfl, sqL_new (sZ _ _ hca), hat, _, rfl, smallE (by show 4 ≤ 1000000; decide), fun t nt => ?_⟩
            have sT := same_new (o := .tup [V.int (u.at_ : Int), V.str "call", V.str (nmOf ds cl true ix), V.int (u.st : Int)]) nt
            have eT : upd Z' t (.tup [V.int (u.at_ : Int), V.str "call", V.str (nmOf ds cl true ix), V.int (u.st : Int)]) t = some (.tup (stpV (toStp ds cl (u.at_, true, ix, u.st)))) := upd_same
            obtain ⟨xs, hq, lq, hS2⟩ := (hSs.mono sT).put eT (by omega)
            refine ⟨qs, xs, .ref t, rfl, rfl, hq, lq, ?_⟩
            have k2 : But qs (upd Z' t (.tup [V.int (u.at_ : Int), V.str "call", V.str (nmOf ds cl true ix), V.int (u.st : Int)])) _ := But.upd (o := .lst (xs ++ [.ref t]))
            have hq2 : upd (upd Z' t (.tup [V.int (u.at_ : Int), V.str "call", V.str (nmOf ds cl true ix), V.int (u.st : Int)])) qs (.lst (xs ++ [.ref t])) qs = some (.lst (xs ++ [.ref t])) := upd_same
            have eT2 := k2 _ _ (fun z => by have h3 := hq; rw [← z, eT] at h3; cases h3) eT
            have hF2 := (hF.mono sT).but hq k2
            have eP2 := k2 _ _ neP (sT _ _ eP)
            have e82 := k2 _ _ ne8 (sT _ _ e8)
            have eE2 := k2 _ _ neE (sT _ _ eE)
            have sZ2 : Same H (upd (upd Z' t (.tup [V.int (u.at_ : Int), V.str "call", V.str (nmOf ds cl true ix), V.int (u.st : Int)])) qs (.lst (xs ++ [.ref t]))) := fun b o eb => k2 _ _ (ne_of_none eb nqs) (sT _ _ (sZ _ _ eb))
            generalize upd (upd Z' t (.tup [V.int (u.at_ : Int), V.str "call", V.str (nmOf ds cl true ix), V.int (u.st : Int)])) qs (.lst (xs ++ [.ref t])) = G at hS2 hq2 eT2 hF2 eP2 e82 eE2 sZ2
            clear k2 sT eT hq lq nt
            refine ⟨_, rfl, it, "ABCDxyz", rfl, rfl, _, rfl, ?_⟩
            rw [in_both it hal, hk]
            refine iteYes rfl ?_
            cases hf : u.first with
            | none =>
              rw [hf] at hF2
              have hF2 : SqT K G f0 [] := hF2
              refine ⟨_, rfl, Nat.zero_le _, fun e ne => ?_⟩
              have sE := same_new (o := .tup []) ne
              refine ⟨.tuple [], .tuple [], .tup (Same.sqT sE hF2) .nil, .tup (sqT_new upd_same) .nil, by decide +kernel, by decide +kernel, _, rfl, iteYes (by decide +kernel) ?_⟩
              have hqE := sE _ _ hq2
              have eTE := sE _ _ eT2
              have hatL : atI (xs ++ [V.ref t]) (-1) = some (.ref t) := atI_last xs (.ref t)
              refine ⟨_, rfl, _, rfl, qs, _, _, .ref t, rfl, rfl, sqL_new hqE, hatL, 1, rfl, ?_⟩
              dsimp only [tNoPart]
              refine slR_drop (j := 1) (sqT_new eTE) fun G2 p2 s2 h2 => ?_
              refine ⟨_, rfl, _, rfl, _, _, rfl, rfl, _, _, rfl, ?_⟩
              refine ⟨itemP u it, p2, some (.str it), ?_, ((sZ2.trans sE).trans s2), s2 _ _ (sE _ _ eP2), s2 _ _ (sE _ _ e82), s2 _ _ (sE _ _ eE2), ?_, ?_, fun ff e => ?_, ?_, ?_⟩
              · unfold itemP
                rw [hk]
                rfl
              · unfold itemP
                rw [hk]
                exact (hS2.mono sE).mono s2
              · unfold itemP
                rw [hk, hf]
                exact h2
              · unfold itemP at e
                rw [hk, hf] at e
                cases e
                exact nmok
              · rw [take_put hj2, List.foldl_append, ← hu]
                rfl
              · unfold itemP
                rw [hk]
                simp only [List.length_append, List.length_cons, List.length_nil]
                omega
            | some ff =>
              rw [hf] at hF2
              have hF2 : SqT K G f0 (fV ds cl ff) := hF2
              refine ⟨_, rfl, Nat.zero_le _, fun e ne => ?_⟩
              have sE := same_new (o := .tup []) ne
              refine ⟨fD ds cl ff, .tuple [], .tup (Same.sqT sE hF2) (.cons (.str _) (.cons (.str _) (.cons (.int _) .nil))), .tup (sqT_new upd_same) .nil, shF (hfn ff hf), by decide +kernel, _, rfl, iteNo (eqF ds cl ff) ?_⟩
              refine ⟨_, rfl, _, rfl, _, rfl, _, _, rfl, rfl, _, _, rfl, ?_⟩
              refine ⟨itemP u it, f0, some (.str it), ?_, sZ2.trans sE, sE _ _ eP2, sE _ _ e82, sE _ _ eE2, ?_, ?_, fun fg e => ?_, ?_, ?_⟩
              · unfold itemP
                rw [hk]
                rfl
              · unfold itemP
                rw [hk]
                exact hS2.mono sE
              · unfold itemP
                rw [hk, hf]
                exact Same.sqT sE hF2
              · unfold itemP at e
                rw [hk, hf] at e
                cases e
                exact hfn _ hf
              · rw [take_put hj2, List.foldl_append, ← hu]
                rfl
              · unfold itemP
                rw [hk]
                simp only [List.length_append, List.length_cons, List.length_nil]
                omega
      · obtain ⟨u, f0, x11, rfl, sZ, eP, e8, eE, hSs, hF, hfn, hu, lu⟩ := h
        rw [List.length_map, List.take_length] at hu
        have hw : wordP (st, ss, es) (Txt.split W " ") = if ("*" : Str) ∈ Txt.split W " " then (match u.first with
            | none => none
            | some f => some (u.st, u.ss ++ [(u.at_, f)], endP (Txt.split W " ") es u)) else some (u.st, u.ss, endP (Txt.split W " ") es u) := by
          unfold wordP
          dsimp only
          rewrite [← hu]
          first
          | rfl
          | (by_cases hq : ("*" : Str) ∈ Txt.split W " "
             · rw [if_pos hq, if_pos hq]
               cases u.first <;> rfl
             · rw [if_neg hq, if_neg hq])
        rw [hw] at hpr
        have lj : (Txt.split W " ").length ≤ 50 := ln50
        rw [List.length_map] at lu
        refine ⟨_, rfl, q8, _, rfl, .inl (sqL_new e8), rfl, flat_strs _, _, rfl, ?_⟩
        rw [if_neg (by decide), inV_str]
        by_cases hs : ("*" : Str) ∈ Txt.split W " "
        · rw [if_pos hs] at hpr
          rw [decide_eq_true hs]
          refine iteYes rfl ?_
          cases hf : u.first with
          | none =>
            rw [hf] at hpr
            cases hpr
          | some ff =>
            rw [hf] at hpr hF
            have hF : SqT K Z f0 (fV ds cl ff) := hF
            dsimp only at hpr
            obtain ⟨Lq, hSsq, _⟩ := id hSs
            refine ⟨_, rfl, Or.inl ⟨rfl, _, sqL_new hSsq⟩, _, rfl, smallE (by show 1 ≤ 1000000; decide), fun t nt => ?_⟩
            have sT := same_new (o := .tup [V.int (u.at_ : Int)]) nt
            refine ⟨_, rfl, t, f0, [V.int (u.at_ : Int)], fV ds cl ff, rfl, rfl, sqT_new upd_same, Same.sqT sT hF, smallE (by show 4 ≤ 1000000; decide), fun e => (nomatch e), fun _ e => (nomatch e), fun _ _ t2 nt2 => ?_⟩
            have sT2 := sT.trans (same_new (o := .tup ([V.int (u.at_ : Int)] ++ fV ds cl ff)) nt2)
            have eT : upd (upd Z t (.tup [V.int (u.at_ : Int)])) t2 (.tup ([V.int (u.at_ : Int)] ++ fV ds cl ff)) t2 = some (.tup (stpV (toStp ds cl (u.at_, ff)))) := upd_same
            generalize upd (upd Z t (.tup [V.int (u.at_ : Int)])) t2 (.tup ([V.int (u.at_ : Int)] ++ fV ds cl ff)) = Y at sT2 eT
            obtain ⟨xs, hq, lq, hS2⟩ := (hSs.mono sT2).put eT (by omega)
            refine ⟨qs, xs, .ref t2, rfl, rfl, hq, lq, ?_⟩
            have k2 : But qs Y (upd Y qs (.lst (xs ++ [.ref t2]))) := But.upd
            have eP := k2 _ _ neP (sT2 _ _ eP)
            have e8 := k2 _ _ ne8 (sT2 _ _ e8)
            have eE := k2 _ _ neE (sT2 _ _ eE)
            have sZ : Same H (upd Y qs (.lst (xs ++ [.ref t2]))) := fun b o eb => k2 _ _ (ne_of_none eb nqs) (sT2 _ _ (sZ _ _ eb))
            have hSs := hS2
            generalize upd Y qs (.lst (xs ++ [.ref t2])) = Y2 at hSs eP e8 eE sZ
            refine ⟨_, rfl, q8, _, rfl, .inl (sqL_new e8), rfl, flat_strs _, _, rfl, ?_⟩
            rw [if_pos rfl, inV_str]
            by_cases hb : ("!" : Str) ∈ Txt.split W " "
            · rw [decide_eq_true hb]
              refine iteNo rfl ?_
              have he : endP (Txt.split W " ") es u = es := by unfold endP; rw [if_pos hb]
              rw [he] at hpr
              exact ⟨u.st, u.ss ++ [(u.at_, ff)], es, _, _, _, _, _, rfl, sZ, eP, eE, hSs, hpr, by first | omega | (simp only [List.length_append, List.length_cons, List.length_nil]; omega), by omega⟩
            · rw [decide_eq_false hb]
              refine iteYes rfl ?_
              have he : endP (Txt.split W " ") es u = es ++ [u.at_] := by unfold endP; rw [if_neg hb]
              rw [he] at hpr
              refine ⟨_, rfl, Or.inl ⟨rfl, _, sqL_new eE⟩, _, rfl, qe, _, .int (u.at_ : Int), rfl, rfl, eE, by rw [natV_len]; exact small (by omega), ?_⟩
              have k3 : But qe Y2 (upd Y2 qe (.lst (natV es ++ [.int (u.at_ : Int)]))) := But.upd
              refine ⟨u.st, u.ss ++ [(u.at_, ff)], es ++ [u.at_], _, _, _, _, _, rfl, fun b o eb => k3 _ _ (ne_of_none eb n1) (sZ _ _ eb), k3 _ _ nePE eP, ?_, hSs.but eE (fun z => neE z.symm) k3, hpr, by first | omega | (simp only [List.length_append, List.length_cons, List.length_nil]; omega), by rw [List.length_append]; show es.length + 1 ≤ _; omega⟩
              rw [upd_same]
              unfold natV
              rw [List.map_append]
              rfl
        · rw [if_neg hs] at hpr
          rw [decide_eq_false hs]
          refine iteNo rfl ?_
          dsimp only at hpr
          refine ⟨_, rfl, q8, _, rfl, .inl (sqL_new e8), rfl, flat_strs _, _, rfl, ?_⟩
          rw [if_pos rfl, inV_str]
          by_cases hb : ("!" : Str) ∈ Txt.split W " "
          · rw [decide_eq_true hb]
            refine iteNo rfl ?_
            have he : endP (Txt.split W " ") es u = es := by unfold endP; rw [if_pos hb]
            rw [he] at hpr
            exact ⟨u.st, u.ss, es, _, _, _, _, _, rfl, sZ, eP, eE, hSs, hpr, by first | omega | (simp only [List.length_append, List.length_cons, List.length_nil]; omega), by omega⟩
          · rw [decide_eq_false hb]
            refine iteYes rfl ?_
            have he : endP (Txt.split W " ") es u = es ++ [u.at_] := by unfold endP; rw [if_neg hb]
            rw [he] at hpr
            refine ⟨_, rfl, Or.inl ⟨rfl, _, sqL_new eE⟩, _, rfl, qe, _, .int (u.at_ : Int), rfl, rfl, eE, by rw [natV_len]; exact small (by omega), ?_⟩
            have k3 : But qe Z (upd Z qe (.lst (natV es ++ [.int (u.at_ : Int)]))) := But.upd
            refine ⟨u.st, u.ss, es ++ [u.at_], _, _, _, _, _, rfl, fun b o eb => k3 _ _ (ne_of_none eb n1) (sZ _ _ eb), k3 _ _ nePE eP, ?_, hSs.but eE (fun z => neE z.symm) k3, hpr, by first | omega | (simp only [List.length_append, List.length_cons, List.length_nil]; omega), by rw [List.length_append]; show es.length + 1 ≤ _; omega⟩
            rw [upd_same]
            unfold natV
            rw [List.map_append]
            rfl
    · obtain ⟨st, ss, es, x7, x8, x9, x10, x11, rfl, sZ, eP, eE, hSs, hpr, lss, les⟩ := h
      rw [List.length_map, hlw, List.drop_length] at hpr
      cases hpr
      rw [List.length_map, hlw] at les
      have hne : natV es = (es.map fun (n : Nat) => (n : Int)).map V.int := by
        unfold natV
        rw [List.map_map]
        rfl
      rw [hne] at eE
      refine ⟨_, rfl, _, rfl, _, rfl, qe, es.map fun (n : Nat) => (n : Int), rfl, sqL_new eE, by rw [List.length_map]; omega, fun a1 na1 => ⟨a1, es.map fun (n : Nat) => (n : Int), rfl, upd_same, by rw [List.length_map]; omega, fun ys p2 hlt hme np2 => ⟨p2, _, rfl, .inl ⟨sqL_new upd_same, fun l3 nl3 => ?_⟩⟩⟩⟩
      have sA := ((same_new (o := Ka.SetIO w a1 (es.map fun (n : Nat) => (n : Int))) na1).trans (same_new (o := .lst (ys.map V.int)) np2)).trans (same_new (o := .tup (ys.map V.int)) nl3)
      have e3 : upd (upd (upd Z a1 (Ka.SetIO w a1 (es.map fun (n : Nat) => (n : Int)))) p2 (.lst (ys.map V.int))) l3 (.tup (ys.map V.int)) l3 = some (.tup (ys.map V.int)) := upd_same
      generalize upd (upd (upd Z a1 (Ka.SetIO w a1 (es.map fun (n : Nat) => (n : Int)))) p2 (.lst (ys.map V.int))) l3 (.tup (ys.map V.int)) = Y at sA e3
      obtain ⟨L, hL1, hL2, hL3⟩ := hSs.mono sA
      refine ⟨_, rfl, qs, _, rfl, .inl ⟨sqL_new hL1, fun l4 nl4 => ⟨smallE (by show 4 ≤ 1000000; decide), fun l5 nl5 => ?_⟩⟩⟩
      have s4 := same_new (o := .tup (L.map fun t => V.ref t.1)) nl4
      have e4 : upd Y l4 (.tup (L.map fun t => V.ref t.1)) l4 = some (.tup (L.map fun t => V.ref t.1)) := upd_same
      generalize upd Y l4 (.tup (L.map fun t => V.ref t.1)) = Y4 at s4 e4 nl5
      have s5 := same_new (o := .tup [V.str nm, V.int (st : Int), V.ref l3, V.ref l4]) nl5
      have e5 : upd Y4 l5 (.tup [V.str nm, V.int (st : Int), V.ref l3, V.ref l4]) l5 = some (.tup [V.str nm, V.int (st : Int), V.ref l3, V.ref l4]) := upd_same
      generalize upd Y4 l5 (.tup [V.str nm, V.int (st : Int), V.ref l3, V.ref l4]) = Y5 at s5 e5
      have hpos : ∀ y ∈ ys, ∃ n : Nat, n ∈ es ∧ y = (n : Int) := fun y hy => by
        obtain ⟨n, hn, e⟩ := List.mem_map.mp ((hme y).mp hy)
        exact ⟨n, hn, e.symm⟩
      have hys : natV (ys.map Int.toNat) = ys.map V.int := by
        unfold natV
        rw [List.map_map]
        refine List.map_congr_left fun y hy => ?_
        obtain ⟨n, _, rfl⟩ := hpos y hy
        rfl
      refine q Y5 { a := l5, nm := nm, n := st, ea := l3, es := ys.map Int.toNat, sa := l4, ss := L.map fun t => (t.1, toStp ds cl t.2) } (((sZ.trans sA).trans s4).trans s5) ⟨sqT_new e5, ?_, ?_, fun pr hp => ?_⟩ rfl rfl ?_ ?_ fun e => ?_
      · show SqT K Y5 l3 (natV (ys.map Int.toNat))
        rw [hys]
        exact sqT_new (s5 _ _ (s4 _ _ e3))
      · show SqT K Y5 l4 ((L.map fun t => (t.1, toStp ds cl t.2)).map fun p => V.ref p.1)
        rw [List.map_map]
        exact sqT_new (s5 _ _ e4)
      · obtain ⟨t, ht, rfl⟩ := List.mem_map.mp hp
        exact s5 _ _ (s4 _ _ (hL3 t ht))
      · show (L.map fun t => (t.1, toStp ds cl t.2)).map (·.2) = ss.map (toStp ds cl)
        rw [← hL2, List.map_map, List.map_map]
        rfl
      · show (ys.map Int.toNat).Pairwise (· < ·)
        rw [List.pairwise_map]
        refine List.Pairwise.imp_of_mem ?_ hlt
        intro x y hx hy h
        obtain ⟨n, _, rfl⟩ := hpos x hx
        obtain ⟨m, _, rfl⟩ := hpos y hy
        show n < m
        omega
      · show e ∈ ys.map Int.toNat ↔ e ∈ es
        constructor
        · intro h
          obtain ⟨y, hy, rfl⟩ := List.mem_map.mp h
          obtain ⟨n, hn, rfl⟩ := hpos y hy
          exact hn
        · intro h
          exact List.mem_map.mpr ⟨(e : Int), (hme _).mpr (List.mem_map.mpr ⟨e, h, rfl⟩), rfl⟩
end
end Kb
namespace Kb
open PySem PySem.Spec PyProof.Rows L2
/-! ### the menus' courses are good -/
def goodP (n : Nat) (p : PS) : Bool := decide (p.1 < n) && decide (p.2.2.2 < n) && decide (p.2.2.1 < (if p.2.1 = true then 3 else 4))
def goodR (r : P3) : Bool := decide (1 ≤ r.1) && decide (r.1 ≤ 20) && r.2.2.all (fun e => decide (e < r.1)) && r.2.1.all (goodP r.1) && decide r.2.1.Nodup && decide (r.2.1.length ≤ 8)
def par (t : Str) : Option P3 := parseP (itemsOf t) (1, [], [])
def txB (t : Str) : Bool := (itemsOf t).all (fun w => w.all fun it => decide (it ∈ alph)) && decide ((itemsOf t).length ≤ 50) && (itemsOf t).all (fun w => decide (w.length ≤ 50)) && decide (t.length ≤ 1000) && (Txt.split t "|").all fun w => decide (w.length ≤ 1000)
def goodT (t : Str) : Bool := txB t && match par t with
  | none => false
  | some r => goodR r
def stT (t : Str) : Nat := match par t with
  | none => 0
  | some r => r.1
theorem menus_good : ∀ k : Fin 6, (menuL k.1).all goodT = true ∧ ((menuL k.1).map stT).sum ≤ 15 := by decide +kernel
theorem menu_three : ∀ k : Nat, ∃ t0 t1 t2, menuL k = [t0, t1, t2]
  | 0 => ⟨_, _, _, rfl⟩
  | 1 => ⟨_, _, _, rfl⟩
  | 2 => ⟨_, _, _, rfl⟩
  | 3 => ⟨_, _, _, rfl⟩
  | 4 => ⟨_, _, _, rfl⟩
  | k + 5 => ⟨_, _, _, rfl⟩
theorem goodT_at {t : Str} (h : goodT t = true) : ∃ r, TxOk t r ∧ goodR r = true ∧ stT t = r.1 := by
  unfold goodT at h
  rw [Bool.and_eq_true] at h
  obtain ⟨h1, h2⟩ := h
  unfold stT
  cases e : par t with
  | none =>
    rw [e] at h2
    cases h2
  | some r =>
    rw [e] at h2
    unfold txB at h1
    simp only [Bool.and_eq_true, List.all_eq_true, decide_eq_true_eq] at h1
    obtain ⟨⟨⟨⟨a1, a2⟩, a3⟩, a4⟩, a5⟩ := h1
    exact ⟨r, ⟨a1, e, a2, a3, a4, a5⟩, h2, rfl⟩
theorem menu_at {k : Nat} (hk : k < 6) : ∃ t0 t1 t2 r0 r1 r2, menuL k = [t0, t1, t2] ∧ TxOk t0 r0 ∧ TxOk t1 r1 ∧ TxOk t2 r2 ∧ goodR r0 = true ∧ goodR r1 = true ∧ goodR r2 = true ∧ r0.1 + r1.1 + r2.1 ≤ 15 := by
  obtain ⟨t0, t1, t2, e⟩ := menu_three k
  obtain ⟨g, n⟩ := menus_good ⟨k, hk⟩
  dsimp only at g n
  rw [e] at g n
  simp only [List.all_cons, List.all_nil, Bool.and_true, Bool.and_eq_true] at g
  obtain ⟨r0, a0, b0, c0⟩ := goodT_at g.1
  obtain ⟨r1, a1, b1, c1⟩ := goodT_at g.2.1
  obtain ⟨r2, a2, b2, c2⟩ := goodT_at g.2.2
  simp only [List.map_cons, List.map_nil, List.sum_cons, List.sum_nil] at n
  exact ⟨t0, t1, t2, r0, r1, r2, e, a0, a1, a2, b0, b1, b2, by omega⟩
/-- a course read out of a text -/
structure Read (ds cl : List Str) (c : CA) (r : P3) : Prop where
  n : c.n = r.1
  ss : c.ss.map (·.2) = r.2.1.map (toStp ds cl)
  asc : c.es.Pairwise (· < ·)
  es : ∀ e, e ∈ c.es ↔ e ∈ r.2.2
  g : goodR r = true
theorem nmOf_mem {ds cl : List Str} (l4 : ds.length = 4) (l3 : cl.length = 3) {c : Bool} {i : Nat} (h : i < (if c = true then 3 else 4)) : nmOf ds cl c i ∈ (if c = true then cl else ds) := by
  unfold nmOf
  cases c with
  | true =>
    have h : i < 3 := h
    have hl : i < cl.length := by omega
    simp only [if_true]
    rw [List.getElem?_eq_getElem hl]
    exact List.getElem_mem hl
  | false =>
    have h : i < 4 := h
    have hl : i < ds.length := by omega
    simp only [Bool.false_eq_true, if_false]
    rw [List.getElem?_eq_getElem hl]
    exact List.getElem_mem hl
theorem nmOf_inj {ds cl : List Str} (l4 : ds.length = 4) (l3 : cl.length = 3) (nd : ds.Nodup) (nc : cl.Nodup) {c : Bool} {i j : Nat} (h : i < (if c = true then 3 else 4)) (h' : j < (if c = true then 3 else 4)) (e : nmOf ds cl c i = nmOf ds cl c j) : i = j := by
  have key : ∀ (l : List Str), l.Nodup → i < l.length → j < l.length → (l[i]?).getD "" = (l[j]?).getD "" → i = j := by
    intro l nd h1 h2 e
    rw [List.getElem?_eq_getElem h1, List.getElem?_eq_getElem h2] at e
    exact (List.getElem_inj nd).mp e
  unfold nmOf at e
  cases c with
  | true =>
    have h : i < 3 := h
    have h' : j < 3 := h'
    exact key cl nc (by omega) (by omega) e
  | false =>
    have h : i < 4 := h
    have h' : j < 4 := h'
    exact key ds nd (by omega) (by omega) e
section
variable {ds cl : List Str} (l4 : ds.length = 4) (l3 : cl.length = 3) (nd : ds.Nodup) (nc : cl.Nodup) (nds : ∀ z ∈ ds, isName z = true) (ncl : ∀ z ∈ cl, isName z = true)
include l4 l3
theorem Read.step {c : CA} {r : P3} (h : Read ds cl c r) {p : Addr × Stp} (hp : p ∈ c.ss) : p.2.n < c.n ∧ p.2.o < c.n ∧ p.2.nm ∈ (if p.2.call = true then cl else ds) := by
  have hm : p.2 ∈ c.ss.map (·.2) := List.mem_map.mpr ⟨p, hp, rfl⟩
  rw [h.ss] at hm
  obtain ⟨q, hq, e⟩ := List.mem_map.mp hm
  have g := h.g
  unfold goodR at g
  simp only [Bool.and_eq_true, List.all_eq_true, decide_eq_true_eq] at g
  have gq := g.1.1.2 q hq
  unfold goodP at gq
  simp only [Bool.and_eq_true, decide_eq_true_eq] at gq
  rw [← e, h.n]
  exact ⟨gq.1.1, gq.1.2, nmOf_mem l4 l3 gq.2⟩
include nd nc nds ncl
theorem Read.ok {c : CA} {r : P3} (h : Read ds cl c r) (hn : isName c.nm = true) : CrsOk c ∧ c.ss.length ≤ 8 := by
  have g := h.g
  unfold goodR at g
  simp only [Bool.and_eq_true, List.all_eq_true, decide_eq_true_eq] at g
  obtain ⟨⟨⟨⟨⟨g1, g2⟩, g3⟩, g4⟩, g5⟩, g6⟩ := g
  have ls : c.ss.length = r.2.1.length := by
    have := congrArg List.length h.ss
    rwa [List.length_map, List.length_map] at this
  refine ⟨⟨hn, by rw [h.n]; exact g1, by rw [h.n]; exact g2, fun e he => by rw [h.n]; exact g3 e ((h.es e).mp he), h.asc, fun p hp => ?_, ?_, by omega, ?_⟩, by omega⟩
  · obtain ⟨a, b, d⟩ := h.step l4 l3 hp
    refine ⟨a, b, ?_⟩
    split at d
    · exact ncl _ d
    · exact nds _ d
  · rw [h.ss]
    unfold List.Nodup at g5 ⊢
    rw [List.pairwise_map]
    refine List.Pairwise.imp_of_mem ?_ g5
    intro p q hp hq hne e
    refine hne ?_
    have gp := g4 p hp
    have gq := g4 q hq
    unfold goodP at gp gq
    simp only [Bool.and_eq_true, decide_eq_true_eq] at gp gq
    unfold toStp at e
    injection e with e1 e2 e3 e4
    obtain ⟨p1, p2, p3, p4⟩ := p
    obtain ⟨q1, q2, q3, q4⟩ := q
    dsimp only at e1 e2 e3 e4 gp gq
    subst e1 e2 e4
    rw [nmOf_inj l4 l3 nd nc gp.2 gq.2 e3]
  · have : c.es.length ≤ c.n := by
      have h2 := nodup_len (l := c.es) (m := List.range c.n) (h.asc.imp fun h => Nat.ne_of_lt h) fun x hx => List.mem_range.mpr (by rw [h.n]; exact g3 x ((h.es x).mp hx))
      rwa [List.length_range] at h2
    rw [h.n] at this
    omega
end
end Kb
namespace Kb
open PySem PySem.Spec PyProof.Rows L2
/-! ### three courses are courses of a book -/
section
variable {ds : List Str} {x0 x1 x2 : Str} (l4 : ds.length = 4) (nd : ds.Nodup) (nc : [x0, x1, x2].Nodup) (nds : ∀ z ∈ ds, isName z = true) (ncl : ∀ z ∈ [x0, x1, x2], isName z = true)
include l4 nd nc nds ncl
theorem cs_ok {c0 c1 c2 : CA} {r0 r1 r2 : P3} (h0 : Read ds [x0, x1, x2] c0 r0) (h1 : Read ds [x0, x1, x2] c1 r1) (h2 : Read ds [x0, x1, x2] c2 r2) (e0 : c0.nm = x0) (e1 : c1.nm = x1) (e2 : c2.nm = x2) (hn : r0.1 + r1.1 + r2.1 ≤ 15) :
    CsOk [c0, c1, c2] ∧ nStages [c0, c1, c2] ≤ 15 ∧ (∀ c ∈ [c0, c1, c2], c.ss.length ≤ 8) ∧ (∀ z ∈ dns [c0, c1, c2], z ∈ ds) ∧ (dns [c0, c1, c2]).length ≤ 24 := by
  have l3 : [x0, x1, x2].length = 3 := rfl
  have nmk : ∀ c ∈ [c0, c1, c2], c.nm ∈ [x0, x1, x2] := by
    intro c hc
    simp only [List.mem_cons, List.not_mem_nil, or_false] at hc ⊢
    rcases hc with rfl | rfl | rfl
    · exact .inl e0
    · exact .inr (.inl e1)
    · exact .inr (.inr e2)
  have rd : ∀ c ∈ [c0, c1, c2], ∃ r, Read ds [x0, x1, x2] c r := by
    intro c hc
    simp only [List.mem_cons, List.not_mem_nil, or_false] at hc
    rcases hc with rfl | rfl | rfl
    · exact ⟨_, h0⟩
    · exact ⟨_, h1⟩
    · exact ⟨_, h2⟩
  have okc : ∀ c ∈ [c0, c1, c2], CrsOk c ∧ c.ss.length ≤ 8 := fun c hc => by
    obtain ⟨r, hr⟩ := rd c hc
    exact hr.ok l4 l3 nd nc nds ncl (ncl _ (nmk c hc))
  have hst : nStages [c0, c1, c2] = r0.1 + (r1.1 + r2.1) := by
    show c0.n + (c1.n + (c2.n + 0)) = _
    rw [h0.n, h1.n, h2.n]
    omega
  have nms : [c0, c1, c2].map (·.nm) = [x0, x1, x2] := by
    show [c0.nm, c1.nm, c2.nm] = _
    rw [e0, e1, e2]
  have dd : ∀ z ∈ dns [c0, c1, c2], z ∈ ds := fun z hz => by
    obtain ⟨c, hc, h⟩ := List.mem_flatMap.mp hz
    obtain ⟨p, hp, rfl⟩ := List.mem_map.mp h
    obtain ⟨hp1, hp2⟩ := List.mem_filter.mp hp
    obtain ⟨r, hr⟩ := rd c hc
    have := (hr.step l4 l3 hp1).2.2
    have hcf : p.2.call = false := by simpa using hp2
    rw [hcf, if_neg (by decide)] at this
    exact this
  have dl : (dns [c0, c1, c2]).length ≤ 24 := by
    have a0 := (okc c0 (by simp)).2
    have a1 := (okc c1 (by simp)).2
    have a2 := (okc c2 (by simp)).2
    have b0 := dn_len c0.ss
    have b1 := dn_len c1.ss
    have b2 := dn_len c2.ss
    have : dns [c0, c1, c2] = dn c0.ss ++ (dn c1.ss ++ (dn c2.ss ++ [])) := rfl
    rw [this]
    simp only [List.length_append, List.length_nil]
    omega
  have ul : (uniq (dns [c0, c1, c2])).length ≤ 4 := by
    have := nodup_len (uniq_nd (dns [c0, c1, c2])) (m := ds) fun x hx => dd x ((mem_uniq _ x).mp hx)
    omega
  refine ⟨⟨by simp, by simp, fun c hc => (okc c hc).1, by rw [nms]; exact nc, fun c hc x hx => ?_, by omega, by omega, by omega⟩, by omega, fun c hc => (okc c hc).2, dd, dl⟩
  rw [nms]
  obtain ⟨p, hp, rfl⟩ := List.mem_map.mp hx
  obtain ⟨hp1, hp2⟩ := List.mem_filter.mp hp
  obtain ⟨r, hr⟩ := rd c hc
  have := (hr.step l4 l3 hp1).2.2
  rw [hp2, if_pos rfl] at this
  exact this
end
end Kb
/-! a != b of two dicts with equal values, whatever data the values are. -/
namespace Ka
open PySem PySem.Spec PyProof.Rows L2
/-- the same data -/
def SameD (K : PySem.W.Frag) (H : Hp) (x y : V) : Prop := ∃ d, Dp K H x d ∧ Dp K H y d ∧ SeqAt.shaped d = true ∧ PyData.eqv d d = true
section
variable {X : Cx} {pins : List (Addr × Obj)} {σ : L2.St} {H : Hp} {s : Shared}
theorem same_at (I : Inv X pins σ H s) {A : Around} (hu : A.units + 64 < cLine) {x y : V} {v u : Value} (h : SameD X.K H x y) (rx : RelV x v) (ry : RelV y u) : SeqAt.EqAt A s v u true := by
  obtain ⟨d, d1, d2, sh, ev⟩ := h
  obtain ⟨as, r1⟩ := Dp.reads I d x v d1 rx
  obtain ⟨bs, r2⟩ := Dp.reads I d y u d2 ry
  have := SeqAt.eqAt_reads d d A s v u as bs r1 r2 (SeqAt.canLay_of_shaped sh) (SeqAt.canLay_of_shaped sh) (SeqAt.room_of_shaped sh hu)
  rwa [ev] at this
theorem hits_same (I : Inv X pins σ H s) {A : Around} (hu : A.units + 64 < cLine) {ls : List (L2.Key × V)} {vb : List (L2.Key × Value)} (rb : KV ls vb) {ks : List (L2.Key × V)} {va : List (L2.Key × Value)} (ra : KV ks va) :
    (∀ p ∈ ks, ∃ u, valV ls p.1 = some u ∧ SameD X.K H p.2 u) → PySem.W.KeqHits A s vb va true := by
  unfold KV at ra
  induction ra with
  | nil => exact fun _ => .nil
  | @cons p q ps qs h t ih =>
    intro hp
    obtain ⟨k, v⟩ := q
    obtain ⟨e1, rv⟩ := h
    have e1 : p.1 = k := e1
    obtain ⟨u, eu, su⟩ := hp p List.mem_cons_self
    have ro : RelO (some u) (valueAt vb p.1) := eu ▸ rb.val p.1
    obtain ⟨z, hz, rz⟩ := ro.some_of
    rw [e1] at hz
    exact .hit (e := true) (b := true) hz (same_at I hu su rv rz) (ih fun p' hm => hp p' (List.mem_cons_of_mem _ hm))
end
section
variable {X : Cx}
def rNeDict (K : PySem.W.Frag) : R2 := fun x y H Q => ∃ a b ks ls, x = .ref a ∧ y = .ref b ∧ H a = some (.dK ks) ∧ H b = some (.dK ls) ∧ ks.length = ls.length ∧ (∀ p ∈ ks, ∃ u, valV ls p.1 = some u ∧ SameD K H p.2 u) ∧ Q (.bl false) H
theorem op_neDict (hu : X.A.units + 65 < cLine) : OpR X (compareOp .NotEq) (rNeDict X.K) := by
  intro pins s σ H x y v u Q I rx ry ⟨a, b, ks, ls, ex, ey, ha, hb, hl, hp, q⟩
  subst ex ey
  obtain rfl : v = Value.ref a := rx
  obtain rfl : u = Value.ref b := ry
  obtain ⟨_, ya, va, ra, da⟩ := (show ObjOk X.prog X.w H s.heap a (.dK ks) from I.hok a _ ha)
  obtain ⟨_, yb, vb, rb, db⟩ := (show ObjOk X.prog X.w H s.heap b (.dK ls) from I.hok b _ hb)
  have lens : va.length = vb.length := by rw [← ra.length, ← rb.length, hl]
  refine PySem.W.keq_ne (knd := mixKind X.prog X.w) (r := true) ya yb da db (by omega) (fun _ => hits_same I (A := X.A.in1) (by show X.A.units + 1 + 64 < cLine; omega) rb ra hp) ?_
  exact ⟨.bl false, H, I, by rw [lens]; simp; rfl, q⟩
end
end Ka
/-! a != b of two dicts whose keys are tuples, with the same keys and equal values: False. -/
namespace Ka
open PySem PySem.Spec PyProof.Rows L2
section
variable {prog : Program} {w : World} {K : Type} [DecidableEq K] {knd : HeapKind prog w K} {A : Around} {E : Value → Shared → Prop} {s : Shared}
theorem sameH {nm : String} {a b : Addr} {ka kb : List (K × Addr × Value)} {Q : Bool → Shared → Prop} (la : (a == sysModules) = false) (lb : (b == sysModules) = false) (hu : knd.room A)
    (da : s.heap.DictOfH knd a ka) (db : s.heap.DictOfH knd b kb) (hl : ka.length = kb.length) (hits : ∀ t ∈ ka, ∃ p : Addr × Value, (∃ j : Nat, kb[j]? = some (t.1, p)) ∧ SeqAt.EqAt A s t.2.2 p.2 true) (h : Q true s) :
    wpAny (model prog w) A (Builtin.Dict.samePairs nm a b) Q E s := by
  obtain ⟨oa, es, ep, ga, _, va, ea, ia, na⟩ := da
  obtain ⟨ob, fs, fp, gb, _, vb, eb, ib, nb⟩ := db
  have za := size_of_entries ea
  have zb := size_of_entries eb
  have zz : es.size = fs.size := by omega
  unfold Builtin.Dict.samePairs Builtin.Dict.showsAll
  rw [if_neg (show ¬ (a == sysModules) = true by rw [la]; exact Bool.false_ne_true), if_neg (show ¬ (b == sysModules) = true by rw [lb]; exact Bool.false_ne_true)]
  refine wpAny_bind (wpAny_pure (wpAny_bind (wpAny_pure ?_)))
  refine wpAny_bind (wpAny_dictEntries ga va ?_)
  dsimp only
  refine wpAny_bind (wpAny_dictEntries gb vb ?_)
  rw [if_neg (by rw [zz]; simp)]
  refine wpAny_bind (wpAny_dictEpoch ga va ?_)
  refine wpAny_bind ?_
  rw [Std.Legacy.Range.forIn_eq_forIn_range']
  simp only [Std.Legacy.Range.size, Nat.sub_zero, Nat.add_sub_cancel, Nat.div_one]
  refine wpAny_forIn_list _ (fun rest q s' => s' = s ∧ q = (none, ()) ∧ ∃ i, rest = List.range' i (es.size - i) ∧ i ≤ es.size) _ ?_ ?_ _ _ ⟨rfl, rfl, 0, by simp, Nat.zero_le _⟩
  · rintro x rest q s' ⟨rfl, rfl, i, hr, hi⟩
    have lt : i < es.size := by
      rcases Nat.lt_or_ge i es.size with h | h
      · exact h
      · rw [Nat.sub_eq_zero_of_le h] at hr
        simp at hr
    obtain ⟨rfl, hrest⟩ : x = i ∧ rest = List.range' (i + 1) (es.size - (i + 1)) := by
      have e : es.size - i = (es.size - (i + 1)) + 1 := by omega
      rw [e, List.range'_succ] at hr
      injection hr with h1 h2
      exact ⟨h1, h2⟩
    refine wpAny_bind (wpAny_dictEntries ga va ?_)
    have lx : x < ka.length := by omega
    have ex := entry_at ea x
    rw [List.getElem?_eq_getElem lx] at ex
    have hx : es[x]? = some (entryOfKey knd ka[x]) := ex
    rw [hx]
    have mx := List.getElem_mem lx
    obtain ⟨p, ⟨j, hj⟩, hq⟩ := hits _ mx
    show wpAny _ _ (holding [(entryOfKey knd ka[x]).key, (entryOfKey knd ka[x]).val] _ >>= _) _ _ _
    refine wpAny_bind (wpAny_holding (wpAny_bind ?_))
    show wpAny _ _ (dictFind b (.ref ka[x].2.1) (knd.hash ka[x].1)) _ _ _
    refine wpAny_dictFind_heap hu (ia _ mx) gb vb eb ib nb (fun hn => absurd hj (hn j p)) fun j' p' hj' => ?_
    have ep : p' = p := by
      have h1 := atKey_of_get nb hj'
      have h2 := atKey_of_get nb hj
      rw [h1] at h2
      exact Option.some.inj h2
    subst ep
    refine wpAny_bind (wpAny_dictEntries gb vb ?_)
    have fx : fs[j']? = some (entryOfKey knd (ka[x].1, p')) := by
      rw [entry_at eb j', hj']
      rfl
    rw [fx]
    refine wpAny_holding (hq prog w _ _ ?_)
    show wpAny _ _ (if (!true) = true then _ else _) _ _ _
    rw [if_neg (by decide)]
    refine wpAny_bind (wpAny_dictEpoch ga va ?_)
    rw [if_neg (by simp)]
    exact wpAny_pure ⟨rfl, rfl, x + 1, hrest, lt⟩
  · rintro q s' ⟨rfl, rfl, _⟩
    exact wpAny_pure h
theorem neH {a b : Addr} {ka kb : List (K × Addr × Value)} {Q : Value → Shared → Prop} (la : (a == sysModules) = false) (lb : (b == sysModules) = false) (hr : knd.room A.in1)
    (da : s.heap.DictOfH knd a ka) (db : s.heap.DictOfH knd b kb) (hu : A.units < cLine) (hl : ka.length = kb.length) (hits : ∀ t ∈ ka, ∃ p : Addr × Value, (∃ j : Nat, kb[j]? = some (t.1, p)) ∧ SeqAt.EqAt A.in1 s t.2.2 p.2 true) (h : Q (.bool false) s) :
    wpAny (model prog w) A (compareOp .NotEq (.ref a) (.ref b)) Q E s := by
  refine wpAny_richCompare_same_room (op := .NotEq) da.typeIs db.typeIs PySem.F.slot_dict_ne (PySem.wpAny_call_entry PySem.F.slot_dict_ne da.typeIs PySem.F.entry_dict_ne ?_ (PySem.F.args_dict_ne_2 _ _)) hu
  show wpAny _ _ (Builtin.Dict.dictSlotArgs "__ne__" ⟨[.ref a, .ref b], []⟩ >>= _) _ _ s
  refine wpAny_bind ?_
  unfold Builtin.Dict.dictSlotArgs
  refine wpAny_bind (wpAny_notOrdered_dict da.typeIs ?_)
  show wpAny _ _ (pure (Value.ref a, Value.ref b)) _ _ s
  refine wpAny_pure ?_
  refine wpAny_bind (wpAny_isInstance (T := "dict") db.typeIs PySem.F.sub_dict_dict ?_)
  simp only [Bool.not_true, Bool.false_eq_true, if_false]
  refine wpAny_bind (wpAny_pure (wpAny_bind (wpAny_pure ?_)))
  refine wpAny_bind (sameH la lb hr da db hl hits ?_)
  refine wpAny_pure ⟨_, rfl, ?_, ?_⟩
  · exact fun x => nomatch x
  · simpa using h
end
section
variable {X : Cx}
def rNeDictT (K : PySem.W.Frag) : R2 := fun x y H Q => ∃ a b ks ls, x = .ref a ∧ y = .ref b ∧ H a = some (.dT ks) ∧ H b = some (.dT ls) ∧ ks.length = ls.length ∧ (∀ p ∈ ks, ∃ u, valV ls p.1 = some u ∧ SameD K H p.2 u) ∧ Q (.bl false) H
theorem op_neDictT (hu : X.A.units + 65 < cLine) : OpR X (compareOp .NotEq) (rNeDictT X.K) := by
  intro pins s σ H x y v u Q I rx ry ⟨a, b, ks, ls, ex, ey, ha, hb, hl, hp, q⟩
  subst ex ey
  obtain rfl : v = Value.ref a := rx
  obtain rfl : u = Value.ref b := ry
  obtain ⟨_, ya, va, ra, da⟩ := dt_of I.hok ha
  obtain ⟨_, yb, vb, rb, db⟩ := dt_of I.hok hb
  have l1 := Paired.length ra
  have l2 := Paired.length rb
  refine neH (knd := tupleKind (mixKind X.prog X.w)) ya yb (by show X.A.units + 1 < cLine; omega) da db (by omega) (by omega) (fun t ht => ?_) ⟨.bl false, H, I, rfl, q⟩
  obtain ⟨i, hi⟩ := List.getElem?_of_mem ht
  obtain ⟨p, hpm, e1, rv⟩ : ∃ p ∈ ks, p.1 = t.1 ∧ RelV p.2 t.2.2 := by
    have : ∀ {ks : List (List L2.Key × V)} {va : List (List L2.Key × Addr × Value)}, KT H ks va → ∀ t ∈ va, ∃ p ∈ ks, p.1 = t.1 ∧ RelV p.2 t.2.2 := by
      intro ks va r
      induction r with
      | nil => exact fun t ht => nomatch ht
      | @cons p q ps qs h tt ih =>
        intro t ht
        rcases List.mem_cons.mp ht with e | e
        · exact ⟨p, List.mem_cons_self, by rw [e]; exact h.1, by rw [e]; exact h.2.2⟩
        · obtain ⟨p', h1, h2⟩ := ih t e
          exact ⟨p', List.mem_cons_of_mem _ h1, h2⟩
    exact this ra t ht
  obtain ⟨u, eu, su⟩ := hp p hpm
  have ro : RelO (some u) ((atKey vb p.1).map (·.2)) := eu ▸ rb.val p.1
  obtain ⟨z, hz, rz⟩ := ro.some_of
  rw [e1] at hz
  cases hk : atKey vb t.1 with
  | none =>
    rw [hk] at hz
    cases hz
  | some pr =>
    rw [hk] at hz
    have hz : pr.2 = z := Option.some.inj hz
    refine ⟨pr, ?_, ?_⟩
    · unfold atKey at hk
      cases hf : vb.find? fun x => decide (x.1 = t.1) with
      | none =>
        rw [hf] at hk
        cases hk
      | some x =>
        rw [hf] at hk
        have hx : x.2 = pr := Option.some.inj hk
        have hx1 : x.1 = t.1 := of_decide_eq_true (List.find?_some (p := fun (x : List L2.Key × Addr × Value) => decide (x.1 = t.1)) hf)
        obtain ⟨j, hj⟩ := List.getElem?_of_mem (List.mem_of_find?_eq_some hf)
        exact ⟨j, by rw [hj, ← hx, ← hx1]⟩
    · rw [hz]
      exact same_at I (by show X.A.units + 1 + 64 < cLine; omega) su rv rz
end
end Ka
/-! tuple(l) whose tuple is known to the object; dict(t) of such a tuple of pairs. -/
namespace Ka
open PySem PySem.Spec PyProof.Rows L2
section
variable {X : Cx}
theorem cr_tupF : CallR X (.type "tuple") (fun xs H Q => ∃ p ys, xs = [.ref p] ∧ SqL X.K H p ys ∧ ∀ (l : Addr) (ob : Obj), ob.dict = none → H l = none → Q (.ref l) (upd H l (.frz ob (.tup ys)))) := by
  intro pins s σ H xs us Q I r h
  obtain ⟨p, ys, rfl, hq, q⟩ := h
  obtain ⟨u, rfl, rx⟩ := vals1 r
  cases rx
  obtain ⟨its, r', pl, hz⟩ := I.list hq
  have hlen := r'.length
  refine call_tuple_list pl.isList (fun h' kp => ?_) (by simp only [List.size_toArray] <;> omega)
  have I1 : Inv X pins σ H { s with heap := h' } := I.kept (t' := s.toks) kp
  have I2 : Inv X pins σ (upd H h'.objs.size (.frz { cls := .type "tuple", data := .seq its.toArray } (.tup ys))) { s with heap := h'.push { cls := .type "tuple", data := .seq its.toArray } } :=
    I1.laid (t' := s.toks) (fun b o e => Heap.get?_push_of_some _ e) (Nat.le_refl _) (show ObjOk X.prog X.w _ _ _ (.frz _ (.tup ys)) from ⟨Heap.get?_push_size _ rfl, hz, its, r', IsTup.new _ _⟩)
  exact ⟨.ref h'.objs.size, _, I2, rfl, q _ _ rfl (I1.hok.fresh (Nat.le_refl _))⟩
theorem pairs_of2 {pins : List (Addr × Obj)} {σ : L2.St} {H : Hp} {s : Shared} (I : Inv X pins σ H s) : ∀ {ps : List Addr} {kvs : List (L2.Key × V)}, Paired (fun p kv => SqT X.K H p [kV kv.1, kv.2]) ps kvs →
    ∃ (prs : List (L2.Key × Value)) (pv : List (Value × Value)), KV kvs prs ∧ prs.length = ps.length ∧ pv.length = ps.length ∧ ∀ (j : Nat) (q : L2.Key × Value), prs[j]? = some q → ∃ (b : Addr) (u : Value), ps[j]? = some b ∧ pv[j]? = some (u, q.2) ∧ IsTup s.heap b #[u, q.2] ∧ keyIs q.1 u = true
  | _, _, .nil => ⟨[], [], .nil, rfl, rfl, fun j q e => by simp at e⟩
  | _, _, .cons (a := p) (b := kv) h t => by
    obtain ⟨prs, pv, r, hl, hl2, hp⟩ := pairs_of2 I t
    obtain ⟨its, rv, ht, _⟩ := I.tuple h
    obtain ⟨u, y, ei, ru, ry⟩ := vals2 rv
    subst ei
    refine ⟨(kv.1, y) :: prs, (u, y) :: pv, .cons ⟨rfl, ry⟩ r, by rw [List.length_cons, List.length_cons, hl], by rw [List.length_cons, List.length_cons, hl2], fun j q e => ?_⟩
    cases j with
    | zero =>
      have e' : (kv.1, y) = q := Option.some.inj e
      subst e'
      exact ⟨p, u, rfl, rfl, ht, kV_is (P := X.prog) (w := X.w) ru⟩
    | succ j =>
      obtain ⟨b, u', e1, e2, e3, e4⟩ := hp j q (by simpa using e)
      exact ⟨b, u', by simpa using e1, by simpa using e2, e3, e4⟩
theorem call_dictT (hcalm : X.calm = true) : CallR X (.type "dict") (fun xs H Q => ∃ (a : Addr) (ob : Obj) (ps : List Addr) (kvs : List (L2.Key × V)), xs = [.ref a] ∧ H a = some (.frz ob (.tup (ps.map V.ref))) ∧ ob.dict = none ∧ Paired (fun p kv => SqT X.K H p [kV kv.1, kv.2]) ps kvs ∧
    ∀ p, H p = none → Q (.ref p) (upd H p (.dK (mergeK [] kvs)))) := by
  intro pins s σ H xs us Q I r q
  obtain ⟨a, ob, ps, kvs, ex, ha, hdn, hp, q⟩ := q
  subst ex
  obtain ⟨u, eu, rx⟩ := vals1 r
  subst eu
  cases rx
  obtain ⟨ho, hz, its, rv, o, ho2, hc, n, hdat⟩ := I.hok a _ ha
  obtain rfl : ob = o := Option.some.inj (ho.symm.trans ho2)
  have ei := refs_at rv
  subst ei
  rw [List.length_map] at hz
  obtain ⟨prs, pv, rel, hl, hl2, hpr⟩ := pairs_of2 I hp
  have key : PairArg X.prog X.w "tuple" a (a :: (List.range pv.length).map fun j => ps.getD j 0) [] pv.length (PairRel pv) (fun h => PlainSeq "tuple" h a (ps.map Value.ref).toArray ∧ PairItems h (ps.map Value.ref).toArray (fun j => ps.getD j 0) pv) := PairArg.tuple a (ps.map Value.ref).toArray (fun j => ps.getD j 0) pv
  have at_ : ∀ (j : Nat) (k v : Value), pv[j]? = some (k, v) → ∃ q : L2.Key × Value, prs[j]? = some q ∧ q.2 = v ∧ keyIs q.1 k = true ∧ ∃ b, ps[j]? = some b ∧ IsTup s.heap b #[k, v] := fun j k v e => by
    have hj := (List.getElem?_eq_some_iff.mp e).1
    have hq : prs[j]? = some (prs[j]'(by omega)) := List.getElem?_eq_getElem _
    obtain ⟨b, u, e1, e2, e3, e4⟩ := hpr j _ hq
    have := Option.some.inj (e.symm.trans e2)
    cases this
    exact ⟨_, hq, rfl, e4, b, e1, e3⟩
  refine PySem.call_dict_pairs (knd := mixKind X.prog X.w) (kvs := prs) key (I.ok.hd hcalm) ⟨⟨ob, n, ho, hc, hdn, hdat⟩, by simp [hl2], fun j k v e => ?_⟩ ?_ (by omega) fun h' tk hd' k => ?_
  · obtain ⟨q, _, _, _, b, e1, e2⟩ := at_ j k v e
    refine ⟨by simp [e1], ?_⟩
    have : ps.getD j 0 = b := by rw [List.getD_eq_getElem?_getD, e1]; rfl
    show PairAt s.heap (ps.getD j 0) k v
    rw [this]
    exact .inl e2
  · refine ⟨by omega, fun j k v e => ?_⟩
    obtain ⟨q, h1, h2, h3, _⟩ := at_ j k v e
    exact ⟨q.1, by rw [h1, ← h2], h3⟩
  · have hm : (s.heap.objs.size == sysModules) = false := beq_eq_false_iff_ne.mpr (Nat.ne_of_gt I.big)
    have hlen : (mergeK [] kvs).length ≤ sizeLine := by
      refine Nat.le_trans (length_mergeK kvs []) ?_
      rw [List.length_nil, Nat.zero_add, rel.length, hl]
      exact hz
    have k' : ∀ b o, s.heap.get? b = some o → h'.get? b = some o := fun b o e => k b o (fun z => nomatch z) e
    exact ⟨.ref s.heap.objs.size, upd H s.heap.objs.size (.dK (mergeK [] kvs)), I.laid (t' := tk) k' (Nat.le_refl _) (show ObjOk X.prog X.w _ _ _ (.dK (mergeK [] kvs)) from ⟨hlen, hm, merged [] prs, KV.merge rel .nil, hd'⟩), rfl, q _ (I.hok.fresh (Nat.le_refl _))⟩
end
end Ka
/-! dict(l) of a list of pairs whose first parts are tuples of texts and numbers. -/
namespace Ka
open PySem PySem.Spec PyProof.Rows L2
abbrev KBV := List L2.Key × Addr × V
def mergeT (kvs : List KBV) : List (List L2.Key × V) := kvs.foldl (fun acc t => putK acc t.1 t.2.2) []
structure PrT (K : PySem.W.Frag) (H : Hp) (p : Addr) (t : KBV) : Prop where
  p : SqT K H p [.ref t.2.1, t.2.2]
  k : H t.2.1 = some (.tup (t.1.map kV))
theorem mergeT_len : ∀ (kvs : List KBV) (acc : List (List L2.Key × V)), (kvs.foldl (fun acc t => putK acc t.1 t.2.2) acc).length ≤ acc.length + kvs.length
  | [], acc => Nat.le_refl _
  | t :: kvs, acc => by
    have h1 := length_putK acc t.1 t.2.2
    have h2 := mergeT_len kvs (putK acc t.1 t.2.2)
    rw [List.foldl_cons, List.length_cons]
    omega
theorem fold_kt {H : Hp} : ∀ {kvs : List KBV} {prs : List (List L2.Key × Addr × Value)} {acc : List (List L2.Key × V)} {xs : List (List L2.Key × Addr × Value)},
    Paired (fun (t : KBV) (q : List L2.Key × Addr × Value) => t.1 = q.1 ∧ t.2.1 = q.2.1 ∧ H t.2.1 = some (.tup (t.1.map kV)) ∧ RelV t.2.2 q.2.2) kvs prs → KT H acc xs → KT H (kvs.foldl (fun acc t => putK acc t.1 t.2.2) acc) (storedAllH xs prs)
  | _, _, acc, xs, .nil, r => r
  | _, _, acc, xs, .cons (a := t) (b := q) (l₁ := l1) (l₂ := l2) h ht, r => by
    obtain ⟨h1, h2, h3, h4⟩ := h
    have r2 : KT H (putK acc t.1 t.2.2) (storedH xs t.1 t.2.1 q.2.2) := r.put t.1 h3 h4
    have e : storedH xs t.1 t.2.1 q.2.2 = storedH xs q.1 q.2.1 q.2.2 := by rw [h1, h2]
    rw [e] at r2
    exact fold_kt (kvs := l1) (prs := l2) ht r2
theorem keys_kt {H : Hp} : ∀ {kvs : List KBV} {prs : List (List L2.Key × Addr × Value)},
    Paired (fun (t : KBV) (q : List L2.Key × Addr × Value) => t.1 = q.1 ∧ t.2.1 = q.2.1 ∧ H t.2.1 = some (.tup (t.1.map kV)) ∧ RelV t.2.2 q.2.2) kvs prs → ∀ x ∈ prs, H x.2.1 = some (.tup (x.1.map kV))
  | _, _, .nil => fun x hx => (nomatch hx)
  | _, _, .cons (a := t) (b := q) h ht => fun x hx => by
    rcases List.mem_cons.mp hx with e | e
    · rw [e, ← h.1, ← h.2.1]
      exact h.2.2.1
    · exact keys_kt ht x e
section
variable {X : Cx}
theorem pairs_ofT {pins : List (Addr × Obj)} {σ : L2.St} {H : Hp} {s : Shared} (I : Inv X pins σ H s) : ∀ {ps : List Addr} {kvs : List KBV}, Paired (PrT X.K H) ps kvs →
    ∃ (prs : List (List L2.Key × Addr × Value)) (pv : List (Value × Value)), Paired (fun (t : KBV) (q : List L2.Key × Addr × Value) => t.1 = q.1 ∧ t.2.1 = q.2.1 ∧ H t.2.1 = some (.tup (t.1.map kV)) ∧ RelV t.2.2 q.2.2) kvs prs ∧ prs.length = ps.length ∧ pv.length = ps.length ∧ ∀ (j : Nat) (q : List L2.Key × Addr × Value), prs[j]? = some q → ∃ b : Addr, ps[j]? = some b ∧ pv[j]? = some (.ref q.2.1, q.2.2) ∧ IsTup s.heap b #[.ref q.2.1, q.2.2]
  | _, _, .nil => ⟨[], [], .nil, rfl, rfl, fun j q e => by simp at e⟩
  | _, _, .cons (a := p) (b := t) h ht => by
    obtain ⟨prs, pv, r, hl, hl2, hp⟩ := pairs_ofT I ht
    obtain ⟨its, rv, htt, _⟩ := I.tuple h.p
    obtain ⟨u, y, ei, ru, ry⟩ := vals2 rv
    subst ei
    cases (show u = Value.ref t.2.1 from ru)
    refine ⟨(t.1, t.2.1, y) :: prs, (.ref t.2.1, y) :: pv, .cons ⟨rfl, rfl, h.k, ry⟩ r, by rw [List.length_cons, List.length_cons, hl], by rw [List.length_cons, List.length_cons, hl2], fun j q e => ?_⟩
    cases j with
    | zero =>
      have e' : (t.1, t.2.1, y) = q := Option.some.inj e
      subst e'
      exact ⟨p, rfl, rfl, htt⟩
    | succ j =>
      obtain ⟨b, e1, e2, e3⟩ := hp j q (by simpa using e)
      exact ⟨b, by simpa using e1, by simpa using e2, e3⟩
theorem call_dictPT (hcalm : X.calm = true) (hu : X.A.units + 64 < cLine) : CallR X (.type "dict") (fun xs H Q => ∃ (a : Addr) (ps : List Addr) (kvs : List KBV), xs = [.ref a] ∧ SqL X.K H a (ps.map V.ref) ∧ Paired (PrT X.K H) ps kvs ∧
    ∀ p, H p = none → Q (.ref p) (upd H p (.dT (mergeT kvs)))) := by
  intro pins s σ H xs us Q I r q
  obtain ⟨a, ps, kvs, ex, ha, hp, q⟩ := q
  subst ex
  obtain ⟨u, eu, rx⟩ := vals1 r
  subst eu
  cases rx
  obtain ⟨its, rv, pl, hz⟩ := I.list ha
  have ei := refs_at rv
  subst ei
  rw [List.length_map] at hz
  obtain ⟨prs, pv, rel, hl, hl2, hpr⟩ := pairs_ofT I hp
  obtain ⟨o, n, ho, hc, hd, hdat⟩ := pl
  have key : PairArg X.prog X.w "list" a (a :: (List.range pv.length).map fun j => ps.getD j 0) [] pv.length (PairRel pv) (fun h => PlainSeq "list" h a (ps.map Value.ref).toArray ∧ PairItems h (ps.map Value.ref).toArray (fun j => ps.getD j 0) pv) := PairArg.list a (ps.map Value.ref).toArray (fun j => ps.getD j 0) pv
  have at_ : ∀ (j : Nat) (k v : Value), pv[j]? = some (k, v) → ∃ q : List L2.Key × Addr × Value, prs[j]? = some q ∧ k = .ref q.2.1 ∧ q.2.2 = v ∧ ∃ b, ps[j]? = some b ∧ IsTup s.heap b #[k, v] := fun j k v e => by
    have hj := (List.getElem?_eq_some_iff.mp e).1
    have hq : prs[j]? = some (prs[j]'(by omega)) := List.getElem?_eq_getElem _
    obtain ⟨b, e1, e2, e3⟩ := hpr j _ hq
    have := Option.some.inj (e.symm.trans e2)
    cases this
    exact ⟨_, hq, rfl, rfl, b, e1, e3⟩
  have hkt : KT H (mergeT kvs) (storedAllH [] prs) := fold_kt rel .nil
  refine PySem.call_dict_pairsH (knd := tupleKind (mixKind X.prog X.w)) (ps := prs) key (I.ok.hd hcalm) ?_ ⟨⟨o, n, ho, hc, hd, by rw [hdat]⟩, by simp [hl2], fun j k v e => ?_⟩ ?_ ?_ (by omega) fun h' tk hd' k => ?_
  · show X.A.in1.in1.units < cLine
    have : X.A.in1.in1.units = X.A.units + 2 := rfl
    omega
  · obtain ⟨q, _, _, _, b, e1, e2⟩ := at_ j k v e
    refine ⟨by simp [e1], ?_⟩
    have : ps.getD j 0 = b := by rw [List.getD_eq_getElem?_getD, e1]; rfl
    show PairAt s.heap (ps.getD j 0) k v
    rw [this]
    exact .inl e2
  · refine ⟨by omega, fun j k v e => ?_⟩
    obtain ⟨q, h1, h2, h3, _⟩ := at_ j k v e
    exact ⟨q.1, q.2.1, by rw [h1, ← h3], h2⟩
  · intro h' hk x hx
    exact tupleKind_stays.stays (fun b ob vs m e1 _ => hk b ob (Nat.ne_of_lt (Heap.lt_size e1)) (fun z => nomatch z) e1) (key_of I.hok (keys_kt rel x hx))
  · have hm : (s.heap.objs.size == sysModules) = false := beq_eq_false_iff_ne.mpr (Nat.ne_of_gt I.big)
    have hlen : (mergeT kvs).length ≤ sizeLine := by
      refine Nat.le_trans (mergeT_len kvs []) ?_
      have := Paired.length rel
      have h2 := Paired.length hp
      rw [List.length_nil, Nat.zero_add]
      omega
    have k' : ∀ b o, s.heap.get? b = some o → h'.get? b = some o := fun b o e => k b o (fun z => nomatch z) e
    obtain ⟨ob, es, ep, h1, h2, h3, h4, h5, h6⟩ := hd'
    have hn := I.hok.fresh (Nat.le_refl s.heap.objs.size)
    refine ⟨.ref s.heap.objs.size, upd H s.heap.objs.size (.dT (mergeT kvs)), I.laid (t' := tk) k' (Nat.le_refl _) (show ObjOk X.prog X.w _ _ _ (.dT (mergeT kvs)) from ⟨hlen, hm, storedAllH [] prs, hkt.keeps fun c ys ec => ?_, ob, es, ep, h1, h2, h3, h4, h6⟩), rfl, q _ hn⟩
    rw [upd_ne (fun z => by rw [z, hn] at ec; cases ec)]
    exact ec
end
end Ka
namespace Kb
open PySem PySem.Spec PyProof.Rows L2
/-! ### the order of stages; the same rows in another order -/
theorem ls_cps (z : Str) : z.cps.toList = ls z := by
  first | rfl | (unfold ls; rfl)
theorem kl_iff (x y : Stg) : Ka.kLe (stK x) (stK y) = true ↔ ¬ (ls y.1 < ls x.1) ∧ (ls y.1 = ls x.1 → x.2 ≤ y.2) := by
  unfold Ka.kLe Ka.keysD
  show (!PySem.W.dataLt (.tuple [.str y.1, .int (y.2 : Int)]) (.tuple [.str x.1, .int (x.2 : Int)])) = true ↔ _
  rw [PySem.W.dataLt_pair (by simp [PySem.W.alike]) (by simp [PySem.W.alike]), PySem.W.dataLt_str, PySem.W.dataLt_int]
  simp only [PyData.eqv, ls_cps]
  by_cases h : y.1 = x.1
  · rw [h]
    simp
    omega
  · have h2 : ls y.1 ≠ ls x.1 := fun e => h (ls_inj e)
    simp [h, h2]
theorem kl_trans {x y z : Stg} (h1 : Ka.kLe (stK x) (stK y) = true) (h2 : Ka.kLe (stK y) (stK z) = true) : Ka.kLe (stK x) (stK z) = true := by
  rw [kl_iff] at h1 h2 ⊢
  have t1 : ls x.1 ≤ ls y.1 := h1.1
  have t2 : ls y.1 ≤ ls z.1 := h2.1
  refine ⟨List.le_trans t1 t2, fun e => ?_⟩
  rw [e] at t2
  have e2 := List.le_antisymm t1 t2
  have a1 := h1.2 e2.symm
  have a2 := h2.2 (by rw [e, e2])
  omega
theorem kl_total (x y : Stg) : (Ka.kLe (stK x) (stK y) || Ka.kLe (stK y) (stK x)) = true := by
  rw [Bool.or_eq_true, kl_iff, kl_iff]
  by_cases e : ls x.1 = ls y.1
  · have h := Nat.le_total x.2 y.2
    rw [e]
    rcases h with h | h
    · exact .inl ⟨List.lt_irrefl _, fun _ => h⟩
    · exact .inr ⟨List.lt_irrefl _, fun _ => h⟩
  · rcases List.le_total (ls x.1) (ls y.1) with h | h
    · exact .inl ⟨h, fun z => absurd z.symm e⟩
    · exact .inr ⟨h, fun z => absurd z e⟩
theorem kl_anti {x y : Stg} (h1 : Ka.kLe (stK x) (stK y) = true) (h2 : Ka.kLe (stK y) (stK x) = true) : x = y := by
  rw [kl_iff] at h1 h2
  have t1 : ls x.1 ≤ ls y.1 := h1.1
  have t2 : ls y.1 ≤ ls x.1 := h2.1
  have e := List.le_antisymm t1 t2
  have a1 := h1.2 e.symm
  have a2 := h2.2 e
  exact Prod.ext (ls_inj e) (by omega)
theorem srt_perm {l m : List Stg} (h : l.Perm m) : srt l = srt m := by
  unfold srt
  have p : (l.mergeSort fun x y => Ka.kLe (stK x) (stK y)).Perm (m.mergeSort fun x y => Ka.kLe (stK x) (stK y)) :=
    (List.mergeSort_perm l _).trans (h.trans (List.mergeSort_perm m _).symm)
  have s1 := List.pairwise_mergeSort (le := fun x y : Stg => Ka.kLe (stK x) (stK y)) (fun a b c h1 h2 => kl_trans h1 h2) (fun a b => kl_total a b) l
  have s2 := List.pairwise_mergeSort (le := fun x y : Stg => Ka.kLe (stK x) (stK y)) (fun a b c h1 h2 => kl_trans h1 h2) (fun a b => kl_total a b) m
  exact List.Perm.eq_of_pairwise (fun a b _ _ h1 h2 => kl_anti h1 h2) s1 s2 p
theorem rowA_of {R : List RA} (nd : (R.map (·.1)).Nodup) {t : RA} (h : t ∈ R) : rowA R t.1 = some t.2 := by
  induction R with
  | nil => cases h
  | cons u R ih =>
    unfold rowA
    rw [List.map_cons, List.nodup_cons] at nd
    rcases List.mem_cons.mp h with e | e
    · rw [e, if_pos rfl]
    · rw [if_neg (fun z => nd.1 (by rw [z]; exact List.mem_map.mpr ⟨t, e, rfl⟩)), ih nd.2 e]
theorem rowA_perm {R R' : List RA} (h : R'.Perm R) (nd : (R.map (·.1)).Nodup) (x : Stg) : rowA R' x = rowA R x := by
  have nd' : (R'.map (·.1)).Nodup := (h.map _).nodup_iff.mpr nd
  cases e : rowA R x with
  | some y =>
    have := rowA_mem e
    exact rowA_of nd' (h.mem_iff.mpr this)
  | none =>
    cases e' : rowA R' x with
    | none => rfl
    | some y =>
      have := h.mem_iff.mp (rowA_mem e')
      rw [rowA_of nd this] at e
      cases e
section
variable {R R' : List RA} (h : ∀ x, rowA R' x = rowA R x)
include h
theorem catL_same : ∀ (xs : List Stg) (acc : List Str), catL R' acc xs = catL R acc xs
  | [], _ => rfl
  | x :: xs, acc => by
    unfold catL
    rw [h x]
    cases rowA R x with
    | none => rfl
    | some y => exact catL_same xs _
theorem badAt_same (ps : List DP) (ks : List Str) (c : CA) (row : List Str) : ∀ js, badAt ps ks R' c row js = badAt ps ks R c row js
  | [] => rfl
  | j :: js => by
    have ih := badAt_same ps ks c row js
    unfold badAt
    cases c.ss[j]? with
    | none => exact ih
    | some s =>
      dsimp only
      have e : joinR R' c.nm s.2 = joinR R c.nm s.2 := catL_same h _ _
      rw [e]
      cases joinR R c.nm s.2 with
      | none => exact ih
      | some r =>
        dsimp only
        rw [ih]
theorem looksL_same (ps : List DP) (ks : List Str) (cs : List CA) : ∀ xs, looksL ps ks R' cs xs = looksL ps ks R cs xs
  | [] => rfl
  | x :: xs => by
    have ih := looksL_same ps ks cs xs
    unfold looksL
    rw [h x, ih]
    cases crsOf cs x.1 with
    | none => rfl
    | some c =>
      cases rowA R x with
      | none => rfl
      | some y =>
        dsimp only
        rw [badAt_same h]
end
theorem perm_map_ex {α β : Type} (f : α → β) : ∀ (ys : List β) (rs : List α), ys.Perm (rs.map f) → ∃ rs' : List α, rs'.Perm rs ∧ rs'.map f = ys
  | [], rs, h => by
    have := h.symm.eq_nil
    have e : rs = [] := List.map_eq_nil_iff.mp this
    exact ⟨[], by rw [e], rfl⟩
  | y :: ys, rs, h => by
    obtain ⟨r, hr, e⟩ := List.mem_map.mp (h.mem_iff.mp List.mem_cons_self)
    obtain ⟨l1, l2, rfl⟩ := List.append_of_mem hr
    have h2 : ys.Perm ((l1 ++ l2).map f) := by
      have : (y :: ys).Perm (y :: (l1 ++ l2).map f) := by
        refine h.trans ?_
        rw [List.map_append, List.map_cons, e, List.map_append]
        exact List.perm_middle
      exact List.Perm.cons_inv this
    obtain ⟨rs', p, em⟩ := perm_map_ex f ys (l1 ++ l2) h2
    exact ⟨r :: rs', (List.Perm.cons r p).trans List.perm_middle.symm, by rw [List.map_cons, e, em]⟩
end Kb
/-! A call of a def by keywords alone. -/
namespace Ka
open PySem PySem.Spec PyProof.Rows L2
section
variable {X : Cx} {CX : CXT} {k : Nat} {f : Addr} {fd : FuncData} {ps ks : List Str} {sp : Sp} {E : XK} {x : Str} {p pos : Pos} {kws : List Keyword} {tk : TA} {g : List Value → List Value → List Value} {gV : List V → List V → List V}
def tCallK0 (sp : Sp) (gV : List V → List V → List V) (E : XK) (tk : TA) : TE := fun σ H Q => tk σ H fun zs H2 => sp (gV [] zs) H2 Q E
theorem pe_callK0 (F : FnOk X.prog X.w X.K X.mg X.base CX k f fd ps sp) (hr : Room k X.A) (hg : Gl X x) (hm : X.mg x = some (.ref f)) (hk : PySem.W.keepIn X.K (.ref f) = true) (hb : KBinds X.K fd ps ks g gV) (hx : Passes CX X E) (hkw : PK X kws tk)
    (hall : (backToKw pos (keywordEach kws X.env)).all (·.1.isSome) = true := by rfl) (hks : (backToKw pos (keywordEach kws X.env)).filterMap (·.1) = ks := by rfl) (hdb : (x == ("__debug__" : Str)) = false := by decide)
    (hpl : ((backTo pos (starEach [] X.env)).any (·.1) || (backToKw pos (keywordEach kws X.env)).any (·.1.isNone)) = false := by rfl) : PE X (.Call (.Name x p) [] kws pos) (tCallK0 sp gV E tk) := by
  constructor
  intro pins s σ H Q I h
  apply wpAny_Call_Name_kw
  apply ld_glob I hg hm ?_ hdb
  apply PySem.W.callWith_KW0 (h₀ := X.base) I.ok.mod.kin hk hall ?_ hpl
  apply thn (hkw.run pos pins s σ H _ I h)
  rintro ws s2 ⟨zs, H2, I2, rz, q2⟩
  rw [hks]
  exact ⟨I2.kIn, run_fnk F hr hb hx I2 .nil rz q2⟩
end
/-- two parameters, given by name in the other order -/
def swG {α : Type} (us ws : List α) : List α := match us, ws with
  | [], [a, b] => [b, a]
  | _, _ => []
theorem kb_swap {K : PySem.W.Frag} {fd : FuncData} {a b : Str} (h : ∀ x y : Value, bindArgs fd ⟨[], [(b, x), (a, y)]⟩ = pure [(a, y), (b, x)]) : KBinds K fd [a, b] [b, a] swG swG := by
  constructor
  · intro s us ws _ hl
    match us, ws, hl with
    | [], [x, y], _ => exact BindsTo.of_eq (h x y)
    | [], [], hl => exact absurd hl (by simp [swG])
    | [], [_], hl => exact absurd hl (by simp [swG])
    | [], _ :: _ :: _ :: _, hl => exact absurd hl (by simp [swG])
    | _ :: _, _, hl => exact absurd hl (by simp [swG])
  · intro vs us zs ws r rz
    cases r with
    | nil =>
      cases rz with
      | nil => exact .nil
      | cons a r =>
        cases r with
        | nil => exact .nil
        | cons b r =>
          cases r with
          | nil => exact .cons b (.cons a .nil)
          | cons _ _ => exact .nil
    | cons _ _ => exact .nil
/-- one parameter, given by name -/
def snG {α : Type} (us ws : List α) : List α := match us, ws with
  | [], [a] => [a]
  | _, _ => []
theorem kb_one {K : PySem.W.Frag} {fd : FuncData} {a : Str} (h : ∀ x : Value, bindArgs fd ⟨[], [(a, x)]⟩ = pure [(a, x)]) : KBinds K fd [a] [a] snG snG := by
  constructor
  · intro s us ws _ hl
    match us, ws, hl with
    | [], [x], _ => exact BindsTo.of_eq (h x)
    | [], [], hl => exact absurd hl (by simp [snG])
    | [], _ :: _ :: _, hl => exact absurd hl (by simp [snG])
    | _ :: _, _, hl => exact absurd hl (by simp [snG])
  · intro vs us zs ws r rz
    cases r with
    | nil =>
      cases rz with
      | nil => exact .nil
      | cons a r =>
        cases r with
        | nil => exact .cons a .nil
        | cons _ _ => exact .nil
    | cons _ _ => exact .nil
/-- three parameters, given by name from the last to the first -/
def rvG {α : Type} (us ws : List α) : List α := match us, ws with
  | [], [a, b, c] => [c, b, a]
  | _, _ => []
theorem kb_rev3 {K : PySem.W.Frag} {fd : FuncData} {a b c : Str} (h : ∀ x y z : Value, bindArgs fd ⟨[], [(c, x), (b, y), (a, z)]⟩ = pure [(a, z), (b, y), (c, x)]) : KBinds K fd [a, b, c] [c, b, a] rvG rvG := by
  constructor
  · intro s us ws _ hl
    match us, ws, hl with
    | [], [x, y, z], _ => exact BindsTo.of_eq (h x y z)
    | [], [], hl => exact absurd hl (by simp [rvG])
    | [], [_], hl => exact absurd hl (by simp [rvG])
    | [], [_, _], hl => exact absurd hl (by simp [rvG])
    | [], _ :: _ :: _ :: _ :: _, hl => exact absurd hl (by simp [rvG])
    | _ :: _, _, hl => exact absurd hl (by simp [rvG])
  · intro vs us zs ws r rz
    cases r with
    | cons _ _ => exact .nil
    | nil =>
      cases rz with
      | nil => exact .nil
      | cons a r =>
        cases r with
        | nil => exact .nil
        | cons b r =>
          cases r with
          | nil => exact .nil
          | cons c r =>
            cases r with
            | nil => exact .cons c (.cons b (.cons a .nil))
            | cons _ _ => exact .nil
end Ka
namespace Ka
open PySem PySem.Spec PyProof.Rows L2
/-! a call by keywords alone, within a try -/
section
variable {X : Cx} {CX : CXT} {k : Nat} {f : Addr} {fd : FuncData} {ps ks : List Str} {sp : Sp} {E : L2.St → XK} {x : Str} {p pos : Pos} {kws : List Keyword} {tk : TA} {g : List Value → List Value → List Value} {gV : List V → List V → List V}
theorem run_fnkS {pins : List (Addr × Obj)} {σ : L2.St} {H : Hp} {s : Shared} {Q : VK} {us ws : List Value} {vs zs : List V} (F : FnOk X.prog X.w X.K X.mg X.base CX k f fd ps sp) (hr : Room k X.A) (hb : KBinds X.K fd ps ks g gV) (hx : PassesAt CX X σ (E σ))
    (I : Inv X pins σ H s) (r : Vals vs us) (rz : Vals zs ws) (h : sp (gV vs zs) H Q (E σ)) : wpAny (model X.prog X.w) X.A (call (.ref f) us (ks.zip ws)) (EP X pins σ Q) X.xe s := by
  have r2 := hb.rel r rz
  have hl : (g us ws).length = ps.length := by rw [← r2.length]; exact F.len _ _ _ _ h
  refine wpAny_call (codeAny_mono (F.run X.A X.stack s H ⟨us, ks.zip ws⟩ (g us ws) (gV vs zs) Q (E σ) hr I.env0 (hb.to s us ws I.kIn hl) r2 h) fun r s' hq => ?_)
  cases r with
  | error e => exact hx pins H s e s' I hq
  | ok fl =>
    cases fl with
    | ret u => exact I.after hq
    | next => exact False.elim hq
    | brk => exact False.elim hq
    | cont => exact False.elim hq
def tCallKS0 (sp : Sp) (gV : List V → List V → List V) (E : L2.St → XK) (tk : TA) : TE := fun σ H Q => tk σ H fun zs H2 => sp (gV [] zs) H2 Q (E σ)
theorem pe_callKS0 (F : FnOk X.prog X.w X.K X.mg X.base CX k f fd ps sp) (hr : Room k X.A) (hg : Gl X x) (hm : X.mg x = some (.ref f)) (hk : PySem.W.keepIn X.K (.ref f) = true) (hb : KBinds X.K fd ps ks g gV) (hx : ∀ σ, PassesAt CX X σ (E σ)) (hkw : PK X kws tk)
    (hall : (backToKw pos (keywordEach kws X.env)).all (·.1.isSome) = true := by rfl) (hks : (backToKw pos (keywordEach kws X.env)).filterMap (·.1) = ks := by rfl) (hdb : (x == ("__debug__" : Str)) = false := by decide)
    (hpl : ((backTo pos (starEach [] X.env)).any (·.1) || (backToKw pos (keywordEach kws X.env)).any (·.1.isNone)) = false := by rfl) : PE X (.Call (.Name x p) [] kws pos) (tCallKS0 sp gV E tk) := by
  constructor
  intro pins s σ H Q I h
  apply wpAny_Call_Name_kw
  apply ld_glob I hg hm ?_ hdb
  apply PySem.W.callWith_KW0 (h₀ := X.base) I.ok.mod.kin hk hall ?_ hpl
  apply thn (hkw.run pos pins s σ H _ I h)
  rintro ws s2 ⟨zs, H2, I2, rz, q2⟩
  rw [hks]
  exact ⟨I2.kIn, run_fnkS F hr hb (hx σ) I2 .nil rz q2⟩
end
/-- three parameters, the first given last -/
def roG {α : Type} (us ws : List α) : List α := match us, ws with
  | [], [a, b, c] => [c, a, b]
  | _, _ => []
/-- three parameters in their order -/
def inG {α : Type} (us ws : List α) : List α := match us, ws with
  | [], [a, b, c] => [a, b, c]
  | _, _ => []
theorem kb_rot3 {K : PySem.W.Frag} {fd : FuncData} {a b c : Str} (h : ∀ x y z : Value, bindArgs fd ⟨[], [(b, x), (c, y), (a, z)]⟩ = pure [(a, z), (b, x), (c, y)]) : KBinds K fd [a, b, c] [b, c, a] roG roG := by
  constructor
  · intro s us ws _ hl
    match us, ws, hl with
    | [], [x, y, z], _ => exact BindsTo.of_eq (h x y z)
    | [], [], hl => exact absurd hl (by simp [roG])
    | [], [_], hl => exact absurd hl (by simp [roG])
    | [], [_, _], hl => exact absurd hl (by simp [roG])
    | [], _ :: _ :: _ :: _ :: _, hl => exact absurd hl (by simp [roG])
    | _ :: _, _, hl => exact absurd hl (by simp [roG])
  · intro vs us zs ws r rz
    cases r with
    | cons _ _ => exact .nil
    | nil =>
      cases rz with
      | nil => exact .nil
      | cons a r =>
        cases r with
        | nil => exact .nil
        | cons b r =>
          cases r with
          | nil => exact .nil
          | cons c r =>
            cases r with
            | nil => exact .cons c (.cons a (.cons b .nil))
            | cons _ _ => exact .nil
theorem kb_in3 {K : PySem.W.Frag} {fd : FuncData} {a b c : Str} (h : ∀ x y z : Value, bindArgs fd ⟨[], [(a, x), (b, y), (c, z)]⟩ = pure [(a, x), (b, y), (c, z)]) : KBinds K fd [a, b, c] [a, b, c] inG inG := by
  constructor
  · intro s us ws _ hl
    match us, ws, hl with
    | [], [x, y, z], _ => exact BindsTo.of_eq (h x y z)
    | [], [], hl => exact absurd hl (by simp [inG])
    | [], [_], hl => exact absurd hl (by simp [inG])
    | [], [_, _], hl => exact absurd hl (by simp [inG])
    | [], _ :: _ :: _ :: _ :: _, hl => exact absurd hl (by simp [inG])
    | _ :: _, _, hl => exact absurd hl (by simp [inG])
  · intro vs us zs ws r rz
    cases r with
    | cons _ _ => exact .nil
    | nil =>
      cases rz with
      | nil => exact .nil
      | cons a r =>
        cases r with
        | nil => exact .nil
        | cons b r =>
          cases r with
          | nil => exact .nil
          | cons c r =>
            cases r with
            | nil => exact .cons a (.cons b (.cons c .nil))
            | cons _ _ => exact .nil
end Ka
namespace Kb
open PySem PySem.Spec PyProof.Rows L2
/-! ### what stands when the box changes -/
theorem get_box {H L : Hp} {x c : Addr} {o : HO} (b : Box H x) (k : But x H L) (h : H c = some o) (no : ∀ b0 b1 : Int, o ≠ .lst [.int b0, .int b1]) : L c = some o := by
  refine k _ _ (fun e => ?_) h
  obtain ⟨b0, b1, hx⟩ := b
  rw [e, hx] at h
  exact no b0 b1 (Option.some.inj h).symm
theorem CsAt.box {K : PySem.W.Frag} {H L : Hp} {x a : Addr} {cs : List CA} (b : Box H x) (k : But x H L) (h : CsAt K H a cs) : CsAt K L a cs :=
  ⟨sqT_box b k h.1, fun c hc => ⟨sqT_box b k (h.2 c hc).t, sqT_box b k (h.2 c hc).e, sqT_box b k (h.2 c hc).s, fun p hp => get_box b k ((h.2 c hc).p p hp) (fun _ _ e => nomatch e)⟩⟩
theorem BookAt.box {K : PySem.W.Frag} {C : Addr} {H L : Hp} {x p a : Addr} {cs : List CA} (b : Box H x) (k : But x H L) (h : BookAt K C H p a cs) : BookAt K C L p a cs := by
  obtain ⟨dx, fs, P1, S1, E1, L1, S, h1, h2, h3, h4, h5, h6, h7, h8, h9, M, m1, m2, m3, m4⟩ := h
  have nn : ∀ {c : Addr} {o : HO}, H c = some o → (∀ b0 b1 : Int, o ≠ .lst [.int b0, .int b1]) → L c = some o := fun e no => get_box b k e no
  exact ⟨dx, fs, P1, S1, E1, L1, S, nn h1 (fun _ _ e => nomatch e), h2, h3.box b k, h4, nn h5 (fun _ _ e => nomatch e), nn h6 (fun _ _ e => nomatch e), fun t ht => nn (h7 t ht) (fun _ _ e => nomatch e), h8, nn h9 (fun _ _ e => nomatch e), M, nn m1 (fun _ _ e => nomatch e), m2, fun t ht => nn (m3 t ht) (fun _ _ e => nomatch e), m4⟩
theorem DealAt.box {K : PySem.W.Frag} {H L : Hp} {x a : Addr} {ps : List DP} (b : Box H x) (k : But x H L) (h : DealAt K H a ps) : DealAt K L a ps :=
  ⟨sqT_box b k h.1, fun p hp => get_box b k (h.2 p hp) (fun _ _ e => nomatch e)⟩
theorem rd_box {H L : Hp} {x d : Addr} {kv : List (List L2.Key × V)} (b : Box H x) (k : But x H L) (h : Rd H d (.dT kv)) : Rd L d (.dT kv) := by
  rcases h with h | ⟨o, h⟩
  · exact .inl (get_box b k h (fun _ _ e => nomatch e))
  · exact .inr ⟨o, get_box b k h (fun _ _ e => nomatch e)⟩
theorem RowsAt.box {K : PySem.W.Frag} {H L : Hp} {x d : Addr} {R : List RA} (b : Box H x) (k : But x H L) (h : RowsAt K H d R) : RowsAt K L d R :=
  ⟨rd_box b k h.d, fun t ht => sqT_box b k (h.r t ht)⟩
/-- three parameters, the last given first -/
def rlG {α : Type} (us ws : List α) : List α := match us, ws with
  | [], [a, b, c] => [b, c, a]
  | _, _ => []
theorem kb_rol3 {K : PySem.W.Frag} {fd : FuncData} {a b c : Str} (h : ∀ x y z : Value, bindArgs fd ⟨[], [(c, x), (a, y), (b, z)]⟩ = pure [(a, y), (b, z), (c, x)]) : KBinds K fd [a, b, c] [c, a, b] rlG rlG := by
  constructor
  · intro s us ws _ hl
    match us, ws, hl with
    | [], [x, y, z], _ => exact BindsTo.of_eq (h x y z)
    | [], [], hl => exact absurd hl (by simp [rlG])
    | [], [_], hl => exact absurd hl (by simp [rlG])
    | [], [_, _], hl => exact absurd hl (by simp [rlG])
    | [], _ :: _ :: _ :: _ :: _, hl => exact absurd hl (by simp [rlG])
    | _ :: _, _, hl => exact absurd hl (by simp [rlG])
  · intro vs us zs ws r rz
    cases r with
    | cons _ _ => exact .nil
    | nil =>
      cases rz with
      | nil => exact .nil
      | cons a r =>
        cases r with
        | nil => exact .nil
        | cons b r =>
          cases r with
          | nil => exact .nil
          | cons c r =>
            cases r with
            | nil => exact .cons b (.cons c (.cons a .nil))
            | cons _ _ => exact .nil
/-! ### tables made out of pairs -/
theorem mergeT_new : ∀ (kvs : List Ka.KBV) (acc : List (List L2.Key × V)), (acc.map (·.1) ++ kvs.map (·.1)).Nodup → kvs.foldl (fun acc t => putK acc t.1 t.2.2) acc = acc ++ kvs.map fun t => (t.1, t.2.2)
  | [], acc, _ => by rw [List.map_nil, List.append_nil]; rfl
  | t :: kvs, acc, nd => by
    have e : putK acc t.1 t.2.2 = acc ++ [(t.1, t.2.2)] := by
      refine putK_new (fun z => ?_)
      rw [List.map_cons, List.nodup_append] at nd
      exact nd.2.2 _ z _ List.mem_cons_self rfl
    rw [List.foldl_cons, e, mergeT_new kvs (acc ++ [(t.1, t.2.2)]) (by rw [List.map_append]; simpa using nd), List.append_assoc]
    rfl
/-- rows out of stages: the table that dict() makes of them -/
def putAll : List RA → List (Stg × (Addr × List Str)) → List RA
  | R, [] => R
  | R, t :: ts => putAll (putR R t.1 t.2) ts
theorem putAll_kv : ∀ (ts : List (Addr × Stg × (Addr × List Str))) (R : List RA), (ts.map fun t => ((stK t.2.1, t.1, V.ref t.2.2.1) : Ka.KBV)).foldl (fun acc t => putK acc t.1 t.2.2) (rowKV R) = rowKV (putAll R (ts.map (·.2)))
  | [], R => rfl
  | t :: ts, R => by
    rw [List.map_cons, List.foldl_cons, List.map_cons]
    dsimp only
    rw [putR_kv, putAll_kv ts (putR R t.2.1 t.2.2)]
    rfl
end Kb
namespace Kb
open PySem PySem.Spec PyProof.Rows L2
/-! ### tables that are kept and handed -/
theorem putAll_ok {R0 : List RA} : ∀ (ts : List (Stg × (Addr × List Str))) (R : List RA), (R.map (·.1)).Nodup → (∀ t ∈ R, rowA R0 t.1 = some t.2) → (∀ t ∈ ts, rowA R0 t.1 = some t.2) →
    ((putAll R ts).map (·.1)).Nodup ∧ (∀ t ∈ putAll R ts, rowA R0 t.1 = some t.2) ∧ (∀ x, (x ∈ R.map (·.1) ∨ x ∈ ts.map (·.1)) ↔ x ∈ (putAll R ts).map (·.1))
  | [], R, nd, h, _ => ⟨nd, h, fun x => ⟨fun z => z.elim id (fun z => by cases z), .inl⟩⟩
  | t :: ts, R, nd, h, ht => by
    have nd2 : ((putR R t.1 t.2).map (·.1)).Nodup := by
      rw [putR_keys]
      split
      · exact nd
      · rename_i hn
        rw [List.nodup_append]
        refine ⟨nd, by simp, fun a ha b hb e => ?_⟩
        rw [List.mem_singleton.mp hb] at e
        exact hn (by rw [← e]; exact ha)
    have h2 : ∀ u ∈ putR R t.1 t.2, rowA R0 u.1 = some u.2 := fun u hu => by
      rcases putR_mem hu with e | e
      · rw [e]
        exact ht t List.mem_cons_self
      · exact h u e
    obtain ⟨a, b, c⟩ := putAll_ok ts (putR R t.1 t.2) nd2 h2 fun u hu => ht u (List.mem_cons_of_mem _ hu)
    refine ⟨a, b, fun x => ?_⟩
    rw [show putAll R (t :: ts) = putAll (putR R t.1 t.2) ts from rfl, ← c x, putR_keys, List.map_cons, List.mem_cons]
    split
    · rename_i hm
      constructor
      · rintro (z | z | z)
        · exact .inl z
        · exact .inl (by rw [z]; exact hm)
        · exact .inr z
      · rintro (z | z)
        · exact .inl z
        · exact .inr (.inr z)
    · rw [List.mem_append, List.mem_singleton]
      constructor
      · rintro (z | z | z)
        · exact .inl (.inl z)
        · exact .inl (.inr z)
        · exact .inr z
      · rintro ((z | z) | z)
        · exact .inl z
        · exact .inr (.inl z)
        · exact .inr (.inr z)
/-- a table that the law keeps -/
structure Kept (cs : List CA) (us : List Str) (n : Nat) (R : List RA) : Prop where
  nd : (R.map (·.1)).Nodup
  key : ∀ t ∈ R, t.1 ∈ stagesOf cs
  us : ∀ t ∈ R, ∀ z ∈ t.2.2, z ∈ us
  len : ∀ t ∈ R, t.2.2.length ≤ n
theorem Kept.size {cs : List CA} {us : List Str} {n : Nat} {R : List RA} (h : Kept cs us n R) : R.length ≤ nStages cs := by
  have := nodup_len h.nd (m := stagesOf cs) fun x hx => by
    obtain ⟨t, ht, rfl⟩ := List.mem_map.mp hx
    exact h.key t ht
  rw [List.length_map, stagesOf_len] at this
  exact this
theorem desk_us : ∀ {ps : List DP} {z : Str}, z ∈ ps.map (·.2.1) → (deskOf ps z).isSome = true
  | p :: ps, z, h => by
    unfold deskOf
    by_cases e : p.2.1 = z
    · rw [if_pos e]
      rfl
    · rw [if_neg e]
      rcases List.mem_cons.mp h with w | w
      · exact absurd w.symm e
      · exact desk_us w
theorem Kept.rw {cs : List CA} {us : List Str} {n : Nat} {R : List RA} {ps : List DP} (h : Kept cs us n R) (hn : n ≤ 40000) (n15 : nStages cs ≤ 15) (hu : ∀ z ∈ us, isName z = true) (hp : ps.map (·.2.1) = us) (hd : ∀ z ∈ dns cs, z ∈ us) : RwOk cs ps R := by
  refine ⟨fun t ht => ?_, fun t ht => Nat.le_trans (h.len t ht) hn, fun t ht z hz => hu z (h.us t ht z hz), fun t ht z hz => desk_us (by rw [hp]; exact h.us t ht z hz), by have := h.size; omega, fun c mc s ms hcf => desk_us (by rw [hp]; exact hd _ (dn_of mc ms hcf))⟩
  obtain ⟨c, mc, e1, e2⟩ := mem_stagesOf.mp (h.key t ht)
  exact ⟨c, mc, e1, e2⟩
theorem Kept.put {cs : List CA} {us : List Str} {n : Nat} {R : List RA} (h : Kept cs us n R) {x : Stg} (hx : hasR R x = true) {a : Addr} {row : List Str} (hr : ∀ z ∈ row, z ∈ us) (hl : row.length ≤ n + 1) : Kept cs us (n + 1) (putR R x (a, row)) := by
  have hk := hasR_iff.mp hx
  refine ⟨by rw [putR_keys, if_pos hk]; exact h.nd, fun t ht => ?_, fun t ht => ?_, fun t ht => ?_⟩
  · rcases putR_mem ht with e | e
    · rw [e]
      obtain ⟨u, hu, e2⟩ := List.mem_map.mp hk
      rw [← e2]
      exact h.key u hu
    · exact h.key t e
  · rcases putR_mem ht with e | e
    · rw [e]
      exact hr
    · exact h.us t e
  · rcases putR_mem ht with e | e
    · rw [e]
      exact hl
    · exact Nat.le_succ_of_le (h.len t e)
theorem Kept.of {cs : List CA} {us : List Str} {n : Nat} {R0 R : List RA} (h : Kept cs us n R0) (nd : (R.map (·.1)).Nodup) (hr : ∀ t ∈ R, rowA R0 t.1 = some t.2) : Kept cs us n R :=
  ⟨nd, fun t ht => h.key (t.1, t.2) (rowA_mem (hr t ht)), fun t ht => h.us (t.1, t.2) (rowA_mem (hr t ht)), fun t ht => h.len (t.1, t.2) (rowA_mem (hr t ht))⟩
/-- the same rows -/
theorem rowA_eq {R R' : List RA} (nd : (R.map (·.1)).Nodup) (hr : ∀ t ∈ R', rowA R t.1 = some t.2) (hk : ∀ x, x ∈ R'.map (·.1) ↔ x ∈ R.map (·.1)) (x : Stg) : rowA R' x = rowA R x := by
  cases e : rowA R' x with
  | some y => exact (hr (x, y) (rowA_mem e)).symm
  | none =>
    have h1 := rowA_has R' x
    rw [e] at h1
    have h2 : hasR R' x ≠ true := fun z => by rw [z] at h1; cases h1
    have h3 : x ∉ R.map (·.1) := fun z => h2 (hasR_iff.mpr ((hk x).mpr z))
    cases e2 : rowA R x with
    | none => rfl
    | some y =>
      exact absurd (List.mem_map.mpr ⟨(x, y), rowA_mem e2, rfl⟩) h3
theorem perm_nd {α : Type} [DecidableEq α] {l m : List α} (hl : l.Nodup) (hm : m.Nodup) (h : ∀ x, x ∈ l ↔ x ∈ m) : l.Perm m := (List.perm_ext_iff_of_nodup hl hm).mpr h
/-- a stage with its row -/
abbrev TQ := Addr × Addr × Stg × (Addr × List Str)
def tqK (T : List TQ) : List Ka.KBV := T.map fun t => (stK t.2.2.1, t.2.1, V.ref t.2.2.2.1)
def tqR (T : List TQ) : List RA := putAll [] (T.map fun t => t.2.2)
theorem tq_merge (T : List TQ) : Ka.mergeT (tqK T) = rowKV (tqR T) := by
  have := putAll_kv (T.map fun t => (t.2.1, t.2.2)) []
  rw [List.map_map, List.map_map] at this
  exact this
theorem tq_paired {K : PySem.W.Frag} {H : Hp} : ∀ {T : List TQ}, (∀ t ∈ T, H t.1 = some (.tup [.ref t.2.1, .ref t.2.2.2.1]) ∧ H t.2.1 = some (.tup (stV t.2.2.1))) → Paired (Ka.PrT K H) (T.map (·.1)) (tqK T)
  | [], _ => .nil
  | t :: T, h => .cons ⟨sqT_new (h t List.mem_cons_self).1, (h t List.mem_cons_self).2⟩ (tq_paired fun u hu => h u (List.mem_cons_of_mem _ hu))
end Kb
namespace Kb
open PySem PySem.Spec PyProof.Rows L2
/-! ### looks as data -/
def lookD : Option (Stg × Int) → PyData
  | none => .none
  | some r => .tuple [stD r.1, .int r.2]
theorem look_dp {K : PySem.W.Frag} {H : Hp} {v : V} {o : Option (Stg × Int)} (h : LookV H v o) : Dp K H v (lookD o) := by
  cases o with
  | none =>
    cases h
    exact .non
  | some r =>
    obtain ⟨q, b, rfl, h1, h2⟩ := h
    exact .tup (sqT_new h1) (.cons (dpStD h2) (.cons (.int _) .nil))
theorem LookV.mono {H H' : Hp} {v : V} {o : Option (Stg × Int)} (s : Same H H') (h : LookV H v o) : LookV H' v o := by
  cases o with
  | none => exact h
  | some r =>
    obtain ⟨q, b, e, h1, h2⟩ := h
    exact ⟨q, b, e, s _ _ h1, s _ _ h2⟩
/-- the third course has a deed -/
def hasDo (t : Str) : Bool := match par t with
  | none => false
  | some r => r.2.1.any fun p => !p.2.1
theorem third_has : ∀ k : Fin 6, ((menuL k.1)[2]?.map hasDo) = some true := by decide +kernel
theorem third_do {k : Nat} (hk : k < 6) {t0 t1 t2 : Str} (e : menuL k = [t0, t1, t2]) {r2 : P3} (tx : TxOk t2 r2) {ds cl : List Str} {c0 c1 c2 : CA} (rd : Read ds cl c2 r2) : ∃ z, z ∈ dns [c0, c1, c2] := by
  have h := third_has ⟨k, hk⟩
  dsimp only at h
  rw [e] at h
  have h : hasDo t2 = true := Option.some.inj h
  unfold hasDo par at h
  rw [tx.pr] at h
  dsimp only at h
  obtain ⟨p, hp, hc⟩ := List.any_eq_true.mp h
  have hm : toStp ds cl p ∈ c2.ss.map (·.2) := by
    rw [rd.ss]
    exact List.mem_map.mpr ⟨p, hp, rfl⟩
  obtain ⟨s, hs, es⟩ := List.mem_map.mp hm
  refine ⟨s.2.nm, dn_of (c := c2) (by simp) hs ?_⟩
  rw [es]
  show p.2.1 = false
  simpa using hc
theorem look_sh {o : Option (Stg × Int)} (h : ∀ r, o = some r → isName r.1.1 = true) : SeqAt.shaped (lookD o) = true := by
  cases o with
  | none => decide +kernel
  | some r =>
    have h1 := SeqAt.canLay_of_shaped (shStD1 (h r rfl))
    refine shaped_of ?_ ?_
    · unfold lookD
      dsimp only
      rw [PyData.canLay0, PyData.canLayAll0, PyData.canLayAll0, PyData.canLayAll0, h1, PyData.canLay0]
      rfl
    · simp [lookD, stD, PyData.depth, PyData.depthAll]
theorem looksL_mem {ps : List DP} {ks : List Str} {R : List RA} {cs : List CA} : ∀ {xs : List Stg} {r : Stg × Int}, looksL ps ks R cs xs = some r → r.1 ∈ xs
  | [], r, h => by cases h
  | x :: xs, r, h => by
    unfold looksL at h
    cases e1 : crsOf cs x.1 with
    | none =>
      rw [e1] at h
      exact List.mem_cons_of_mem _ (looksL_mem h)
    | some c =>
      rw [e1] at h
      cases e2 : rowA R x with
      | none =>
        rw [e2] at h
        exact List.mem_cons_of_mem _ (looksL_mem h)
      | some y =>
        rw [e2] at h
        dsimp only at h
        by_cases hh : x.2 ∈ c.es ∧ y.2 ≠ []
        · rw [if_pos hh] at h
          cases h
          exact List.mem_cons_self
        · rw [if_neg hh] at h
          cases e3 : badAt ps ks R c y.2 (offs c x.2) with
          | some j =>
            rw [e3] at h
            cases h
            exact List.mem_cons_self
          | none =>
            rw [e3] at h
            exact List.mem_cons_of_mem _ (looksL_mem h)
theorem desks_ex (ps : List DP) : ∃ ks, IsDesks ps ks := ⟨(uniq (ps.map (·.2.2))).mergeSort Ka.leKI, List.mergeSort_perm _ _, Ka.leKI_sorted _⟩
theorem zip_keys : ∀ (rs : List Ka.KR) (X : List Stg), rs.map (·.2) = X.map stK → ∃ L : List (Addr × Stg), L.map (fun t => ((t.1, stK t.2) : Ka.KR)) = rs ∧ L.map (·.2) = X
  | [], [], _ => ⟨[], rfl, rfl⟩
  | [], _ :: _, h => by cases h
  | _ :: _, [], h => by cases h
  | r :: rs, x :: X, h => by
    rw [List.map_cons, List.map_cons] at h
    injection h with h1 h2
    obtain ⟨L, e1, e2⟩ := zip_keys rs X h2
    exact ⟨(r.1, x) :: L, by rw [List.map_cons, e1, ← h1], by rw [List.map_cons, e2]⟩
theorem withinB_nil (ps : List DP) (ks row : List Str) : withinB ps [] row ks = true := by
  unfold withinB
  rw [List.all_eq_true]
  intro k _
  have : partL ps k [] = [] := rfl
  rw [this]
  cases partL ps k row with
  | nil => decide
  | cons z zs => rfl
end Kb
namespace Kb
open PySem PySem.Spec PyProof.Rows L2
/-! ### the deeds of all courses; the texts; what a step brings -/
theorem cr_setL2 {X : Cx} {P : Program} {w : World} (hp : X.prog = P) (hw : X.w = w) (hc : X.calm = true) : CallR X (.type "set") (Ka.rSetL X.K P w) := by
  subst hp hw
  exact Ka.cr_setL hc
theorem cr_sortM2 {X : Cx} {P : Program} {w : World} (hp : X.prog = P) (hw : X.w = w) (hc : X.calm = true) : CallR X (.builtin "sorted") (Ka.rSortM P w) := by
  subst hp hw
  exact Ka.cr_sortM hc
section
variable {P : Program} {w : World} {K : PySem.W.Frag} {mg : Str → Option Value} {base : Heap}
def spLawUsed (K : PySem.W.Frag) : Sp := fun vs H Q _ => ∃ (a : Addr) (cs : List CA), vs = [.ref a] ∧ CsAt K H a cs ∧ (dns cs).length < 64 ∧ (∀ c ∈ cs, c.ss.length ≤ 10000) ∧ ∀ H' q ds, Same H H' → H q = none → H' q = some (.lst (ds.map V.str)) → sortedS ds = true → ds.Nodup → (∀ x, x ∈ ds ↔ x ∈ dns cs) → Q (.ref q) H'
abbrev nLu : List Str := ["courses", "found", "course", "step"]
theorem scLu : FnScope nLu ["courses"] (defScope sLawUsed) := ⟨rfl, rfl, rfl, by decide +kernel, rfl, by decide +kernel, by decide +kernel⟩
theorem ok_lawused {f : Addr} {fd : FuncData} (F : Fun K "_law_used" "_law_used" sLawUsed f fd) (N : Nones mg) (nset : mg "set" = none) : FnOk P w K mg base CX0 1 f fd ["courses"] (spLawUsed K) := by
  refine F.ok scLu (fun vs H Q E h => ?_) (fun cdv A outer s H vs Q E hr h => ?_)
  · obtain ⟨a, cs, rfl, _⟩ := h
    rfl
  · obtain ⟨a, cs, rfl, hC, lz, hsz, q⟩ := h
    refine ⟨_, pss_cons (ps_set (i := 1) scLu.nd rfl (Or.inl rfl) (pe_lst pa_nil))
      (pss_cons (ps_for PassesOwn.never rfl (pi_tup (pv 0)) (pg_name (i := 2) scLu.nd rfl (Or.inl rfl))
        (pss_one (ps_expr (pe_bm PySem.F.plainAttrs_list PySem.F.slot_list_extend PySem.F.type_list_extend mt_extend (pv 1) (pa_cons (pe_lc (own := [("step", 3)]) (g := gName 3) rfl scLu.nd (pi_tup (pe_ix ix_tup (pv 2) pe_int (fun _ _ => rfl))) (blkOk_by (own := [("step", 3)]) (N := nLu) (sc := defScope sLawUsed) (by decide +kernel)) (fun _ _ _ _ _ => (pg_name (i := 3) scLu.nd rfl (Or.inl rfl))) (fun _ _ _ _ _ => pts_one (pt_cmpR op_eq (pe_ix (ixT_at (K := K) rfl) (pv 3) pe_int (fun _ _ => rfl)) pe_str (nomark _))) (fun _ _ _ _ _ => (pe_ix (ixT_at (K := K) rfl) (pv 3) pe_int (fun _ _ => rfl)))) pa_nil)))))
      (pss_one (ps_ret (pe_callB (cr_sortM2 (P := P) (w := w) rfl rfl rfl) (by rfl) N.sorted (by decide +kernel) (pa_cons (pe_callTy (cr_setL2 (P := P) (w := w) rfl rfl rfl) (by rfl) nset (by decide +kernel) (pa_cons (pv 1) pa_nil)) pa_nil))))), ?_⟩
    refine ⟨smallE (by show 0 ≤ 1000000; decide), fun q1 n1 => ?_⟩
    refine ⟨_, rfl, a, rfl, ⟨_, Same.sqT (same_new n1) hC.1⟩, ?_⟩
    refine for_it (walk_tup (K := K) (a := a) (xs := cs.map fun c => V.ref c.a)) (fun i σ Z => ∃ (x2 x3 : Option V), σ = [some (.ref a), some (.ref q1), x2, x3] ∧ Same H Z ∧ Z q1 = some (.lst ((dns (cs.take i)).map V.str))) ⟨none, none, rfl, same_new n1, upd_same⟩ (fun i σ Z _ h => ?_) (fun i x σ Z Z' hi h y => ?_) (fun σ Z h => ?_)
    · obtain ⟨_, _, _, sZ, _⟩ := h
      exact Same.sqT sZ hC.1
    · obtain ⟨rfl, hy⟩ := y
      obtain ⟨c, hc, rfl⟩ := get_map hy
      obtain ⟨x2, x3, rfl, sZ, eZ⟩ := h
      have mc := List.mem_of_getElem? hc
      have cc := (hC.2 c mc).mono sZ
      refine ⟨_, rfl, Or.inl ⟨rfl, _, sqL_new eZ⟩, .ref c.a, rfl, c.a, _, _, .ref c.sa, rfl, rfl, cc.t, rfl, c.sa, rfl, ⟨_, cc.s⟩, fun D nD => ?_⟩
      have lle := dns_le (j := c.ss.length) hc
      rw [List.take_length, List.length_append] at lle
      refine lc_it (walk_tup (K := K) (a := c.sa) (xs := c.ss.map fun p => V.ref p.1)) (fun j G => Same Z' G ∧ G D = some (.lst ((dn (c.ss.take j)).map V.str))) ⟨same_new nD, upd_same⟩ (fun _ _ _ h => Same.sqT h.1 cc.s) (fun j x G G' hj h y => ?_) (fun G h => ?_)
      · obtain ⟨rfl, hy⟩ := y
        obtain ⟨p, hp, rfl⟩ := get_map hy
        obtain ⟨sG, eG⟩ := h
        have hst := sG _ _ (cc.p p (List.mem_of_getElem? hp))
        refine ⟨rfl, .ref p.1, rfl, p.1, _, _, .str (kindS p.2.call), rfl, rfl, sqT_new hst, rfl, rfl, _, rfl, ?_⟩
        rw [kind_do]
        have hs := dn_snoc hp
        refine ite2 (fun e => ?_) (fun e => ?_)
        · have e : p.2.call = false := by simpa using e
          refine ⟨_, rfl, p.1, _, _, .str p.2.nm, rfl, rfl, sqT_new hst, rfl, _, eG, ?_, ?_, ?_⟩
          · have := dns_le (j := j) hc
            rw [List.length_append] at this
            rw [List.length_map]
            exact small (by omega)
          · intro b o eb
            rw [upd_ne (ne_of_none eb nD)]
            exact sG _ _ eb
          · rw [upd_same, hs, e, if_neg (by decide), List.map_append]
            rfl
        · have e : p.2.call = true := by simpa using e
          refine ⟨sG, ?_⟩
          rw [hs, e, if_pos rfl, List.append_nil]
          exact eG
      · obtain ⟨sG, eG⟩ := h
        rw [List.length_map, List.take_length] at eG
        refine ⟨q1, D, _, _, rfl, rfl, sG _ _ eZ, eG, by rw [List.length_map, List.length_map]; exact smallE (by omega), ?_⟩
        refine ⟨_, _, rfl, fun b o eb => ?_, ?_⟩
        · rw [upd_ne (ne_of_none eb n1)]
          exact sG _ _ (sZ _ _ eb)
        · rw [upd_same, dns_snoc hc, List.map_append]
    · obtain ⟨x2, x3, rfl, sZ, eZ⟩ := h
      rw [List.length_map, List.take_length] at eZ
      refine ⟨.ref q1, rfl, q1, dns cs, rfl, sqL_new eZ, lz, fun p1 np1 => ?_⟩
      refine ⟨p1, dns cs, rfl, upd_same, lz, fun ys p2 so nd me np2 => ?_⟩
      exact q _ p2 ys ((sZ.trans (same_new np1)).trans (same_new np2)) ((sZ.trans (same_new np1)).free np2) upd_same so nd me
end
end Kb
namespace Kb
open PySem PySem.Spec PyProof.Rows L2
theorem ls_cutInit (z : Str) : ls (cutS z none (some (-1))) = (ls z).dropLast := by
  unfold cutS ls
  show ((z.cps.toList.drop _).take _).toArray.toList = _
  rw [List.toList_toArray, HT.sIx_none, List.drop_zero, Nat.sub_zero, List.dropLast_eq_take]
  congr 1
  show (if (-1 : Int) < 0 then ((-1 : Int) + (z.length : Int)).toNat else min (-1 : Int).toNat z.length) = _
  rw [if_pos (by decide), ls_len]
  unfold ls
  omega
theorem ls_cut2 (z : Str) (a b : Nat) : (ls (cutS z (some (a : Int)) (some (b : Int)))).length ≤ (ls z).length - a ∧ ∀ c ∈ ls (cutS z (some (a : Int)) (some (b : Int))), c ∈ ls z := by
  unfold cutS ls
  show (((z.cps.toList.drop _).take _).toArray.toList).length ≤ _ ∧ ∀ c ∈ ((z.cps.toList.drop _).take _).toArray.toList, _
  rw [List.toList_toArray, HT.sIx_nat, HT.sIx_nat, ls_len]
  unfold ls
  refine ⟨?_, fun c hc => List.mem_of_mem_drop (List.mem_of_mem_take hc)⟩
  rw [List.length_take, List.length_drop]
  omega
section
variable {P : Program} {w : World} {K : PySem.W.Frag} {mg : Str → Option Value} {base : Heap}
abbrev nNn : List Str := ["box", "many", "letters", "found", "turn", "step", "name", "place"]
theorem scNn : FnScope nNn ["box", "many"] (defScope sNames) := ⟨rfl, rfl, rfl, by decide +kernel, rfl, by decide +kernel, by decide +kernel⟩
def spNames : Sp := fun vs H Q _ => ∃ (x : Addr) (n : Nat), vs = [.ref x, .int (n : Nat)] ∧ Box H x ∧ n ≤ 20 ∧ ∀ (p : Addr) (ns : List Str) H', ns.length = n → ns.Nodup → (∀ z ∈ ns, isName z = true) → But x H H' → Box H' x → H p = none → H' p = some (.lst (ns.map V.str)) → Q (.ref p) H'
theorem ok_names {f fT fP : Addr} {fd fdT fdP : FuncData} (F : Fun K "_law_names" "_law_names" sNames f fd) (N : Nones mg) (G__law_take : FnOk P w K mg base CX0 1 fT fdT ["box", "many"] spTake) (C__law_take : CallC K mg "_law_take" ["box", "many"] fT fdT) (G__law_pick : FnOk P w K mg base CX0 2 fP fdP ["box", "some"] spPick) (C__law_pick : CallC K mg "_law_pick" ["box", "some"] fP fdP) : FnOk P w K mg base CX0 3 f fd ["box", "many"] spNames := by
  refine F.ok scNn (fun vs H Q E h => ?_) (fun cdv A outer s H vs Q E hr h => ?_)
  · obtain ⟨x, n, rfl, _⟩ := h
    rfl
  · obtain ⟨x, n, rfl, hx, hn, q⟩ := h
    refine ⟨_, pss_cons (ps_asg (pe_tup (pa_cons pe_str (pa_cons (pe_lst pa_nil) pa_nil))) (pg_tup rfl (pgs_cons (pg_name (i := 2) scNn.nd rfl (Or.inr rfl)) (pgs_cons (pg_name (i := 3) scNn.nd rfl (Or.inl rfl)) pgs_nil))))
      (pss_cons (ps_for PassesOwn.never rfl (pi_range1 (by rfl) N.range (pa_cons (pv 1) pa_nil)) (pg_name (i := 4) scNn.nd rfl (Or.inl rfl))
        (pss_cons (ps_if (PW.pt (pw_or (pt_cmpR (op_eqD hr.units) (pv 3) (pe_lst pa_nil) (nomark _)) (pw_or1 (pt_cmpR op_eq (pe_call G__law_take (hr.mono (by decide)) (by rfl) C__law_take.g C__law_take.kp C__law_take.b .nil pass0 (pa_cons (pv 0) (pa_cons pe_int pa_nil))) pe_int (nomark _))))) (pss_one (ps_set (i := 6) scNn.nd rfl (Or.inl rfl) (pe_join pe_str (pe_lc (own := [("place", 7)]) (g := gName 7) (tt := tYes) rfl scNn.nd (pi_range1 (by rfl) N.range (pa_cons (pe_op op_add pe_int (pe_call G__law_take (hr.mono (by decide)) (by rfl) C__law_take.g C__law_take.kp C__law_take.b .nil pass0 (pa_cons (pv 0) (pa_cons pe_int pa_nil)))) pa_nil)) (blkOk_by (own := [("place", 7)]) (N := nNn) (sc := defScope sNames) (by decide +kernel)) (fun _ _ _ _ _ => (pg_name (i := 7) scNn.nd rfl (Or.inl rfl))) (fun _ _ _ _ _ => pts_nil) (fun _ _ _ _ _ => (pe_ix ix_str (pv 2) (pe_call G__law_take (hr.mono (by decide)) (by rfl) C__law_take.g C__law_take.kp C__law_take.b .nil pass0 (pa_cons (pv 0) (pa_cons pe_int pa_nil))) (fun _ _ => rfl))))))) (pss_cons (ps_set (i := 6) scNn.nd rfl (Or.inl rfl) (pe_call G__law_pick (hr.mono (by decide)) (by rfl) C__law_pick.g C__law_pick.kp C__law_pick.b .nil pass0 (pa_cons (pv 0) (pa_cons (pv 3) pa_nil))))
          (pss_cons (ps_set (i := 7) scNn.nd rfl (Or.inl rfl) (pe_call G__law_take (hr.mono (by decide)) (by rfl) C__law_take.g C__law_take.kp C__law_take.b .nil pass0 (pa_cons (pv 0) (pa_cons (pe_callB call_len (by rfl) N.len PySem.boot_len (pa_cons (pv 6) pa_nil)) pa_nil))))
          (pss_one (ps_set (i := 6) scNn.nd rfl (Or.inl rfl) (pe_op op_add_str (pe_op op_add_str (pe_slice sl_str (pv 6) po_none (po_some (pv 7))) (pe_ix ix_str (pv 2) (pe_call G__law_take (hr.mono (by decide)) (by rfl) C__law_take.g C__law_take.kp C__law_take.b .nil pass0 (pa_cons (pv 0) (pa_cons pe_int pa_nil))) (fun _ _ => rfl))) (pe_slice sl_str (pv 6) (po_some (pe_op op_add (pv 7) pe_int)) (po_some (pe_op op_add pe_int (pe_call G__law_take (hr.mono (by decide)) (by rfl) C__law_take.g C__law_take.kp C__law_take.b .nil pass0 (pa_cons (pv 0) (pa_cons pe_int pa_nil))))))))))))
        (pss_cons (ps_for PassesOwn.never rfl (pi_range1 (by rfl) N.range (pa_cons (pv 1) pa_nil)) (pg_name (i := 5) scNn.nd rfl (Or.inl rfl))
          (pss_one (ps_if (pt_cmpR op_in_seq (pv 6) (pv 3) (by rfl)) (pss_one (ps_set (i := 6) scNn.nd rfl (Or.inl rfl) (pe_op op_add_str (pe_slice sl_str (pv 6) po_none (po_some (pe_un un_neg pe_int))) (pe_ix ix_str (pv 2) (pe_op op_mod (pe_op op_add (pe_bmS PySem.F.plainAttrs_str PySem.F.slot_str_index PySem.F.type_str_index (mt_indexX rfl takes0) (pv 2) (pa_cons (pe_ix ix_str (pv 6) (pe_un un_neg pe_int) (fun _ _ => rfl)) pa_nil)) pe_int) pe_int) (fun _ _ => rfl))))) pss_nil)))
        (pss_one (ps_expr (pe_bm PySem.F.plainAttrs_list PySem.F.slot_list_append PySem.F.type_list_append mt_append (pv 3) (pa_cons (pv 6) pa_nil)))))))
      (pss_one (ps_ret (pv 3)))), ?_⟩
    have s1000 : ∀ n, n ≤ 1000000 → n ≤ sizeLine := fun n h => smallE h
    have short : ∀ z : Str, isName z = true → z.length ≤ 5 := fun z h => by
      rw [ls_len]
      exact (name_iff.mp h).2.1
    refine ⟨Nat.zero_le _, fun o no => ⟨s1000 2 (by decide), fun tt ntt => ?_⟩⟩
    have s0 := same_new (o := .lst []) no
    have eo0 : upd H o (.lst []) o = some (.lst (([] : List Str).map V.str)) := upd_same
    have st := same_new (o := .tup [V.str (Str.ofString "abcdefghijklmnopqrstuvwxyz"), V.ref o]) ntt
    have ett : upd (upd H o (.lst [])) tt (.tup [V.str (Str.ofString "abcdefghijklmnopqrstuvwxyz"), V.ref o]) tt = some (.tup [V.str (Str.ofString "abcdefghijklmnopqrstuvwxyz"), V.ref o]) := upd_same
    have hox : o ≠ x := hx.ne no
    have eo0 := st _ _ eo0
    have s00 := s0.trans st
    have b0 := hx.mono s00
    generalize upd (upd H o (.lst [])) tt (.tup [V.str (Str.ofString "abcdefghijklmnopqrstuvwxyz"), V.ref o]) = H0 at ett eo0 s00 b0
    refine ⟨tt, _, rfl, sqT_new ett, rfl, _, _, rfl, _, _, rfl, rfl, ?_⟩
    refine ⟨.int (n : Nat), rfl, (n : Nat), rfl, by omega, by omega, ?_⟩
    refine for_range (lo := 0) (n := n) (fun i σ H' => ∃ d4 d5 d6 d7 ns, σ = [some (.ref x), some (.int (n : Nat)), some (.str abc), some (.ref o), d4, d5, d6, d7] ∧ But x H H' ∧ Box H' x ∧ H' o = some (.lst ((ns : List Str).map V.str)) ∧ ns.length = i ∧ ns.Nodup ∧ ∀ z ∈ ns, isName z = true)
      ⟨none, none, none, none, [], rfl, But.of s00, b0, eo0, rfl, List.nodup_nil, fun z hz => by cases hz⟩ ?_ ?_
    · rintro i σ H' hi ⟨d4, d5, d6, d7, ns, rfl, k, b, eo, hl, nd, nam⟩
      refine ⟨.ref o, rfl, Nat.zero_le _, fun l nl => ?_⟩
      have sl := same_new (o := .lst []) nl
      refine ⟨.list (ns.map .str), .list (([] : List Str).map .str), .lst (sqL_new (sl _ _ eo)) (dpRs ns), .lst (sqL_new upd_same) .nil, shStrs nam, shStrs (fun z hz => by cases hz), ?_⟩
      rw [PyData.eqv, eqvAll_map eq_str]
      refine ⟨_, rfl, ?_⟩
      have kk1 := k.trans (But.of sl)
      have eo1 := sl _ _ eo
      have b1 := b.mono sl
      generalize upd H' l (.lst []) = H1' at kk1 eo1 b1 ⊢
      generalize hX : tSeq (tFor (iRng1 (tCons (tVar 1) tNil)) (gName 5) _) _ _ = X
      have fin : ∀ (z : Str) (v4 d5 d7 : Option V) H2, isName z = true → But x H1' H2 → Box H2 x → X [some (.ref x), some (.int (n : Nat)), some (.str abc), some (.ref o), v4, d5, some (.str z), d7] H2 := fun z v4 d5 d7 H2 hz k2 b2 => by
        rw [← hX]
        have eo2 := k2 _ _ hox eo1
        refine ⟨.int (n : Nat), rfl, (n : Nat), rfl, by omega, by omega, ?_⟩
        refine for_range (lo := 0) (n := n) (fun s σ H3 => H3 = H2 ∧ ∃ z d5, σ = [some (.ref x), some (.int (n : Nat)), some (.str abc), some (.ref o), v4, d5, some (.str z), d7] ∧ isName z = true ∧ (z ∉ ns ∨ ∃ init c0, z = nm init c0 s ∧ init.length ≤ 4 ∧ (∀ c ∈ init, lowC c = true) ∧ ∀ k, k < s → nm init c0 k ∈ ns))
          ⟨rfl, z, d5, rfl, hz, .inr (by
            obtain ⟨init, c0, h1, h2, h3⟩ := nm_of hz
            exact ⟨init, c0, h1, h2, h3, fun k hk => absurd hk (Nat.not_lt_zero k)⟩)⟩ ?_ ?_
        · rintro s σ H3 hs ⟨rfl, z, d5, rfl, hz, way⟩
          refine ⟨.str z, rfl, .ref o, rfl, o, _, rfl, .inl (sqL_new eo2), rfl, flat_strs ns, ?_⟩
          rw [inV_str]
          refine ⟨_, rfl, ?_⟩
          by_cases hin : z ∈ ns
          · rw [decide_eq_true hin]
            obtain ⟨init, c0, rfl, h4, hlow, before⟩ : ∃ init c0, z = nm init c0 s ∧ init.length ≤ 4 ∧ (∀ c ∈ init, lowC c = true) ∧ ∀ k, k < s → nm init c0 k ∈ ns := by
              rcases way with h | h
              · exact absurd hin h
              · exact h
            have hsz : (nm init c0 s).length ≤ sizeLine := s1000 _ (Nat.le_trans (short _ hz) (by decide))
            have hat : atI (nm init c0 s).cps.toList (-1) = some (97 + (c0 + s) % 26) := by
              show atI (ls (nm init c0 s)) (-1) = _
              rw [nm_ls]
              exact atI_last _ _
            have hr26 : (c0 + s) % 26 < 26 := Nat.mod_lt _ (by decide)
            refine iteT ?_
            refine ⟨.str (nm init c0 s), rfl, 1, rfl, -1, rfl, nm init c0 s, rfl, hsz, ?_⟩
            refine ⟨.str abc, rfl, .str abc, rfl, rfl, .str (nm init c0 s), rfl, _, rfl, _, _, _, rfl, rfl, hsz, hat, ?_⟩
            have hidx := abc_index ⟨(c0 + s) % 26, hr26⟩
            refine ⟨abc, _, rfl, rfl, fun k hk => ?_, fun hno => ?_⟩
            · have ek : k = (c0 + s) % 26 := Option.some.inj (hk.symm.trans hidx)
              subst ek
              have hnext : (ls abc)[((c0 + s) % 26 + 1) % 26]? = some (97 + ((c0 + s) % 26 + 1) % 26) := abc_at ⟨((c0 + s) % 26 + 1) % 26, Nat.mod_lt _ (by decide)⟩
              have emod : ((((c0 + s) % 26 : Nat) : Int) + 1) % 26 = ((((c0 + s) % 26 + 1) % 26 : Nat) : Int) := by omega
              refine ⟨_, 1, rfl, rfl, _, 26, rfl, rfl, (by show (0 : Int) < 26; decide), _, (((((c0 + s) % 26 + 1) % 26 : Nat)) : Int), _, rfl, congrArg V.int emod, (by decide +kernel), atI_nat hnext, ?_⟩
              have ename : cutS (nm init c0 s) none (some (-1)) ++ (⟨#[97 + ((c0 + s) % 26 + 1) % 26]⟩ : Str) = nm init c0 (s + 1) := by
                refine ls_inj ?_
                rw [ls_add, ls_cutInit, nm_ls, nm_ls, List.dropLast_concat]
                show init ++ [97 + ((c0 + s) % 26 + 1) % 26] = _
                have : ((c0 + s) % 26 + 1) % 26 = (c0 + (s + 1)) % 26 := by omega
                rw [this]
              refine ⟨_, _, rfl, rfl, ?_, ?_⟩
              · rw [ls_len, ls_len, ls_cutInit, nm_ls, List.dropLast_concat]
                refine s1000 _ ?_
                show init.length + 1 ≤ 1000000
                omega
              · rw [ename]
                refine ⟨rfl, _, _, rfl, nm_name h4 hlow, .inr ⟨init, c0, rfl, h4, hlow, fun k hk => ?_⟩⟩
                by_cases e : k = s
                · rw [e]
                  exact hin
                · exact before k (by omega)
            · have := hno.symm.trans hidx
              cases this
          · rw [decide_eq_false hin]
            exact iteF ⟨rfl, z, _, rfl, hz, .inl hin⟩
        · rintro σ H3 ⟨rfl, z, d5, rfl, hz, way⟩
          have hout : z ∉ ns := by
            rcases way with h | ⟨init, c0, _, _, _, before⟩
            · exact h
            · have := nm_few (init := init) (c0 := c0) (n := n) (by omega) before
              omega
          refine ⟨.ref o, rfl, .inl ⟨rfl, _, sqL_new eo2⟩, .str z, rfl, o, _, _, rfl, rfl, eo2, ?_, ?_⟩
          · rw [List.length_map]
            exact small (by omega)
          · refine ⟨_, _, _, _, ns ++ [z], rfl, ?_, b2.upd hox, ?_, by rw [List.length_append, hl]; rfl, ?_, fun y hy => ?_⟩
            · intro c u hc e
              have hco : c ≠ o := ne_of_none e no
              rw [upd_ne hco]
              exact k2 _ _ hc (kk1 _ _ hc e)
            · rw [upd_same, List.map_append]
              rfl
            · rw [List.nodup_append]
              exact ⟨nd, by simp, fun a ha b hb e => by
                rw [List.mem_singleton.mp hb] at e
                exact hout (e ▸ ha)⟩
            · rcases List.mem_append.mp hy with h | h
              · exact nam y h
              · rw [List.mem_singleton.mp h]
                exact hz
      generalize hY : tAsg (tM1 _ _ _) (gName 6) _ = Y
      have fy : ∀ H2, But x H1' H2 → Box H2 x → Y [some (.ref x), some (.int (n : Nat)), some (.str abc), some (.ref o), some (.int (0 + (i : Int))), d5, d6, d7] H2 := fun H2 k2 b2 => by
        rw [← hY]
        refine ⟨⟨_, rfl⟩, .ref x, rfl, x, 5, rfl, b2, by decide, by decide, fun r H2' hr5 k2' b2' => ?_⟩
        have k2 := k2.trans k2'
        have b2 := b2'
        refine ⟨1, _, rfl, rfl, _, rfl, by omega, by omega, fun D nD => ?_⟩
        have en : ((1 : Int) + ((r : Nat) : Int)).toNat = r + 1 := by omega
        have hDx := b2.ne nD
        rw [en]
        refine lc_it (walk_r0 (n := r + 1)) (fun j H3 => But x H2' H3 ∧ Box H3 x ∧ ∃ zs : List Str, zs.length = j ∧ (∀ z ∈ zs, ∃ c, ls z = [c] ∧ lowC c = true) ∧ H3 D = some (.lst (zs.map V.str)))
          ⟨But.of (same_new nD), b2.upd hDx, [], rfl, (fun z hz => by cases hz), upd_same⟩ (fun _ _ _ _ => True.intro) (fun j y H3 H4 hj h3 yy => ?_) (fun H3 h3 => ?_)
        · obtain ⟨rfl, rfl⟩ := yy
          obtain ⟨k3, b3, zs, hzl, hzz, eD⟩ := h3
          refine ⟨rfl, .str abc, rfl, .ref x, rfl, x, 26, rfl, b3, by decide, by decide, fun c H5 hc k5 b5 => ?_⟩
          have hcl : lowC (97 + c) = true := by
            have := low_mk c
            rwa [Nat.mod_eq_of_lt hc] at this
          refine ⟨_, _, 97 + c, rfl, rfl, (by decide +kernel), atI_nat (abc_at ⟨c, hc⟩), ?_⟩
          refine ⟨_, k5 _ _ hDx eD, by rw [List.length_map]; exact small (by omega), ?_, b5.upd hDx, zs ++ [⟨#[97 + c]⟩], by rw [List.length_append, hzl]; rfl, fun z hz => ?_, by rw [upd_same, List.map_append]; rfl⟩
          · intro c' u hc' e
            by_cases hcD : c' = D
            · rw [hcD, nD] at e
              cases e
            · rw [upd_ne hcD]
              exact k5 _ _ hc' (k3 _ _ hc' e)
          · rcases List.mem_append.mp hz with h | h
            · exact hzz z h
            · rw [List.mem_singleton.mp h]
              exact ⟨97 + c, rfl, hcl⟩
        · obtain ⟨k3, b3, zs, hzl, hzz, eD⟩ := h3
          obtain ⟨j1, j2, j3⟩ := letters_join hzz
          refine ⟨_, D, zs, rfl, rfl, .inl (sqL_new eD), ?_, ?_⟩
          · rw [j3]
            have : (Str.ofString "").length = 0 := by decide +kernel
            rw [this]
            omega
          · refine fin _ _ _ _ H3 ?_ (k2.trans k3) b3
            rw [name_iff, ls_join, j1, hzl]
            exact ⟨by omega, by omega, j2⟩
      by_cases hns : ns = []
      · rw [decide_eq_true hns]
        exact iteT (iteT (fy _ But.refl b1))
      · rw [decide_eq_false hns]
        refine iteF ⟨.ref x, rfl, x, 3, rfl, b1, by decide, by decide, fun kind H1 hk3 k1 b1' => ⟨rfl, _, rfl, ite2 (fun c => fy _ k1 b1') (fun c => ?_)⟩⟩
        have eo1' := k1 _ _ hox eo1
        have hpos : 0 < (ns.map V.str).length := by
          rw [List.length_map]
          cases h : ns with
          | nil => exact absurd h hns
          | cons _ _ => exact Nat.succ_pos _
        refine ⟨.ref x, rfl, .ref o, rfl, x, o, _, rfl, b1', hox, .inl eo1', hpos, by rw [List.length_map]; omega, fun i2 v H2 hv k2 b2 => ?_⟩
        obtain ⟨z, hz, rfl⟩ := get_map hv
        have hzn := nam z (List.mem_of_getElem? hz)
        obtain ⟨z1, z2, z3⟩ := name_iff.mp hzn
        have zsz : z.length ≤ sizeLine := s1000 _ (Nat.le_trans (short z hzn) (by decide))
        refine ⟨.ref x, rfl, .str z, rfl, .str z, _, rfl, ⟨zsz, rfl⟩, x, z.length, rfl, b2, by rw [ls_len]; omega, by rw [ls_len]; omega, fun pl H3 hpl k3 b3 => ?_⟩
        rw [ls_len] at hpl
        have kk3 := (k1.trans k2).trans k3
        have epl : ((pl : Nat) : Int) + 1 = ((pl + 1 : Nat) : Int) := by omega
        refine ⟨.str z, rfl, .int (pl : Nat), rfl, _, rfl, z, rfl, zsz, ?_⟩
        refine ⟨.str abc, rfl, .ref x, rfl, x, 26, rfl, b3, by decide, by decide, fun c H4 hc k4 b4 => ?_⟩
        have hcl : lowC (97 + c) = true := by
          have := low_mk c
          rwa [Nat.mod_eq_of_lt hc] at this
        have e1 : (ls (cutS z none (some ((pl : Nat) : Int)))).length = pl := by rw [ls_cutTo, List.length_take]; omega
        have e3 : (⟨#[97 + c]⟩ : Str).length = 1 := rfl
        refine ⟨_, _, 97 + c, rfl, rfl, (by decide +kernel), atI_nat (abc_at ⟨c, hc⟩), ?_⟩
        dsimp only [tNoPart]
        refine ⟨_, _, rfl, rfl, ?_, .str z, rfl, .int (pl : Nat), rfl, _, 1, rfl, rfl, ((pl + 1 : Nat) : Int), congrArg V.int epl, .ref x, rfl, x, 2, rfl, b4, by decide, by decide, fun c2 H5 hc2 k5 b5 => ?_⟩
        · rw [ls_len, e1, e3]
          exact s1000 _ (by omega)
        have e4 : (4 : Int) + ((c2 : Nat) : Int) = ((4 + c2 : Nat) : Int) := by omega
        obtain ⟨u1, u2⟩ := ls_cut2 z (pl + 1) (4 + c2)
        refine ⟨4, _, rfl, rfl, ((4 + c2 : Nat) : Int), congrArg V.int e4, z, rfl, zsz, _, _, rfl, rfl, ?_, ?_⟩
        · rw [ls_len, ls_len, ls_add, List.length_append, e1]
          refine s1000 _ ?_
          show pl + 1 + _ ≤ 1000000
          omega
        · refine fin _ _ _ _ H5 ?_ ((kk3.trans k4).trans k5) b5
          rw [name_iff, ls_add, ls_add, List.length_append, List.length_append, e1]
          refine ⟨?_, ?_, fun d hd => ?_⟩
          · show 1 ≤ pl + 1 + _
            omega
          · show pl + 1 + _ ≤ 5
            omega
          · rcases List.mem_append.mp hd with h | h
            · rcases List.mem_append.mp h with h | h
              · rw [ls_cutTo] at h
                exact z3 d (List.mem_of_mem_take h)
              · have hd2 : d ∈ [97 + c] := h
                rw [List.mem_singleton.mp hd2]
                exact hcl
            · exact z3 d (u2 d h)
    · rintro σ H' ⟨d4, d5, d6, d7, ns, rfl, k, b, eo, hl, nd, nam⟩
      exact ⟨.ref o, rfl, q o ns H' hl nd nam k b no eo⟩
end
end Kb
namespace Kb
open PySem PySem.Spec PyProof.Rows L2
/-! ### the law -/
theorem paired_by {K : PySem.W.Frag} {H : Hp} : ∀ {ps : List DP}, (∀ p ∈ ps, H p.1 = some (.tup [.str p.2.1, .str p.2.2])) → Paired (fun (p : Addr) (kv : L2.Key × V) => SqT K H p [kV kv.1, kv.2]) (ps.map (·.1)) (byKV ps)
  | [], _ => .nil
  | p :: ps, h => .cons (sqT_new (h p List.mem_cons_self)) (paired_by fun q hq => h q (List.mem_cons_of_mem _ hq))
theorem byKV_nd {ps : List DP} (nd : (ps.map (·.2.1)).Nodup) : ((byKV ps).map (·.1)).Nodup := by
  rw [byKV_keys]
  unfold List.Nodup at nd ⊢
  rw [List.pairwise_map]
  exact nd.imp fun ne e => ne (Sum.inr.inj e)
theorem deskOf_self : ∀ {ps : List DP}, (ps.map (·.2.1)).Nodup → ∀ {p : DP}, p ∈ ps → deskOf ps p.2.1 = some p.2.2
  | q :: ps, nd, p, h => by
    rw [List.map_cons, List.nodup_cons] at nd
    unfold deskOf
    rcases List.mem_cons.mp h with e | e
    · rw [e, if_pos rfl]
    · rw [if_neg (fun z => nd.1 (by rw [z]; exact List.mem_map.mpr ⟨p, e, rfl⟩)), deskOf_self nd.2 e]
section
variable {P : Program} {w : World} {K : PySem.W.Frag} {mg : Str → Option Value} {base : Heap}
def spLaw (K : PySem.W.Frag) : Sp := fun vs H Q _ => ∃ (a : Addr) (ns : List Int), vs = [.ref a] ∧ SqL K H a (intV ns) ∧ ∀ H', Q (.bl true) H'
abbrev nLw2 : List Str := ["script", "k", "box", "menu", "names", "deeds", "calls", "courses", "rows", "used", "places", "deal", "pairs", "book", "kept", "turn", "handed", "stage", "at", "deed"]
theorem scLw2 : FnScope nLw2 ["script"] (defScope sLaw) := ⟨rfl, rfl, rfl, by decide +kernel, rfl, by decide +kernel, by decide +kernel⟩
theorem ok_law {f CB C fI fBx fTk fPk fNn fMe fCo fSh fUs fRe fLl fMi fBe fLo fWb : Addr} {fd fdI dBx dTk dPk dNn dMe dCo dSh dUs dRe dLl dMi dBe dLo dWb : FuncData} (F : Fun K "law" "law" sLaw f fd) (N : Nones mg) (ndict : mg "dict" = none)
    (B : BkC K mg CB) (M_Book : Mk K CB fI) (G_Book : FnOk P w K mg base CX0 8 fI fdI ["self", "courses"] (spBkInit K CB)) (b_Book : Binds K fdI ["self", "courses"] [])
    (G__law_box : FnOk P w K mg base CX0 1 fBx dBx ["script", "k"] (spBox K)) (C__law_box : CallC K mg "_law_box" ["script", "k"] fBx dBx)
    (G__law_take : FnOk P w K mg base CX0 1 fTk dTk ["box", "many"] spTake) (C__law_take : CallC K mg "_law_take" ["box", "many"] fTk dTk)
    (G__law_pick : FnOk P w K mg base CX0 2 fPk dPk ["box", "some"] spPick) (C__law_pick : CallC K mg "_law_pick" ["box", "some"] fPk dPk)
    (G__law_names : FnOk P w K mg base CX0 3 fNn dNn ["box", "many"] spNames) (C__law_names : CallC K mg "_law_names" ["box", "many"] fNn dNn)
    (G__law_menu : FnOk P w K mg base CX0 1 fMe dMe ["kind"] spLawMenu) (C__law_menu : CallC K mg "_law_menu" ["kind"] fMe dMe)
    (G__law_course : FnOk P w K mg base CX0 1 fCo dCo ["name", "text", "deeds", "calls"] (spLawCourse K)) (C__law_course : CallC K mg "_law_course" ["name", "text", "deeds", "calls"] fCo dCo)
    (G__law_shortest : FnOk P w K mg base CX0 3 fSh dSh ["courses"] (spLawShortest K)) (C__law_shortest : CallC K mg "_law_shortest" ["courses"] fSh dSh)
    (G__law_used : FnOk P w K mg base CX0 1 fUs dUs ["courses"] (spLawUsed K)) (C__law_used : CallC K mg "_law_used" ["courses"] fUs dUs)
    (G__law_reached : FnOk P w K mg base CX0 3 fRe dRe ["courses", "rows"] (spLawReached K)) (C__law_reached : CallC K mg "_law_reached" ["courses", "rows"] fRe dRe)
    (G__law_looks : FnOk P w K mg base CX0 3 fLl dLl ["courses", "deal", "rows"] (spLawLooks K)) (C__law_looks : CallC K mg "_law_looks" ["courses", "deal", "rows"] fLl dLl)
    (G__law_mixed : FnOk P w K mg base CX0 2 fMi dMi ["box", "some"] (spLawMixed K)) (C__law_mixed : CallC K mg "_law_mixed" ["box", "some"] fMi dMi)
    (G__law_bent : FnOk P w K mg base CX0 3 fBe dBe ["box", "row", "deeds"] (spLawBent K)) (C__law_bent : CallC K mg "_law_bent" ["box", "row", "deeds"] fBe dBe)
    (G_looks_by : FnOk P w K mg base CX0 6 fLo dLo ["book", "dealing", "rows"] (spLooks K CB)) (C_looks_by : CallC K mg "looks_by" ["book", "dealing", "rows"] fLo dLo) (kb_looks_by : KBinds K dLo ["book", "dealing", "rows"] ["rows", "book", "dealing"] rlG rlG)
    (G_within_by : FnOk P w K mg base (L2.CX P w) 5 fWb dWb ["dealing", "u", "v"] (spBy K C withinB)) (C_within_by : CallC K mg "within_by" ["dealing", "u", "v"] fWb dWb) : FnOk P w K mg base CX0 11 f fd ["script"] (spLaw K) := by
  refine F.ok scLw2 (fun vs H Q E h => ?_) (fun cdv A outer s H vs Q E hr h => ?_)
  · obtain ⟨a, ns, rfl, _⟩ := h
    rfl
  · obtain ⟨a, ns, rfl, hA, q⟩ := h
    have hu65 : (A.deeper (envOfC (Str.ofString "law") (defScope sLaw) s.heap.objs.size f cdv)).units + 65 < cLine := by
      have := hr.un
      omega
    refine ⟨_, pss_cons (ps_for PassesOwn.never rfl (pi_range1 (by rfl) N.range (pa_cons (pe_callB (call_max2 rfl) (by rfl) N.max (by decide +kernel) (pa_cons pe_int (pa_cons (pe_callB (call_min2 rfl) (by rfl) N.min (by decide +kernel) (pa_cons pe_int (pa_cons (pe_callB call_len_seq (by rfl) N.len PySem.boot_len (pa_cons (pv 0) pa_nil)) pa_nil))) pa_nil))) pa_nil)) (pg_name (i := 1) scLw2.nd rfl (Or.inl rfl))
        (pss_cons (ps_set (i := 2) scLw2.nd rfl (Or.inr rfl) (pe_call G__law_box (hr.mono (by decide)) (by rfl) C__law_box.g C__law_box.kp C__law_box.b .nil pass0 (pa_cons (pv 0) (pa_cons (pv 1) pa_nil))))
        (pss_cons (ps_set (i := 3) scLw2.nd rfl (Or.inr rfl) (pe_call G__law_menu (hr.mono (by decide)) (by rfl) C__law_menu.g C__law_menu.kp C__law_menu.b .nil pass0 (pa_cons (pe_call G__law_take (hr.mono (by decide)) (by rfl) C__law_take.g C__law_take.kp C__law_take.b .nil pass0 (pa_cons (pv 2) (pa_cons pe_int pa_nil))) pa_nil)))
        (pss_cons (ps_set (i := 4) scLw2.nd rfl (Or.inl rfl) (pe_call G__law_names (hr.mono (by decide)) (by rfl) C__law_names.g C__law_names.kp C__law_names.b .nil pass0 (pa_cons (pv 2) (pa_cons pe_int pa_nil))))
        (pss_cons (ps_asg (pe_tup (pa_cons (pe_slice sl_list (pv 4) po_none (po_some pe_int)) (pa_cons (pe_slice sl_list (pv 4) (po_some pe_int) po_none) pa_nil))) (pg_tup rfl (pgs_cons (pg_name (i := 5) scLw2.nd rfl (Or.inr rfl)) (pgs_cons (pg_name (i := 6) scLw2.nd rfl (Or.inr rfl)) pgs_nil))))
        (pss_cons (ps_set (i := 7) scLw2.nd rfl (Or.inl rfl) (pe_callTy call_tuple_of (by rfl) N.tuple (by decide +kernel) (pa_cons (pe_lc (own := [("at", 18)]) (g := gName 18) (tt := tYes) rfl scLw2.nd (pi_range1 (by rfl) N.range (pa_cons pe_int pa_nil)) (blkOk_by (own := [("at", 18)]) (N := nLw2) (sc := defScope sLaw) (by decide +kernel)) (fun _ _ _ _ _ => (pg_name (i := 18) scLw2.nd rfl (Or.inl rfl))) (fun _ _ _ _ _ => pts_nil) (fun _ _ _ _ _ => (pe_call G__law_course (hr.mono (by decide)) (by rfl) C__law_course.g C__law_course.kp C__law_course.b .nil pass0 (pa_cons (pe_ix (ixL_at (K := K) rfl) (pv 6) (pv 18) (fun _ _ => rfl)) (pa_cons (pe_ix (ixL_at (K := K) rfl) (pv 3) (pv 18) (fun _ _ => rfl)) (pa_cons (pv 5) (pa_cons (pv 6) pa_nil))))))) pa_nil)))
        (pss_cons (ps_set (i := 8) scLw2.nd rfl (Or.inr rfl) (pe_call G__law_shortest (hr.mono (by decide)) (by rfl) C__law_shortest.g C__law_shortest.kp C__law_shortest.b .nil pass0 (pa_cons (pv 7) pa_nil)))
        (pss_cons (ps_set (i := 9) scLw2.nd rfl (Or.inl rfl) (pe_call G__law_used (hr.mono (by decide)) (by rfl) C__law_used.g C__law_used.kp C__law_used.b .nil pass0 (pa_cons (pv 7) pa_nil)))
        (pss_cons (ps_set (i := 10) scLw2.nd rfl (Or.inr rfl) (pe_call G__law_names (hr.mono (by decide)) (by rfl) C__law_names.g C__law_names.kp C__law_names.b .nil pass0 (pa_cons (pv 2) (pa_cons (pe_op op_add pe_int (pe_call G__law_take (hr.mono (by decide)) (by rfl) C__law_take.g C__law_take.kp C__law_take.b .nil pass0 (pa_cons (pv 2) (pa_cons pe_int pa_nil)))) pa_nil))))
        (pss_cons (ps_set (i := 11) scLw2.nd rfl (Or.inr rfl) (pe_callTy (call_dictP rfl) (by rfl) ndict (by decide +kernel) (pa_cons (pe_lc (own := [("deed", 19)]) (g := gName 19) (tt := tYes) rfl scLw2.nd (pi_list (pv 9)) (blkOk_by (own := [("deed", 19)]) (N := nLw2) (sc := defScope sLaw) (by decide +kernel)) (fun _ _ _ _ _ => (pg_name (i := 19) scLw2.nd rfl (Or.inl rfl))) (fun _ _ _ _ _ => pts_nil) (fun _ _ _ _ _ => (pe_tup (pa_cons (pv 19) (pa_cons (pe_call G__law_pick (hr.mono (by decide)) (by rfl) C__law_pick.g C__law_pick.kp C__law_pick.b .nil pass0 (pa_cons (pv 2) (pa_cons (pv 10) pa_nil))) pa_nil))))) pa_nil)))
        (pss_cons (ps_set (i := 12) scLw2.nd rfl (Or.inl rfl) (pe_callTy call_tuple_of (by rfl) N.tuple (by decide +kernel) (pa_cons (pe_lc (own := [("deed", 19)]) (g := gName 19) (tt := tYes) rfl scLw2.nd (pi_list (pv 9)) (blkOk_by (own := [("deed", 19)]) (N := nLw2) (sc := defScope sLaw) (by decide +kernel)) (fun _ _ _ _ _ => (pg_name (i := 19) scLw2.nd rfl (Or.inl rfl))) (fun _ _ _ _ _ => pts_nil) (fun _ _ _ _ _ => (pe_tup (pa_cons (pv 19) (pa_cons (pe_dget (hu_of hr) (pv 11) (pv 19) (fun _ _ => rfl)) pa_nil))))) pa_nil)))
        (pss_cons (ps_set (i := 13) scLw2.nd rfl (Or.inl rfl) (pe_make M_Book G_Book (hr.mono (by decide)) (by rfl) B.mgC b_Book .nil pass0 (pa_cons (pv 7) pa_nil)))
        (pss_one (ps_if (pt_cmp (pc_din (hu_of hr) (pe_tup (pa_cons (pe_ix ix_tup (pe_ix ix_tup (pv 7) pe_int (fun _ _ => rfl)) pe_int (fun _ _ => rfl)) (pa_cons pe_int pa_nil))) (pv 8))) (pss_cons (ps_set (i := 14) scLw2.nd rfl (Or.inr rfl) (pe_callTy (Ka.call_dictPT rfl hr.units) (by rfl) ndict (by decide +kernel) (pa_cons (pe_lc (own := [("stage", 17)]) (g := gName 17) (tt := tYes) rfl scLw2.nd (pi_list (pe_call G__law_reached (hr.mono (by decide)) (by rfl) C__law_reached.g C__law_reached.kp C__law_reached.b .nil pass0 (pa_cons (pv 7) (pa_cons (pv 8) pa_nil)))) (blkOk_by (own := [("stage", 17)]) (N := nLw2) (sc := defScope sLaw) (by decide +kernel)) (fun _ _ _ _ _ => (pg_name (i := 17) scLw2.nd rfl (Or.inl rfl))) (fun _ _ _ _ _ => pts_nil) (fun _ _ _ _ _ => (pe_tup (pa_cons (pv 17) (pa_cons (pe_dget (hu_of hr) (pv 8) (pv 17) (fun _ _ => rfl)) pa_nil))))) pa_nil)))
          (pss_one (ps_for PassesOwn.never rfl (pi_range1 (by rfl) N.range (pa_cons pe_int pa_nil)) (pg_name (i := 15) scLw2.nd rfl (Or.inl rfl))
            (pss_cons (ps_set (i := 16) scLw2.nd rfl (Or.inl rfl) (pe_callTy (Ka.call_dictPT rfl hr.units) (by rfl) ndict (by decide +kernel) (pa_cons (pe_lc (own := [("stage", 17)]) (g := gName 17) (tt := tYes) rfl scLw2.nd (pi_list (pe_call G__law_mixed (hr.mono (by decide)) (by rfl) C__law_mixed.g C__law_mixed.kp C__law_mixed.b .nil pass0 (pa_cons (pv 2) (pa_cons (pe_callB (Ka.cr_sortT rfl hr.units) (by rfl) N.sorted (by decide +kernel) (pa_cons (pv 14) pa_nil)) pa_nil)))) (blkOk_by (own := [("stage", 17)]) (N := nLw2) (sc := defScope sLaw) (by decide +kernel)) (fun _ _ _ _ _ => (pg_name (i := 17) scLw2.nd rfl (Or.inl rfl))) (fun _ _ _ _ _ => pts_nil) (fun _ _ _ _ _ => (pe_tup (pa_cons (pv 17) (pa_cons (pe_dget (hu_of hr) (pv 14) (pv 17) (fun _ _ => rfl)) pa_nil))))) pa_nil)))
            (pss_cons (ps_if (PW.pt (pw_or (pt_cmpR (op_neD hr.units) (Ka.pe_callK0 G_looks_by (hr.mono (by decide)) (by rfl) C_looks_by.g C_looks_by.kp kb_looks_by pass0 (pk_cons (pv 16) (pk_cons (pv 13) (pk_cons (pv 12) pk_nil)))) (pe_call G__law_looks (hr.mono (by decide)) (by rfl) C__law_looks.g C__law_looks.kp C__law_looks.b .nil pass0 (pa_cons (pv 7) (pa_cons (pv 11) (pa_cons (pv 14) pa_nil)))) (nomark _)) (pw_or1 (pt_cmpR (Ka.op_neDictT hu65) (pv 16) (pv 14) (nomark _))))) (pss_one (ps_ret pe_bl)) pss_nil)
            (pss_cons (ps_if (pt_not (pt_val (pe_call G_within_by (hr.mono (by decide)) (by rfl) C_within_by.g C_within_by.kp C_within_by.b .nil (E := fun _ _ _ => False) (passes_call LamX.takes0 (fun _ _ _ _ h => h)) (pa_cons (pv 12) (pa_cons (pe_tup pa_nil) (pa_cons (pe_dget (hu_of hr) (pv 14) (pe_tup (pa_cons (pe_ix ix_tup (pe_ix ix_tup (pv 7) pe_int (fun _ _ => rfl)) pe_int (fun _ _ => rfl)) (pa_cons pe_int pa_nil))) (fun _ _ => rfl)) pa_nil)))))) (pss_one (ps_ret pe_bl)) pss_nil)
            (pss_cons (ps_set (i := 17) scLw2.nd rfl (Or.inl rfl) (pe_call G__law_pick (hr.mono (by decide)) (by rfl) C__law_pick.g C__law_pick.kp C__law_pick.b .nil pass0 (pa_cons (pv 2) (pa_cons (pe_callB (Ka.cr_sortT rfl hr.units) (by rfl) N.sorted (by decide +kernel) (pa_cons (pv 14) pa_nil)) pa_nil))))
            (pss_one (ps_dput (hu_of hr) (pv 14) (pv 17) (pe_call G__law_bent (hr.mono (by decide)) (by rfl) C__law_bent.g C__law_bent.kp C__law_bent.b .nil pass0 (pa_cons (pv 2) (pa_cons (pe_dget (hu_of hr) (pv 14) (pv 17) (fun _ _ => rfl)) (pa_cons (pv 9) pa_nil)))) rfl))))))))) pss_nil))))))))))))))
      (pss_one (ps_ret pe_bl)), ?_⟩
    obtain ⟨m, hm2, hm⟩ : ∃ m : Nat, m ≤ 2 ∧ (if (if ((intV ns).length : Int) < 2 then ((intV ns).length : Int) else 2) > 1 then (if ((intV ns).length : Int) < 2 then ((intV ns).length : Int) else 2) else 1) = (m : Int) := by
      refine ⟨max 1 (min 2 ns.length), by omega, ?_⟩
      rw [intV_len]
      split <;> split <;> omega
    refine ⟨.ref a, rfl, a, _, rfl, .inl hA, _, _, rfl, _, _, rfl, (m : Int), congrArg (fun z => [V.int z]) hm, by omega, by omega, ?_⟩
    refine for_range (lo := 0) (n := m) (fun i σ H' => ∃ d1 d2 d3 d4 d5 d6 d7 d8 d9 d10 d11 d12 d13 d14 d15 d16 d17 d18 d19, σ = [some (.ref a), d1, d2, d3, d4, d5, d6, d7, d8, d9, d10, d11, d12, d13, d14, d15, d16, d17, d18, d19] ∧ Same H H') ⟨none, none, none, none, none, none, none, none, none, none, none, none, none, none, none, none, none, none, none, rfl, fun _ _ e => e⟩ ?_ ?_
    · rintro i σ H0 hi ⟨d1, d2, d3, d4, d5, d6, d7, d8, d9, d10, d11, d12, d13, d14, d15, d16, d17, d18, d19, rfl, s00⟩
      rw [Int.zero_add]
      refine ⟨.ref a, rfl, .int (i : Nat), rfl, a, i, ns, rfl, s00.seq hA, by omega, fun H1 x s01 nx b1 => ?_⟩
      have nxH : H x = none := s00.free nx
      have sH1 := s00.trans s01
      have toS : ∀ {G : Hp}, But x H1 G → Same H G := fun k c u e => k c u (ne_of_none e nxH) (sH1 _ _ e)
      refine ⟨_, rfl, x, 6, rfl, b1, by decide, by decide, fun r H2 hr6 k2 b2 => ?_⟩
      obtain ⟨t0, t1, t2, r0, r1, r2, emn, tx0, tx1, tx2, g0, g1, g2, r15⟩ := menu_at hr6
      refine ⟨r, rfl, hr6, fun pm npm => ?_⟩
      have s3 := same_new (o := .lst ((menuL r).map V.str)) npm
      have em : upd H2 pm (.lst ((menuL r).map V.str)) pm = some (.lst ([t0, t1, t2].map V.str)) := by rw [upd_same, emn]
      have b3 := b2.mono s3
      have hpmx := Box.ne b2 npm
      have kA := k2.trans (But.of s3)
      generalize upd H2 pm (.lst ((menuL r).map V.str)) = H3 at s3 em b3 kA
      refine ⟨_, rfl, x, 7, rfl, b3, by decide, fun pn nl H4 lnl ndl naml k4 b4 npn epn => ?_⟩
      have em := k4 _ _ hpmx em
      have kA := kA.trans k4
      have hpnx := b3.ne npn
      clear k2 s3 k4 b3 npn npm b2
      obtain ⟨y0, y1, y2, y3, x0, x1, x2, rfl⟩ : ∃ y0 y1 y2 y3 x0 x1 x2, nl = [y0, y1, y2, y3, x0, x1, x2] := by
        match nl, lnl with
        | [y0, y1, y2, y3, x0, x1, x2], _ => exact ⟨_, _, _, _, _, _, _, rfl⟩
      refine ⟨_, rfl, 4, rfl, pn, _, rfl, sqL_new epn, fun pd npd => ?_⟩
      have s5 := same_new (o := .lst (cutV ([y0, y1, y2, y3, x0, x1, x2].map V.str) none (some 4))) npd
      have ed : upd H4 pd (.lst (cutV ([y0, y1, y2, y3, x0, x1, x2].map V.str) none (some 4))) pd = some (.lst ([y0, y1, y2, y3].map V.str)) := upd_same
      have epn := s5 _ _ epn
      have em := s5 _ _ em
      have b5 := b4.mono s5
      have hpdx := Box.ne b4 npd
      have kA := kA.trans (But.of s5)
      generalize upd H4 pd (.lst (cutV ([y0, y1, y2, y3, x0, x1, x2].map V.str) none (some 4))) = H5 at s5 ed epn em b5 kA
      refine ⟨_, rfl, 4, rfl, pn, _, rfl, sqL_new epn, fun pc npc => ?_⟩
      have s6 := same_new (o := .lst (cutV ([y0, y1, y2, y3, x0, x1, x2].map V.str) (some 4) none)) npc
      have ec : upd H5 pc (.lst (cutV ([y0, y1, y2, y3, x0, x1, x2].map V.str) (some 4) none)) pc = some (.lst ([x0, x1, x2].map V.str)) := upd_same
      have em := s6 _ _ em
      have ed := s6 _ _ ed
      have b6 := b5.mono s6
      have hpcx := Box.ne b5 npc
      have kA := kA.trans (But.of s6)
      generalize upd H5 pc (.lst (cutV ([y0, y1, y2, y3, x0, x1, x2].map V.str) (some 4) none)) = H6 at s6 ec ed em b6 kA
      clear s5 s6 b4 b5 npd npc epn
      refine ⟨smallE (by show 2 ≤ 1000000; decide), fun pt npt => ?_⟩
      have s7 := same_new (o := .tup [V.ref pd, V.ref pc]) npt
      have et : upd H6 pt (.tup [V.ref pd, V.ref pc]) pt = some (.tup [V.ref pd, V.ref pc]) := upd_same
      have em := s7 _ _ em
      have ed := s7 _ _ ed
      have ec := s7 _ _ ec
      have b7 := b6.mono s7
      have kA := kA.trans (But.of s7)
      generalize upd H6 pt (.tup [V.ref pd, V.ref pc]) = H7 at s7 et ec ed em b7 kA
      refine ⟨pt, _, rfl, sqT_new et, rfl, _, _, rfl, _, _, rfl, rfl, ?_⟩
      clear s7 et b6 npt
      have ndd : [y0, y1, y2, y3].Nodup := by
        have := ndl.sublist (l₁ := [y0, y1, y2, y3]) (List.sublist_append_left [y0, y1, y2, y3] [x0, x1, x2])
        exact this
      have ndc : [x0, x1, x2].Nodup := by
        have := ndl.sublist (l₁ := [x0, x1, x2]) (List.sublist_append_right [y0, y1, y2, y3] [x0, x1, x2])
        exact this
      have nds : ∀ z ∈ [y0, y1, y2, y3], isName z = true := fun z hz => naml z (List.mem_append_left [x0, x1, x2] hz)
      have ncl : ∀ z ∈ [x0, x1, x2], isName z = true := fun z hz => naml z (List.mem_append_right [y0, y1, y2, y3] hz)
      generalize hDs : [y0, y1, y2, y3] = ds at ed ndd nds
      have l4 : ds.length = 4 := by rw [← hDs]; rfl
      -- the courses
      refine ⟨3, rfl, by decide, by decide, fun D nD => ?_⟩
      have hDx := Box.ne b7 nD
      refine lc_it (walk_r0 (n := 3)) (fun i G => ∃ Cs : List CA, Same H7 G ∧ G D = some (.lst (Cs.map fun c => V.ref c.a)) ∧ (∀ c ∈ Cs, CrsAt K G c) ∧ Cs.length = i ∧ ∀ j c, Cs[j]? = some c → ∃ (nm : Str) (rr : P3), [x0, x1, x2][j]? = some nm ∧ [r0, r1, r2][j]? = some rr ∧ c.nm = nm ∧ Read ds [x0, x1, x2] c rr) ⟨[], same_new nD, upd_same, fun c hc => (nomatch hc), rfl, fun j c e => (by rw [List.getElem?_nil] at e; cases e)⟩ (fun _ _ _ _ => True.intro) (fun i y G G' hi h yy => ?_) (fun G h => ?_)
      · obtain ⟨rfl, rfl⟩ := yy
        obtain ⟨Cs, sG, eG, cG, lG, hG⟩ := h
        obtain ⟨nm, tt, rr, h1, h2, h3, htx, hgd⟩ : ∃ (nm tt : Str) (rr : P3), [x0, x1, x2][i]? = some nm ∧ [t0, t1, t2][i]? = some tt ∧ [r0, r1, r2][i]? = some rr ∧ TxOk tt rr ∧ goodR rr = true := by
          match i, hi with
          | 0, _ => exact ⟨_, _, _, rfl, rfl, rfl, tx0, g0⟩
          | 1, _ => exact ⟨_, _, _, rfl, rfl, rfl, tx1, g1⟩
          | 2, _ => exact ⟨_, _, _, rfl, rfl, rfl, tx2, g2⟩
        have h1v : ([x0, x1, x2].map V.str)[i]? = some (.str nm) := by rw [List.getElem?_map, h1]; rfl
        have h2v : ([t0, t1, t2].map V.str)[i]? = some (.str tt) := by rw [List.getElem?_map, h2]; rfl
        refine ⟨rfl, _, rfl, _, rfl, pc, _, _, .str nm, rfl, rfl, sqL_new (sG _ _ ec), atI_nat h1v, _, rfl, _, rfl, pm, _, _, .str tt, rfl, rfl, sqL_new (sG _ _ em), atI_nat h2v, _, rfl, _, rfl, nm, tt, pd, pc, ds, [x0, x1, x2], rr, rfl, sG _ _ ed, sG _ _ ec, l4, rfl, nds, ncl, htx, fun G2 c sc hc c1 c2 c3 c4 c5 => ?_⟩
        have eG2 := sc _ _ eG
        have kD : But D G2 (upd G2 D (.lst (Cs.map (fun c => V.ref c.a) ++ [V.ref c.a]))) := But.upd
        have keepC : ∀ {c' : CA}, CrsAt K G2 c' → CrsAt K (upd G2 D (.lst (Cs.map (fun c => V.ref c.a) ++ [V.ref c.a]))) c' := fun {c'} hc' => by
          have one : ∀ {b : Addr} {xs : List V}, SqT K G2 b xs → SqT K (upd G2 D (.lst (Cs.map (fun c => V.ref c.a) ++ [V.ref c.a]))) b xs := fun {b xs} h => by
            rcases h with (h | ⟨o, h⟩) | h
            · exact .inl (.inl (kD _ _ (fun e => by rw [e, eG2] at h; cases h) h))
            · exact .inl (.inr ⟨o, kD _ _ (fun e => by rw [e, eG2] at h; cases h) h⟩)
            · exact .inr h
          exact ⟨one hc'.t, one hc'.e, one hc'.s, fun p hp => kD _ _ (fun e => by have := hc'.p p hp; rw [e, eG2] at this; cases this) (hc'.p p hp)⟩
        refine ⟨_, eG2, by rw [List.length_map]; exact small (by omega), Cs ++ [c], fun b o eb => ?_, ?_, fun c' hc' => ?_, by rw [List.length_append, lG]; rfl, fun j c' hj => ?_⟩
        · rw [upd_ne (ne_of_none eb nD)]
          exact sc _ _ (sG _ _ eb)
        · rw [upd_same, List.map_append]
          rfl
        · rcases List.mem_append.mp hc' with z | z
          · exact keepC ((cG c' z).mono sc)
          · rw [List.mem_singleton.mp z]
            exact keepC hc
        · by_cases hji : j < Cs.length
          · rw [List.getElem?_append_left hji] at hj
            exact hG j c' hj
          · have hjl : j < (Cs ++ [c]).length := lt_of_get hj
            rw [List.length_append, List.length_singleton] at hjl
            have ej : j = Cs.length := by omega
            rw [ej, List.getElem?_append_right (Nat.le_refl _), Nat.sub_self] at hj
            cases hj
            rw [ej, lG]
            exact ⟨nm, rr, h1, h3, c1, c2, c3, c4, c5, hgd⟩
      obtain ⟨Cs, sG, eG, cG, lG, hG⟩ := h
      obtain ⟨c0, c1, c2, rfl⟩ : ∃ c0 c1 c2, Cs = [c0, c1, c2] := by
        match Cs, lG with
        | [c0, c1, c2], _ => exact ⟨_, _, _, rfl⟩
      obtain ⟨_, _, q1, q2, n0, rd0⟩ := hG 0 c0 rfl
      cases q1
      cases q2
      obtain ⟨_, _, q1, q2, n1, rd1⟩ := hG 1 c1 rfl
      cases q1
      cases q2
      obtain ⟨_, _, q1, q2, n2, rd2⟩ := hG 2 c2 rfl
      cases q1
      cases q2
      obtain ⟨ok, n15, l8, dds, ldns⟩ := cs_ok l4 ndd ndc nds ncl rd0 rd1 rd2 n0 n1 n2 r15
      have hdo : ∃ z, z ∈ dns [c0, c1, c2] := third_do hr6 emn tx2 rd2
      clear hG rd0 rd1 rd2 r15 tx0 tx1 tx2 g0 g1 g2
      generalize hcs : [c0, c1, c2] = cs at eG cG ok n15 l8 dds ldns hdo
      have hc0 : cs[0]? = some c0 := by rw [← hcs]; rfl
      refine ⟨D, _, rfl, .inl ⟨sqL_new eG, fun pa npa => ?_⟩⟩
      have s8 := same_new (o := .tup (cs.map fun c => V.ref c.a)) npa
      have hC : CsAt K (upd G pa (.tup (cs.map fun c => V.ref c.a))) pa cs := ⟨sqT_new upd_same, fun c hc => (cG c hc).mono s8⟩
      have sA := sG.trans s8
      generalize upd G pa (.tup (cs.map fun c => V.ref c.a)) = H8 at hC sA
      have b8 := b7.mono sA
      have kA := kA.trans (But.of sA)
      clear sG eG cG lG s8 nD hDx em ed ec b7 sA
      -- the rows, the deeds
      refine ⟨_, rfl, pa, cs, rfl, hC, ok, n15, fun H9 pr R0 s9 npr epr hR0 iR0 => ?_⟩
      have hC := hC.mono s9
      have b9 := b8.mono s9
      have kA := kA.trans (But.of s9)
      clear s9 b8
      refine ⟨_, rfl, pa, cs, rfl, hC, by omega, fun c hc => by have := l8 c hc; omega, fun HA pu us sU npu epu sso usn ume => ?_⟩
      have hC := hC.mono sU
      have hR0 := hR0.mono sU
      have bA := b9.mono sU
      have hpux := Box.ne b9 npu
      have epr := sU _ _ epr
      have kA := kA.trans (But.of sU)
      clear sU b9 npu npr
      have usnm : ∀ z ∈ us, isName z = true := fun z hz => nds z (dds z ((ume z).mp hz))
      have lus : us.length ≤ 4 := by
        have := nodup_len usn (m := ds) fun z hz => dds z ((ume z).mp hz)
        omega
      have hus0 : 0 < us.length := by
        obtain ⟨z, hz⟩ := hdo
        exact List.length_pos_of_mem ((ume z).mpr hz)
      -- the places
      refine ⟨_, rfl, _, rfl, x, 3, rfl, bA, by decide, by decide, fun r3 HB hr3 kB bB => ?_⟩
      refine ⟨1, _, rfl, rfl, x, 1 + r3, (by show [V.ref x, V.int (1 + (r3 : Int))] = _; rw [show (1 : Int) + (r3 : Int) = ((1 + r3 : Nat) : Int) by omega]), bB, by omega, fun pl ll HC lll _ naml2 kC bC nplC epl => ?_⟩
      have hplx := Box.ne bB nplC
      have kBC := kB.trans kC
      have hC := hC.box bA kBC
      have hR0 := hR0.box bA kBC
      have epr := get_box bA kBC epr (fun _ _ e => nomatch e)
      have epu := kBC _ _ hpux epu
      have kA := kA.trans kBC
      clear kB kC kBC bB bA nplC
      -- the dealing
      refine ⟨_, rfl, pu, rfl, ⟨_, sqL_new epu⟩, fun D nD => ?_⟩
      have hDx := Box.ne bC nD
      refine lc_it (walk_list (K := K) (a := pu) (xs := us.map V.str)) (fun i G => ∃ ps : List DP, But x HC G ∧ Box G x ∧ G D = some (.lst (ps.map fun p => V.ref p.1)) ∧ ps.map (·.2.1) = us.take i ∧ ∀ p ∈ ps, G p.1 = some (.tup [.str p.2.1, .str p.2.2]) ∧ isName p.2.2 = true) ⟨[], But.of (same_new nD), Box.upd bC hDx, upd_same, rfl, fun p hp => (nomatch hp)⟩ (fun _ _ _ h => sqL_new (h.choose_spec.1 _ _ hpux epu)) (fun i y G G' hi h yy => ?_) (fun G h => ?_)
      · obtain ⟨rfl, hy⟩ := yy
        obtain ⟨d, hd, rfl⟩ := get_map hy
        obtain ⟨ps, kG, bG, eG, kP, tP⟩ := h
        rw [List.length_map] at hi
        have lP : ps.length ≤ 12 := by
          have := congrArg List.length kP
          rw [List.length_map, List.length_take] at this
          omega
        refine ⟨rfl, .str d, rfl, _, rfl, _, rfl, x, pl, _, rfl, bG, hplx, .inl (kG _ _ hplx epl), by rw [List.length_map]; omega, by rw [List.length_map]; omega, fun j v G2 hj k2 b2 => ?_⟩
        obtain ⟨y, hyl, rfl⟩ := get_map hj
        have ny := naml2 y (List.mem_of_getElem? hyl)
        refine ⟨smallE (by show 2 ≤ 1000000; decide), fun b nb => ?_⟩
        have sb := same_new (o := .tup [V.str d, V.str y]) nb
        have eb : upd G2 b (.tup [V.str d, V.str y]) b = some (.tup [V.str d, V.str y]) := upd_same
        have bb := Box.upd (o := .tup [V.str d, V.str y]) b2 (Box.ne b2 nb)
        have kb := k2.trans (But.of sb)
        have eD := kb _ _ hDx eG
        have kG2 := kG.trans kb
        generalize upd G2 b (.tup [V.str d, V.str y]) = Z at sb eb bb kb eD kG2
        have nDt : ∀ {c : Addr} {xs : List V}, Z c = some (.tup xs) → c ≠ D := fun e w => by
          rw [w, eD] at e
          cases e
        refine ⟨_, eD, by rw [List.length_map]; exact small (by omega), ps ++ [(b, d, y)], fun c o hc e => ?_, Box.upd bb hDx, ?_, ?_, fun p hp => ?_⟩
        · by_cases w : c = D
          · rw [w, nD] at e
            cases e
          · rw [upd_ne w]
            exact kG2 _ _ hc e
        · rw [upd_same, List.map_append]
          rfl
        · rw [List.map_append, kP, take_of_get hd]
          rfl
        · rcases List.mem_append.mp hp with w | w
          · obtain ⟨a1, a2⟩ := tP p w
            have a1 := get_box bG kb a1 (fun _ _ e => nomatch e)
            exact ⟨by rw [upd_ne (nDt a1)]; exact a1, a2⟩
          · rw [List.mem_singleton.mp w]
            exact ⟨by rw [upd_ne (nDt eb)]; exact eb, ny⟩
      obtain ⟨ps1, kG, bG, eG, kP1, tP1⟩ := h
      rw [List.length_map, List.take_of_length_le (Nat.le_refl _)] at kP1
      have nd1 : (ps1.map (·.2.1)).Nodup := by rw [kP1]; exact usn
      have l1 : ps1.length = us.length := by rw [← kP1, List.length_map]
      have hC := hC.box bC kG
      have hR0 := hR0.box bC kG
      have epr := get_box bC kG epr (fun _ _ e => nomatch e)
      have epu := kG _ _ hpux epu
      have kA := kA.trans kG
      clear kG bC nD epl hplx
      refine ⟨D, ps1.map (·.1), byKV ps1, rfl, by rw [List.map_map]; exact sqL_new eG, paired_by (fun p hp => (tP1 p hp).1), fun dl ndl2 => ?_⟩
      rw [merge_nd (byKV ps1) [] (byKV_nd nd1), List.nil_append]
      have s1 := same_new (o := .dK (byKV ps1)) ndl2
      have edl : upd G dl (.dK (byKV ps1)) dl = some (.dK (byKV ps1)) := upd_same
      have bD := Box.upd (o := .dK (byKV ps1)) bG (Box.ne bG ndl2)
      have epu := s1 _ _ epu
      have hC := hC.mono s1
      have hR0 := hR0.mono s1
      have epr := s1 _ _ epr
      have kA := kA.trans (But.of s1)
      generalize upd G dl (.dK (byKV ps1)) = HD at s1 edl bD epu hC hR0 epr kA
      have n1s : ∀ q ∈ ps1, isName q.2.2 = true := fun q hq => (tP1 q hq).2
      clear tP1 eG bG ndl2 s1
      -- the pairs
      refine ⟨_, rfl, pu, rfl, ⟨_, sqL_new epu⟩, fun D2 nD2 => ?_⟩
      refine lc_it (walk_list (K := K) (a := pu) (xs := us.map V.str)) (fun i G => ∃ ps : List DP, Same HD G ∧ G D2 = some (.lst (ps.map fun p => V.ref p.1)) ∧ ps.map (·.2) = (ps1.take i).map (·.2) ∧ ∀ p ∈ ps, G p.1 = some (.tup [.str p.2.1, .str p.2.2])) ⟨[], same_new nD2, upd_same, rfl, fun p hp => (nomatch hp)⟩ (fun _ _ _ h => sqL_new (h.choose_spec.1 _ _ epu)) (fun i y G G' hi h yy => ?_) (fun G h => ?_)
      · obtain ⟨rfl, hy⟩ := yy
        obtain ⟨d, hd, rfl⟩ := get_map hy
        obtain ⟨ps, sG, eG, kP, tP⟩ := h
        rw [List.length_map] at hi
        have lP : ps.length ≤ 12 := by
          have := congrArg List.length kP
          rw [List.length_map, List.length_map, List.length_take] at this
          omega
        have hp1 : ps1[i]? = some (ps1[i]'(by omega)) := List.getElem?_eq_getElem _
        generalize ps1[i]'(by omega) = p0 at hp1
        have ed : p0.2.1 = d := by
          rw [← kP1, List.getElem?_map, hp1] at hd
          exact Option.some.inj hd
        have g1 : DGet G' dl (.str d) (some (.str p0.2.2)) := by
          have := DGet.k (k := Sum.inr d) (sG _ _ edl)
          rw [valV_by, ← ed, deskOf_self nd1 (List.mem_of_getElem? hp1), ed] at this
          exact this
        refine ⟨rfl, .str d, rfl, _, rfl, .str d, rfl, dl, .str p0.2.2, rfl, g1, smallE (by show 2 ≤ 1000000; decide), fun b nb => ?_⟩
        have sb := same_new (o := .tup [V.str d, V.str p0.2.2]) nb
        have eb : upd G' b (.tup [V.str d, V.str p0.2.2]) b = some (.tup [V.str d, V.str p0.2.2]) := upd_same
        have eD := sb _ _ eG
        generalize upd G' b (.tup [V.str d, V.str p0.2.2]) = Z at sb eb eD
        have nDt : ∀ {c : Addr} {xs : List V}, Z c = some (.tup xs) → c ≠ D2 := fun e w => by
          rw [w, eD] at e
          cases e
        refine ⟨_, eD, by rw [List.length_map]; exact small (by omega), ps ++ [(b, d, p0.2.2)], fun c o e => ?_, ?_, ?_, fun p hp => ?_⟩
        · rw [upd_ne (ne_of_none e nD2)]
          exact sb _ _ (sG _ _ e)
        · rw [upd_same, List.map_append]
          rfl
        · rw [List.map_append, kP, take_of_get hp1, List.map_append, ← ed]
          rfl
        · rcases List.mem_append.mp hp with w | w
          · have a1 := sb _ _ (tP p w)
            rw [upd_ne (nDt a1)]
            exact a1
          · rw [List.mem_singleton.mp w]
            rw [upd_ne (nDt eb)]
            exact eb
      obtain ⟨ps, sG, eG, kP, tP⟩ := h
      rw [List.length_map, ← l1, List.take_length] at kP
      have ebv : byKV ps1 = byKV ps := by
        have : ∀ qs : List DP, byKV qs = (qs.map (·.2)).map fun t => (Sum.inr t.1, V.str t.2) := fun qs => by
          rw [List.map_map]
          rfl
        rw [this, this, kP]
      have kP1' : ps.map (·.2.1) = us := by
        have : ps.map (·.2.1) = (ps.map (·.2)).map (·.1) := by rw [List.map_map]; rfl
        rw [this, kP, List.map_map]
        exact kP1
      refine ⟨D2, _, rfl, .inl ⟨sqL_new eG, fun pp npp => ?_⟩⟩
      have sP := same_new (o := .tup (ps.map fun p => V.ref p.1)) npp
      have hDl : DealAt K (upd G pp (.tup (ps.map fun p => V.ref p.1))) pp ps := ⟨sqT_new upd_same, fun p hp => sP _ _ (tP p hp)⟩
      have sE := sG.trans sP
      generalize upd G pp (.tup (ps.map fun p => V.ref p.1)) = HE at hDl sE
      have hC := hC.mono sE
      have hR0 := hR0.mono sE
      have epr := sE _ _ epr
      have epu := sE _ _ epu
      have edl := sE _ _ edl
      rw [ebv] at edl
      have bE := bD.mono sE
      have kA := kA.trans (But.of sE)
      have nds2 : ∀ p ∈ ps, isName p.2.2 = true := fun p hp => by
        have : p.2 ∈ ps1.map (·.2) := by rw [← kP]; exact List.mem_map.mpr ⟨p, hp, rfl⟩
        obtain ⟨p', hp', e⟩ := List.mem_map.mp this
        rw [← e]
        exact n1s p' hp'
      have dok : DOk ps := ⟨by rw [kP1']; exact usn, by have := congrArg List.length kP1'; rw [List.length_map] at this; omega⟩
      clear sE sP sG eG tP bD nD2 npp kP kP1 nd1 n1s l1 ebv
      -- the book
      refine ⟨_, rfl, ?_⟩
      intro bk dx nbk ndx nex
      have s8 : Same HE (upd (upd HE dx (.own bk)) bk (.ins CB dx [])) := fun b o e => by
        rw [upd_ne (ne_of_none e nbk), upd_ne (ne_of_none e ndx)]
        exact e
      have ex : upd (upd HE dx (.own bk)) bk (.ins CB dx []) bk = some (.ins CB dx []) := upd_same
      generalize upd (upd HE dx (.own bk)) bk (.ins CB dx []) = HF at s8 ex
      refine ⟨bk, pa, dx, cs, rfl, ex, hC.mono s8, ok, fun HG kk hBk => ⟨rfl, ?_⟩⟩
      have sG : Same HE HG := fun b o e => kk _ _ (ne_of_none e nbk) (s8 _ _ e)
      have hC := hC.mono sG
      have hR0 := hR0.mono sG
      have epr := sG _ _ epr
      have epu := sG _ _ epu
      have edl := sG _ _ edl
      have hDl := hDl.mono sG
      have bG := bE.mono sG
      have kA := kA.trans (But.of sG)
      clear sG kk ex s8 nbk ndx nex bE
      have hcv : (cs.map fun c => V.ref c.a)[0]? = some (.ref c0.a) := by rw [List.getElem?_map, hc0]; rfl
      have mc0 := List.mem_of_getElem? hc0
      refine ⟨_, rfl, pa, _, _, .ref c0.a, rfl, rfl, hC.1, atI_nat (j := 0) hcv, c0.a, _, _, .str c0.nm, rfl, rfl, (hC.2 c0 mc0).t, rfl, smallE (by show 2 ≤ 1000000; decide), fun t nt => ?_⟩
      have st := same_new (o := .tup [V.str c0.nm, V.int 0]) nt
      have ett : upd HG t (.tup [V.str c0.nm, V.int 0]) t = some (.tup (stV (c0.nm, 0))) := upd_same
      generalize upd HG t (.tup [V.str c0.nm, V.int 0]) = HH at st ett
      have g2 : DGet HH pr (.ref t) (valV (rowKV R0) (stK (c0.nm, 0))) := .inr ⟨rowKV R0, stK (c0.nm, 0), t, .inl (st _ _ epr), rfl, ett, rfl⟩
      rw [valV_rows] at g2
      have hC := hC.mono st
      have hR0 := hR0.mono st
      have epr := st _ _ epr
      have epu := st _ _ epu
      have edl := st _ _ edl
      have hDl := hDl.mono st
      have hBk := hBk.mono st
      have bH := bG.mono st
      have kA := kA.trans (But.of st)
      clear st bG
      refine ⟨_, rfl, pr, _, rfl, g2, ?_⟩
      cases h0 : rowA R0 (c0.nm, 0) with
      | none =>
        refine ⟨_, rfl, iteNo rfl ?_⟩
        exact ⟨_, _, _, _, _, _, _, _, _, _, _, _, _, _, _, _, _, _, _, rfl, toS kA⟩
      | some y0r =>
        refine ⟨_, rfl, iteYes rfl ?_⟩
        have has0 : hasR R0 (c0.nm, 0) = true := by
          rw [← rowA_has, h0]
          rfl
        clear g2 ett
        refine ⟨_, rfl, _, rfl, pa, pr, cs, c0, R0, rfl, hC, ok, fun c hc => by have := l8 c hc; omega, hc0, hR0, iR0, n15, has0, fun HI q1 xs sI nq1 hxs hxr hx0 lxs => ?_⟩
        obtain ⟨L, hL1, hL2, hL3⟩ := hxs
        have lL : L.length ≤ 10000 := by rw [← hL2, List.length_map] at lxs; exact lxs
        have hC := hC.mono sI
        have hR0 := hR0.mono sI
        have epr := sI _ _ epr
        have epu := sI _ _ epu
        have edl := sI _ _ edl
        have hDl := hDl.mono sI
        have hBk := hBk.mono sI
        have bI := bH.mono sI
        have kA := kA.trans (But.of sI)
        clear sI bH nq1
        refine ⟨q1, rfl, ⟨_, sqL_new hL1⟩, fun D nD => ?_⟩
        refine lc_it (walk_list (K := K) (a := q1) (xs := L.map fun t => V.ref t.1)) (fun i G => ∃ T : List TQ, Same HI G ∧ G D = some (.lst (T.map fun t => V.ref t.1)) ∧ (T.map fun t => (t.2.1, t.2.2.1)) = L.take i ∧ ∀ t ∈ T, (G t.1 = some (.tup [.ref t.2.1, .ref t.2.2.2.1]) ∧ G t.2.1 = some (.tup (stV t.2.2.1))) ∧ rowA R0 t.2.2.1 = some t.2.2.2) ⟨[], same_new nD, upd_same, rfl, fun t ht => (nomatch ht)⟩ (fun _ _ _ h => sqL_new (h.choose_spec.1 _ _ hL1)) (fun i y G G' hi h yy => ?_) (fun G h => ?_)
        · obtain ⟨rfl, hy⟩ := yy
          obtain ⟨u, hu, rfl⟩ := get_map hy
          obtain ⟨T, sG, eG, kT, tT⟩ := h
          rw [List.length_map] at hi
          have hum := List.mem_of_getElem? hu
          have lT : T.length ≤ 10000 := by
            have := congrArg List.length kT
            rw [List.length_map, List.length_take] at this
            omega
          have eu := sG _ _ (hL3 u hum)
          obtain ⟨yr, hyr⟩ : ∃ yr, rowA R0 u.2 = some yr := by
            have h1 : hasR R0 u.2 = true := hxr _ (by rw [← hL2]; exact List.mem_map.mpr ⟨u, hum, rfl⟩)
            rw [← rowA_has] at h1
            cases e : rowA R0 u.2 with
            | none =>
              rw [e] at h1
              cases h1
            | some yr => exact ⟨yr, rfl⟩
          have g : DGet G' pr (.ref u.1) (some (.ref yr.1)) := .inr ⟨rowKV R0, stK u.2, u.1, .inl (sG _ _ epr), rfl, eu, by rw [valV_rows, hyr]; rfl⟩
          refine ⟨rfl, _, rfl, _, rfl, _, rfl, pr, .ref yr.1, rfl, g, smallE (by show 2 ≤ 1000000; decide), fun b nb => ?_⟩
          have sb := same_new (o := .tup [V.ref u.1, V.ref yr.1]) nb
          have eb : upd G' b (.tup [V.ref u.1, V.ref yr.1]) b = some (.tup [V.ref u.1, V.ref yr.1]) := upd_same
          have eD := sb _ _ eG
          have eu := sb _ _ eu
          generalize upd G' b (.tup [V.ref u.1, V.ref yr.1]) = Z at sb eb eD eu
          have kt : ∀ {c : Addr} {xs : List V}, Z c = some (.tup xs) → upd Z D (.lst (T.map (fun t => V.ref t.1) ++ [V.ref b])) c = some (.tup xs) := fun e => by
            rw [upd_ne (fun w => by rw [w, eD] at e; cases e)]
            exact e
          refine ⟨_, eD, by rw [List.length_map]; exact small (by omega), T ++ [(b, u.1, u.2, yr)], fun c o e => ?_, ?_, ?_, fun t ht => ?_⟩
          · rw [upd_ne (ne_of_none e nD)]
            exact sb _ _ (sG _ _ e)
          · rw [upd_same, List.map_append]
            rfl
          · rw [List.map_append, kT, take_of_get hu]
            rfl
          · rcases List.mem_append.mp ht with w | w
            · obtain ⟨⟨a1, a2⟩, a3⟩ := tT t w
              exact ⟨⟨kt (sb _ _ a1), kt (sb _ _ a2)⟩, a3⟩
            · rw [List.mem_singleton.mp w]
              exact ⟨⟨kt eb, kt eu⟩, hyr⟩
        obtain ⟨T, sG, eG, kT, tT⟩ := h
        rw [List.length_map, List.take_of_length_le (Nat.le_refl _)] at kT
        have kX : T.map (·.2.2.1) = L.map (·.2) := by
          rw [← kT, List.map_map]
          rfl
        obtain ⟨ndT, rwT, kyT⟩ := putAll_ok (R0 := R0) (T.map fun t => t.2.2) [] List.nodup_nil (fun t ht => (nomatch ht)) (fun t ht => by obtain ⟨u, hu, rfl⟩ := List.mem_map.mp ht; exact (tT u hu).2)
        refine ⟨D, T.map (·.1), tqK T, rfl, by rw [List.map_map]; exact sqL_new eG, tq_paired (fun t ht => (tT t ht).1), fun kp nkp => ?_⟩
        rw [tq_merge]
        have sK := sG.trans (same_new (o := .dT (rowKV (tqR T))) nkp)
        have ekp : upd G kp (.dT (rowKV (tqR T))) kp = some (.dT (rowKV (tqR T))) := upd_same
        generalize upd G kp (.dT (rowKV (tqR T))) = HJ at sK ekp
        have hR1 : RowsAt K HJ kp (tqR T) := ⟨.inl ekp, fun t ht => Same.sqT sK (hR0.r (t.1, t.2) (rowA_mem (rwT t ht)))⟩
        have hK0 : Kept cs us 32767 R0 := ⟨iR0.nd, iR0.key, fun t ht z hz => (ume z).mpr (iR0.dd t ht z hz), fun t ht => by
          have h1 := iR0.len t ht
          have h2 : 2 ^ R0.length ≤ 2 ^ 15 := Nat.pow_le_pow_right (by decide) (Nat.le_trans iR0.n n15)
          omega⟩
        have hK1 : Kept cs us 32767 (tqR T) := hK0.of ndT rwT
        have has1 : hasR (tqR T) (c0.nm, 0) = true := by
          refine hasR_iff.mpr ((kyT _).mp (.inr ?_))
          rw [List.map_map]
          show (c0.nm, 0) ∈ T.map (·.2.2.1)
          rw [kX, hL2]
          exact hx0
        generalize tqR T = R1 at ekp hR1 hK1 has1
        have kI : But x HI HJ := But.of sK
        have bJ := bI.mono sK
        have nkpI := sG.free nkp
        have hkpx := Box.ne bI nkpI
        clear sK sG eG kT tT kX ndT rwT kyT nkp nD T hL1 hL2 hL3 hxr hx0 hK0 lL L hR0 epr iR0 has0 h0
        obtain ⟨ks, isd⟩ := desks_ex ps
        have knm : ∀ z ∈ ks, isName z = true := fun z hz => by
          obtain ⟨p, hp, e⟩ := List.mem_map.mp ((isd_mem isd z).mp hz)
          rw [← e]
          exact nds2 p hp
        have hdu : ∀ z ∈ dns cs, z ∈ us := fun z hz => (ume z).mpr hz
        refine ⟨3, rfl, by decide, by decide, ?_⟩
        refine for_it walk_r0 (n := 3) (fun j σ Z => ∃ (R : List RA) (e15 e16 e17 e18 e19 : Option V), σ = [some (.ref a), some (.int (i : Nat)), some (.ref x), some (.ref pm), some (.ref pn), some (.ref pd), some (.ref pc), some (.ref pa), some (.ref pr), some (.ref pu), some (.ref pl), some (.ref dl), some (.ref pp), some (.ref bk), some (.ref kp), e15, e16, e17, e18, e19] ∧ But x HI Z ∧ Box Z x ∧ Z kp = some (.dT (rowKV R)) ∧ RowsAt K Z kp R ∧ Kept cs us (32767 + j) R ∧ hasR R (c0.nm, 0) = true) ⟨R1, _, _, _, _, _, rfl, kI, bJ, ekp, hR1, hK1, has1⟩ (fun j σ Z _ h => True.intro) (fun j y σ Z Z' hj h yy => ?_) (fun σ Z h => ?_)
        · obtain ⟨rfl, rfl⟩ := yy
          obtain ⟨R, e15, e16, e17, e18, e19, rfl, kZ, bZ, eZ, hRZ, hK, has⟩ := h
          have hKs := hK.size
          have hkm : (rowKV R).map (·.1) = (R.map (·.1)).map stK := by
            unfold rowKV
            rw [List.map_map, List.map_map]
            rfl
          refine ⟨_, rfl, _, rfl, kp, rowKV R, rfl, .inl eZ, fun x hx y hy => ?_, fun x hx => ?_, fun rs l hrs hat nl => ?_⟩
          · obtain ⟨t, _, rfl⟩ := List.mem_map.mp hx
            obtain ⟨u, _, rfl⟩ := List.mem_map.mp hy
            simp [Ka.keysD, stK, Ka.keyD, PySem.W.alike, PySem.W.alikeAll]
          · obtain ⟨t, _, rfl⟩ := List.mem_map.mp hx
            simp [stK]
          rw [hkm, ← srt_keys] at hrs
          obtain ⟨L0, eL0, eL1⟩ := zip_keys rs _ hrs
          have sl := same_new (o := .lst (rs.map fun r => V.ref r.1)) nl
          have el : upd Z' l (.lst (rs.map fun r => V.ref r.1)) l = some (.lst (L0.map fun t => V.ref t.1)) := by
            rw [upd_same, ← eL0, List.map_map]
            rfl
          have hat0 : ∀ u ∈ L0, upd Z' l (.lst (rs.map fun r => V.ref r.1)) u.1 = some (.tup (stV u.2)) := fun u hu => by
            have : ((u.1, stK u.2) : Ka.KR) ∈ rs := by rw [← eL0]; exact List.mem_map.mpr ⟨u, hu, rfl⟩
            exact sl _ _ (hat _ this)
          have hlx := Box.ne bZ nl
          have bl := Box.upd (o := .lst (rs.map fun r => V.ref r.1)) bZ hlx
          have kl := kZ.trans (But.of sl)
          have eZl := sl _ _ eZ
          have hRl := hRZ.mono sl
          generalize upd Z' l (.lst (rs.map fun r => V.ref r.1)) = Zl at sl el hat0 bl kl eZl hRl
          have lL0 : L0.length = R.length := by
            have := congrArg List.length eL1
            rw [List.length_map, srt, List.length_mergeSort, List.length_map] at this
            exact this
          refine ⟨x, l, _, rfl, bl, hlx, el, by rw [List.length_map]; omega, fun HK qm ys kM bM nqm eqm pm' => ?_⟩
          obtain ⟨L, pL, eLy⟩ := perm_map_ex (fun t : Addr × Stg => V.ref t.1) ys L0 pm'
          rw [← eLy] at eqm
          have hL1 := eqm
          have hL3 : ∀ u ∈ L, HK u.1 = some (.tup (stV u.2)) := fun u hu => get_box bl kM (hat0 u (pL.mem_iff.mp hu)) (fun _ _ e => nomatch e)
          have lL : L.length ≤ 10000 := by rw [pL.length_eq]; omega
          have pX : (L.map (·.2)).Perm (R.map (·.1)) := by
            refine (pL.map _).trans ?_
            rw [eL1]
            exact List.mergeSort_perm _ _
          have hLr : ∀ u ∈ L, hasR R u.2 = true := fun u hu => hasR_iff.mpr (pX.mem_iff.mp (List.mem_map.mpr ⟨u, hu, rfl⟩))
          have eZK := kM _ _ hkpx eZl
          have hRK := hRl.box bl kM
          have kK := kl.trans kM
          clear nqm eqm pm' eLy kM bl kl eZl hRl hat0 el sl nl hlx hat eL0 ys
          refine ⟨qm, rfl, ⟨_, sqL_new hL1⟩, fun D nD => ?_⟩
          refine lc_it (walk_list (K := K) (a := qm) (xs := L.map fun t => V.ref t.1)) (fun i G => ∃ T : List TQ, Same HK G ∧ G D = some (.lst (T.map fun t => V.ref t.1)) ∧ (T.map fun t => (t.2.1, t.2.2.1)) = L.take i ∧ ∀ t ∈ T, (G t.1 = some (.tup [.ref t.2.1, .ref t.2.2.2.1]) ∧ G t.2.1 = some (.tup (stV t.2.2.1))) ∧ rowA R t.2.2.1 = some t.2.2.2) ⟨[], same_new nD, upd_same, rfl, fun t ht => (nomatch ht)⟩ (fun _ _ _ h => sqL_new (h.choose_spec.1 _ _ hL1)) (fun i y G G' hi h yy => ?_) (fun G h => ?_)
          · obtain ⟨rfl, hy⟩ := yy
            obtain ⟨u, hu, rfl⟩ := get_map hy
            obtain ⟨T, sG, eG, kT, tT⟩ := h
            rw [List.length_map] at hi
            have hum := List.mem_of_getElem? hu
            have lT : T.length ≤ 10000 := by
              have := congrArg List.length kT
              rw [List.length_map, List.length_take] at this
              omega
            have eu := sG _ _ (hL3 u hum)
            obtain ⟨yr, hyr⟩ : ∃ yr, rowA R u.2 = some yr := by
              have h1 : hasR R u.2 = true := hLr u hum
              rw [← rowA_has] at h1
              cases e : rowA R u.2 with
              | none =>
                rw [e] at h1
                cases h1
              | some yr => exact ⟨yr, rfl⟩
            have g : DGet G' kp (.ref u.1) (some (.ref yr.1)) := .inr ⟨rowKV R, stK u.2, u.1, .inl (sG _ _ eZK), rfl, eu, by rw [valV_rows, hyr]; rfl⟩
            refine ⟨rfl, _, rfl, _, rfl, _, rfl, kp, .ref yr.1, rfl, g, smallE (by show 2 ≤ 1000000; decide), fun b nb => ?_⟩
            have sb := same_new (o := .tup [V.ref u.1, V.ref yr.1]) nb
            have eb : upd G' b (.tup [V.ref u.1, V.ref yr.1]) b = some (.tup [V.ref u.1, V.ref yr.1]) := upd_same
            have eD := sb _ _ eG
            have eu := sb _ _ eu
            generalize upd G' b (.tup [V.ref u.1, V.ref yr.1]) = Z at sb eb eD eu
            have kt : ∀ {c : Addr} {xs : List V}, Z c = some (.tup xs) → upd Z D (.lst (T.map (fun t => V.ref t.1) ++ [V.ref b])) c = some (.tup xs) := fun e => by
              rw [upd_ne (fun w => by rw [w, eD] at e; cases e)]
              exact e
            refine ⟨_, eD, by rw [List.length_map]; exact small (by omega), T ++ [(b, u.1, u.2, yr)], fun c o e => ?_, ?_, ?_, fun t ht => ?_⟩
            · rw [upd_ne (ne_of_none e nD)]
              exact sb _ _ (sG _ _ e)
            · rw [upd_same, List.map_append]
              rfl
            · rw [List.map_append, kT, take_of_get hu]
              rfl
            · rcases List.mem_append.mp ht with w | w
              · obtain ⟨⟨a1, a2⟩, a3⟩ := tT t w
                exact ⟨⟨kt (sb _ _ a1), kt (sb _ _ a2)⟩, a3⟩
              · rw [List.mem_singleton.mp w]
                exact ⟨⟨kt eb, kt eu⟩, hyr⟩
          obtain ⟨T, sG, eG, kT, tT⟩ := h
          rw [List.length_map, List.take_of_length_le (Nat.le_refl _)] at kT
          have kX : T.map (·.2.2.1) = L.map (·.2) := by
            rw [← kT, List.map_map]
            rfl
          obtain ⟨ndT, rwT, kyT⟩ := putAll_ok (R0 := R) (T.map fun t => t.2.2) [] List.nodup_nil (fun t ht => (nomatch ht)) (fun t ht => by obtain ⟨u, hu, rfl⟩ := List.mem_map.mp ht; exact (tT u hu).2)
          refine ⟨D, T.map (·.1), tqK T, rfl, by rw [List.map_map]; exact sqL_new eG, tq_paired (fun t ht => (tT t ht).1), fun hd_ nhd => ?_⟩
          rw [tq_merge]
          have sH := sG.trans (same_new (o := .dT (rowKV (tqR T))) nhd)
          have ehd : upd G hd_ (.dT (rowKV (tqR T))) hd_ = some (.dT (rowKV (tqR T))) := upd_same
          generalize upd G hd_ (.dT (rowKV (tqR T))) = HL at sH ehd
          have hRh : RowsAt K HL hd_ (tqR T) := ⟨.inl ehd, fun t ht => Same.sqT sH (hRK.r (t.1, t.2) (rowA_mem (rwT t ht)))⟩
          have hKh : Kept cs us (32767 + j) (tqR T) := hK.of ndT rwT
          have hkk : ∀ y, y ∈ (tqR T).map (·.1) ↔ y ∈ R.map (·.1) := fun y => by
            rw [← pX.mem_iff, ← kX]
            refine (kyT y).symm.trans ?_
            rw [List.map_map]
            exact ⟨fun z => z.elim (fun z => by cases z) id, .inr⟩
          have hrow : ∀ y, rowA (tqR T) y = rowA R y := rowA_eq hK.nd rwT hkk
          have hpk : ((tqR T).map (·.1)).Perm (R.map (·.1)) := perm_nd ndT hK.nd hkk
          have ndh : ((tqR T).map (·.1)).Nodup := ndT
          generalize tqR T = Rh at ehd hRh hKh hkk hrow hpk ndh
          have hRL := hRK.mono sH
          have eZL := sH _ _ eZK
          have bL := bM.mono sH
          have kL := kK.trans (But.of sH)
          have hC := hC.box bI kL
          have epuL := kL _ _ hpux epu
          have edl := get_box bI kL edl (fun _ _ e => nomatch e)
          have hDl := hDl.box bI kL
          have hBk := hBk.box bI kL
          clear sH sG eG kT tT kX ndT rwT kyT nhd nD T hL1 hL3 hLr lL eZK hRK kK bM
          have rwh : RwOk cs ps Rh := hKh.rw (by omega) n15 usnm kP1' hdu
          have rwR : RwOk cs ps R := hK.rw (by omega) n15 usnm kP1' hdu
          refine ⟨_, rfl, _, rfl, _, rfl, bk, pp, hd_, pa, cs, ps, ks, Rh, rfl, hBk, hDl, dok, isd, knm, hRh, rwh, fun HM v1 sM hv1 => ?_⟩
          rw [looksL_same hrow, srt_perm hpk] at hv1
          refine ⟨_, rfl, _, rfl, _, rfl, pa, dl, kp, cs, ps, ks, R, rfl, hC.mono sM, ok, sM _ _ edl, dok, isd, hRL.mono sM, rwR, fun HN v2 sN hv2 => ?_⟩
          have hsh : SeqAt.shaped (lookD (looksL ps ks R cs (srt (R.map (·.1))))) = true := look_sh fun r hr' => by
            have h1 := looksL_mem hr'
            have h2 : r.1 ∈ R.map (·.1) := List.mem_mergeSort.mp h1
            obtain ⟨t, ht, e⟩ := List.mem_map.mp h2
            obtain ⟨c, mc, e1, _⟩ := mem_stagesOf.mp (hK.key t ht)
            rw [← e, ← e1]
            exact (ok.ok c mc).nm
          refine ⟨_, _, look_dp (hv1.mono sN), look_dp hv2, hsh, hsh, ?_⟩
          rw [eqv_sh hsh]
          have sMN := sM.trans sN
          have ehd := sMN _ _ ehd
          have eZN := sMN _ _ eZL
          have hRhN := hRh.mono sMN
          have hRN := hRL.mono sMN
          have bN := bL.mono sMN
          have kN := kL.trans (But.of sMN)
          have hC := hC.mono sMN
          have epuN := sMN _ _ epuL
          have hDl := hDl.mono sMN
          clear hv1 hv2 sM sN sMN hsh hBk edl rwh rwR epuL kL bL hRL eZL hRh
          refine ⟨_, rfl, iteNo rfl ?_⟩
          refine ⟨_, rfl, _, rfl, hd_, kp, rowKV Rh, rowKV R, rfl, rfl, ehd, eZN, ?_, fun p hp => ?_, _, rfl, iteNo rfl ?_⟩
          · unfold rowKV
            rw [List.length_map, List.length_map]
            have := hpk.length_eq
            rwa [List.length_map, List.length_map] at this
          · obtain ⟨t, ht, rfl⟩ := List.mem_map.mp hp
            have hrt : rowA R t.1 = some t.2 := by rw [← hrow]; exact rowA_of ndh ht
            have hsr : SeqAt.shaped (Ka.rowD t.2.2) = true := shR fun z hz => usnm z (hKh.us t ht z hz)
            refine ⟨.ref t.2.1, by show valV (rowKV R) (stK t.1) = _; rw [valV_rows, hrt]; rfl, Ka.rowD t.2.2, .tup (hRhN.r t ht) (dpRs _), .tup (hRhN.r t ht) (dpRs _), hsr, eqv_sh hsr⟩
          clear ehd hRhN hKh hkk hrow hpk ndh
          -- within_by of nothing
          obtain ⟨yc, hyc⟩ : ∃ yc, rowA R (c0.nm, 0) = some yc := by
            have h1 := has
            rw [← rowA_has] at h1
            cases e : rowA R (c0.nm, 0) with
            | none =>
              rw [e] at h1
              cases h1
            | some yc => exact ⟨yc, rfl⟩
          have hycm := rowA_mem hyc
          refine ⟨_, rfl, Nat.zero_le _, fun e0 ne0 => ?_⟩
          have se := same_new (o := .tup []) ne0
          have ee0 : upd HN e0 (.tup []) e0 = some (.tup []) := upd_same
          generalize upd HN e0 (.tup []) = HO_ at se ee0
          refine ⟨_, rfl, _, rfl, pa, _, _, .ref c0.a, rfl, rfl, (hC.mono se).1, atI_nat (j := 0) hcv, c0.a, _, _, .str c0.nm, rfl, rfl, ((hC.mono se).2 c0 mc0).t, rfl, smallE (by show 2 ≤ 1000000; decide), fun t nt => ?_⟩
          have st := same_new (o := .tup [V.str c0.nm, V.int 0]) nt
          have ett : upd HO_ t (.tup [V.str c0.nm, V.int 0]) t = some (.tup (stV (c0.nm, 0))) := upd_same
          generalize upd HO_ t (.tup [V.str c0.nm, V.int 0]) = HP_ at st ett
          have set := se.trans st
          have g3 : DGet HP_ kp (.ref t) (some (.ref yc.1)) := .inr ⟨rowKV R, stK (c0.nm, 0), t, .inl (set _ _ eZN), rfl, ett, by rw [valV_rows, hyc]; rfl⟩
          have lyc : yc.2.length ≤ 32767 + j := hK.len _ hycm
          have nyc : ∀ z ∈ yc.2, isName z = true := fun z hz => usnm z (hK.us _ hycm z hz)
          refine ⟨kp, .ref yc.1, rfl, g3, pp, e0, yc.1, ps, [], yc.2, ks, rfl, hDl.mono set, dok, isd, knm, sqT_new (st _ _ ee0), by show 0 ≤ 100000; decide, fun z hz => (nomatch hz), Same.sqT set (hRN.r _ hycm), by omega, nyc, fun _ _ HQ sQ => ?_, fun i hi => (by cases hi), fun i _ hi => (by rw [bad_sm (fun z hz => desk_us (by rw [kP1']; exact hK.us _ hycm z hz))] at hi; cases hi)⟩
          refine ⟨_, rfl, ?_⟩
          rw [withinB_nil]
          refine iteF ?_
          have sAll := set.trans sQ
          have eZQ := sAll _ _ eZN
          have hRQ := hRN.mono sAll
          have bQ := bN.mono sAll
          have kQ := kN.trans (But.of sAll)
          have epuQ := sAll _ _ epuN
          clear g3 set se st ee0 ett sQ sAll hDl hC bN kN epuN eZN hRN
          -- a stage, its row bent
          refine ⟨_, rfl, _, rfl, kp, rowKV R, rfl, .inl eZQ, fun x hx y hy => ?_, fun x hx => ?_, fun rs2 l2 hrs2 hat2 nl2 => ?_⟩
          · obtain ⟨t, _, rfl⟩ := List.mem_map.mp hx
            obtain ⟨u, _, rfl⟩ := List.mem_map.mp hy
            simp [Ka.keysD, stK, Ka.keyD, PySem.W.alike, PySem.W.alikeAll]
          · obtain ⟨t, _, rfl⟩ := List.mem_map.mp hx
            simp [stK]
          rw [hkm, ← srt_keys] at hrs2
          have lrs2 : rs2.length = R.length := by
            have := congrArg List.length hrs2
            rw [List.length_map, List.length_map, srt, List.length_mergeSort, List.length_map] at this
            exact this
          have hR0' : 0 < R.length := by
            have := List.length_pos_of_mem (hasR_iff.mp has)
            rwa [List.length_map] at this
          have s2 := same_new (o := .lst (rs2.map fun r => V.ref r.1)) nl2
          have hlx2 := Box.ne bQ nl2
          have b2' := Box.upd (o := .lst (rs2.map fun r => V.ref r.1)) bQ hlx2
          refine ⟨x, l2, _, rfl, b2', hlx2, .inl upd_same, by rw [List.length_map]; omega, by rw [List.length_map]; omega, fun ii v HR hv kR bR => ?_⟩
          obtain ⟨ru, hru, rfl⟩ := get_map hv
          have hrum := List.mem_of_getElem? hru
          obtain ⟨xu, hxu, exu⟩ : ∃ xu ∈ R.map (·.1), ru.2 = stK xu := by
            have h1 : ru.2 ∈ rs2.map (·.2) := List.mem_map.mpr ⟨ru, hrum, rfl⟩
            rw [hrs2] at h1
            obtain ⟨xu, h2, e⟩ := List.mem_map.mp h1
            exact ⟨xu, List.mem_mergeSort.mp h2, e.symm⟩
          have kk2 : But x HQ HR := (But.of s2).trans kR
          have hkey : HR ru.1 = some (.tup (stV xu)) := by
            have := get_box b2' kR (s2 _ _ (hat2 ru hrum)) (fun _ _ e => nomatch e)
            rw [exu] at this
            exact this
          have eZR := kk2 _ _ hkpx eZQ
          have hRR := hRQ.box bQ kk2
          have epuR := kk2 _ _ hpux epuQ
          have kR' := kQ.trans kk2
          have hxh : hasR R xu = true := hasR_iff.mpr hxu
          obtain ⟨yu, hyu⟩ : ∃ yu, rowA R xu = some yu := by
            have h1 := hxh
            rw [← rowA_has] at h1
            cases e : rowA R xu with
            | none =>
              rw [e] at h1
              cases h1
            | some yu => exact ⟨yu, rfl⟩
          have hyum := rowA_mem hyu
          have lyu : yu.2.length ≤ 32767 + j := hK.len _ hyum
          have g4 : DGet HR kp (.ref ru.1) (some (.ref yu.1)) := .inr ⟨rowKV R, stK xu, ru.1, .inl eZR, rfl, hkey, by rw [valV_rows, hyu]; rfl⟩
          refine ⟨_, rfl, _, rfl, _, rfl, kp, .ref yu.1, rfl, g4, _, rfl, x, yu.1, pu, yu.2, us, rfl, bR, hRR.r _ hyum, by omega, hpux, epuR, hus0, by omega, fun HS qz zs kS bS hqz hzz hlz => ?_⟩
          have eZS := kS _ _ hkpx eZR
          have hkeyS := get_box bR kS hkey (fun _ _ e => nomatch e)
          have kS' := kR'.trans kS
          have lR : (rowKV R).length < sizeLine := by
            unfold rowKV
            rw [List.length_map]
            exact small (by omega)
          refine ⟨_, rfl, _, rfl, kp, _, rfl, DPut.t (k := stK xu) eZS hkeyS lR, putR R xu (qz, zs), _, _, _, _, _, rfl, fun b o hb e => ?_, Box.upd bS hkpx, ?_, rows_put eZS (hRR.box bR kS) xu hqz, hK.put hxh (fun z hz => (hzz z hz).elim (fun w => hK.us _ hyum z w) id) (by omega), hasR_iff.mpr (by rw [putR_keys, if_pos hxu]; exact hasR_iff.mp has)⟩
          · rw [upd_ne (ne_of_none e nkpI)]
            exact kS' _ _ hb e
          · rw [upd_same]
            exact congrArg (fun z => some (HO.dT z)) (putR_kv R xu (qz, zs))
        · obtain ⟨R, e15, e16, e17, e18, e19, rfl, kZ, bZ, eZ, hRZ, hK, has⟩ := h
          exact ⟨_, _, _, _, _, _, _, _, _, _, _, _, _, _, _, _, _, _, _, rfl, toS (kA.trans kZ)⟩
    · rintro σ H0 ⟨d1, d2, d3, d4, d5, d6, d7, d8, d9, d10, d11, d12, d13, d14, d15, d16, d17, d18, d19, rfl, s00⟩
      exact q _
end
end Kb
namespace Kb
open PySem PySem.Spec PyProof.Rows L2
/-! ### the end: what the top has written -/
theorem all_mk {l : PySem.W.OpenLaw} {w : World} {K : PySem.W.Frag} {h : Heap} {mg : Str → Option Value} {fa CB CRw : Addr} (X : K.In h) (G : h.Ns mainGlobals mg) (hfa : mg "law" = some (.ref fa))
    {fIi fIn fNt fNm fLt fIl fWi fDo fDd fCk fPs fWb fCe fCt fIc fAe fAt fIs fDi fLe fPf fSo fAi fPn fJr fLo fBx fTk fPk fNn fLi fLp fLb fLc fLn fLd fLg fLu fLme fLj fLs fLre fLkk fLx fLbe fLa fBi fBd fBst fBfr fBie fIRw : Addr} {odIi anIi odIn anIn odNt anNt odNm anNm odLt anLt odIl anIl odWi anWi odDo anDo odDd anDd odCk anCk odPs anPs odWb anWb odCe anCe odCt anCt odIc anIc odAe anAe odAt anAt odIs anIs odDi anDi odLe anLe odPf anPf odSo anSo odAi anAi odPn anPn odJr anJr odLo anLo odBx anBx odTk anTk odPk anPk odNn anNn odLi anLi odLp anLp odLb anLb odLc anLc odLn anLn odLd anLd odLg anLg odLu anLu odLme anLme odLj anLj odLs anLs odLre anLre odLkk anLkk odLx anLx odLbe anLbe odLa anLa odBi anBi odBd anBd odBst anBst odBfr anBfr odBie anBie odIRw anIRw : Option Addr} {slIi slIn slNt slNm slLt slIl slWi slDo slDd slCk slPs slWb slCe slCt slIc slAe slAt slIs slDi slLe slPf slSo slAi slPn slJr slLo slBx slTk slPk slNn slLi slLp slLb slLc slLn slLd slLg slLu slLme slLj slLs slLre slLkk slLx slLbe slLa slBi slBd slBst slBfr slBie slIRw : Array (Option Value)}
    {ocIi dcIi pmIi ctIi cdIi kVIi ocIn dcIn pmIn ctIn cdIn kVIn ocNt dcNt pmNt ctNt cdNt kVNt ocNm dcNm pmNm ctNm cdNm kVNm ocLt dcLt pmLt ctLt cdLt kVLt ocIl dcIl pmIl ctIl cdIl kVIl ocWi dcWi pmWi ctWi cdWi kVWi ocDo dcDo pmDo ctDo cdDo kVDo ocDd dcDd pmDd ctDd cdDd kVDd ocCk dcCk pmCk ctCk cdCk kVCk ocPs dcPs pmPs ctPs cdPs kVPs ocWb dcWb pmWb ctWb cdWb kVWb ocCe dcCe pmCe ctCe cdCe kVCe ocCt dcCt pmCt ctCt cdCt kVCt ocIc dcIc pmIc ctIc cdIc kVIc ocAe dcAe pmAe ctAe cdAe kVAe ocAt dcAt pmAt ctAt cdAt kVAt ocIs dcIs pmIs ctIs cdIs kVIs ocDi dcDi pmDi ctDi cdDi kVDi ocLe dcLe pmLe ctLe cdLe kVLe ocPf dcPf pmPf ctPf cdPf kVPf ocSo dcSo pmSo ctSo cdSo kVSo ocAi dcAi pmAi ctAi cdAi kVAi ocPn dcPn pmPn ctPn cdPn kVPn ocJr dcJr pmJr ctJr cdJr kVJr ocLo dcLo pmLo ctLo cdLo kVLo ocBx dcBx pmBx ctBx cdBx kVBx ocTk dcTk pmTk ctTk cdTk kVTk ocPk dcPk pmPk ctPk cdPk kVPk ocNn dcNn pmNn ctNn cdNn kVNn ocLi dcLi pmLi ctLi cdLi kVLi ocLp dcLp pmLp ctLp cdLp kVLp ocLb dcLb pmLb ctLb cdLb kVLb ocLc dcLc pmLc ctLc cdLc kVLc ocLn dcLn pmLn ctLn cdLn kVLn ocLd dcLd pmLd ctLd cdLd kVLd ocLg dcLg pmLg ctLg cdLg kVLg ocLu dcLu pmLu ctLu cdLu kVLu ocLme dcLme pmLme ctLme cdLme kVLme ocLj dcLj pmLj ctLj cdLj kVLj ocLs dcLs pmLs ctLs cdLs kVLs ocLre dcLre pmLre ctLre cdLre kVLre ocLkk dcLkk pmLkk ctLkk cdLkk kVLkk ocLx dcLx pmLx ctLx cdLx kVLx ocLbe dcLbe pmLbe ctLbe cdLbe kVLbe ocLa dcLa pmLa ctLa cdLa kVLa ocBi dcBi pmBi ctBi cdBi kVBi ocBd dcBd pmBd ctBd cdBd kVBd ocBst dcBst pmBst ctBst cdBst kVBst ocBfr dcBfr pmBfr ctBfr cdBfr kVBfr ocBie dcBie pmBie ctBie cdBie kVBie ocIRw dcIRw pmIRw ctIRw cdIRw kVIRw : Value} {t_LONGEST_NAME t_MOST_COURSES t_MOST_STAGES t_MOST_STAGES_TOGETHER t_MOST_DEEDS : Tok}
    (nIi : PySem.W.nsIn K mainGlobals "is_integer" = some (some (.ref fIi)))
    (lIi : K.lookup fIi = some ⟨ocIi, odIi, .func (PySem.W.fnOf "is_integer" "is_integer" (defArgs sIsInt) (defBody sIsInt) (defScope sIsInt) .none kVIi dcIi pmIi anIi cdIi ctIi), slIi⟩)
    (cIi : PySem.W.codeIn K cdIi "is_integer" = true) (kIi : PySem.W.keepIn K (.ref fIi) = true)
    (nIn : PySem.W.nsIn K mainGlobals "is_number" = some (some (.ref fIn)))
    (lIn : K.lookup fIn = some ⟨ocIn, odIn, .func (PySem.W.fnOf "is_number" "is_number" (defArgs sIsNum) (defBody sIsNum) (defScope sIsNum) .none kVIn dcIn pmIn anIn cdIn ctIn), slIn⟩)
    (cIn : PySem.W.codeIn K cdIn "is_number" = true) (kIn : PySem.W.keepIn K (.ref fIn) = true)
    (nNt : PySem.W.nsIn K mainGlobals "is_number_to" = some (some (.ref fNt)))
    (lNt : K.lookup fNt = some ⟨ocNt, odNt, .func (PySem.W.fnOf "is_number_to" "is_number_to" (defArgs sIsNumTo) (defBody sIsNumTo) (defScope sIsNumTo) .none kVNt dcNt pmNt anNt cdNt ctNt), slNt⟩)
    (cNt : PySem.W.codeIn K cdNt "is_number_to" = true) (kNt : PySem.W.keepIn K (.ref fNt) = true)
    (nNm : PySem.W.nsIn K mainGlobals "is_name" = some (some (.ref fNm)))
    (lNm : K.lookup fNm = some ⟨ocNm, odNm, .func (PySem.W.fnOf "is_name" "is_name" (defArgs sName) (defBody sName) (defScope sName) .none kVNm dcNm pmNm anNm cdNm ctNm), slNm⟩)
    (cNm : PySem.W.codeIn K cdNm "is_name" = true) (kNm : PySem.W.keepIn K (.ref fNm) = true)
    (nLt : PySem.W.nsIn K mainGlobals "is_letter" = some (some (.ref fLt)))
    (lLt : K.lookup fLt = some ⟨ocLt, odLt, .func (PySem.W.fnOf "is_letter" "is_letter" (defArgs sLetter) (defBody sLetter) (defScope sLetter) .none kVLt dcLt pmLt anLt cdLt ctLt), slLt⟩)
    (cLt : PySem.W.codeIn K cdLt "is_letter" = true) (kLt : PySem.W.keepIn K (.ref fLt) = true)
    (nIl : PySem.W.nsIn K mainGlobals "is_lot" = some (some (.ref fIl)))
    (lIl : K.lookup fIl = some ⟨ocIl, odIl, .func (PySem.W.fnOf "is_lot" "is_lot" (defArgs sIsLot) (defBody sIsLot) (defScope sIsLot) .none kVIl dcIl pmIl anIl cdIl ctIl), slIl⟩)
    (cIl : PySem.W.codeIn K cdIl "is_lot" = true) (kIl : PySem.W.keepIn K (.ref fIl) = true)
    (nWi : PySem.W.nsIn K mainGlobals "within" = some (some (.ref fWi)))
    (lWi : K.lookup fWi = some ⟨ocWi, odWi, .func (PySem.W.fnOf "within" "within" (defArgs sWithin) (defBody sWithin) (defScope sWithin) .none kVWi dcWi pmWi anWi cdWi ctWi), slWi⟩)
    (cWi : PySem.W.codeIn K cdWi "within" = true) (kWi : PySem.W.keepIn K (.ref fWi) = true)
    (nDo : PySem.W.nsIn K mainGlobals "desks_of" = some (some (.ref fDo)))
    (lDo : K.lookup fDo = some ⟨ocDo, odDo, .func (PySem.W.fnOf "desks_of" "desks_of" (defArgs sDesksOf) (defBody sDesksOf) (defScope sDesksOf) .none kVDo dcDo pmDo anDo cdDo ctDo), slDo⟩)
    (cDo : PySem.W.codeIn K cdDo "desks_of" = true) (kDo : PySem.W.keepIn K (.ref fDo) = true)
    (nDd : PySem.W.nsIn K mainGlobals "desks_by_deed" = some (some (.ref fDd)))
    (lDd : K.lookup fDd = some ⟨ocDd, odDd, .func (PySem.W.fnOf "desks_by_deed" "desks_by_deed" (defArgs sByDeed) (defBody sByDeed) (defScope sByDeed) .none kVDd dcDd pmDd anDd cdDd ctDd), slDd⟩)
    (cDd : PySem.W.codeIn K cdDd "desks_by_deed" = true) (kDd : PySem.W.keepIn K (.ref fDd) = true)
    (nCk : PySem.W.nsIn K mainGlobals "check_deeds" = some (some (.ref fCk)))
    (lCk : K.lookup fCk = some ⟨ocCk, odCk, .func (PySem.W.fnOf "check_deeds" "check_deeds" (defArgs sChDeeds) (defBody sChDeeds) (defScope sChDeeds) .none kVCk dcCk pmCk anCk cdCk ctCk), slCk⟩)
    (cCk : PySem.W.codeIn K cdCk "check_deeds" = true) (kCk : PySem.W.keepIn K (.ref fCk) = true)
    (nPs : PySem.W.nsIn K mainGlobals "parts" = some (some (.ref fPs)))
    (lPs : K.lookup fPs = some ⟨ocPs, odPs, .func (PySem.W.fnOf "parts" "parts" (defArgs sParts) (defBody sParts) (defScope sParts) .none kVPs dcPs pmPs anPs cdPs ctPs), slPs⟩)
    (cPs : PySem.W.codeIn K cdPs "parts" = true) (kPs : PySem.W.keepIn K (.ref fPs) = true)
    (nWb : PySem.W.nsIn K mainGlobals "within_by" = some (some (.ref fWb)))
    (lWb : K.lookup fWb = some ⟨ocWb, odWb, .func (PySem.W.fnOf "within_by" "within_by" (defArgs sWithinBy) (defBody sWithinBy) (defScope sWithinBy) .none kVWb dcWb pmWb anWb cdWb ctWb), slWb⟩)
    (cWb : PySem.W.codeIn K cdWb "within_by" = true) (kWb : PySem.W.keepIn K (.ref fWb) = true)
    (nCe : PySem.W.nsIn K mainGlobals "check_each" = some (some (.ref fCe)))
    (lCe : K.lookup fCe = some ⟨ocCe, odCe, .func (PySem.W.fnOf "check_each" "check_each" (defArgs sChEach) (defBody sChEach) (defScope sChEach) .none kVCe dcCe pmCe anCe cdCe ctCe), slCe⟩)
    (cCe : PySem.W.codeIn K cdCe "check_each" = true) (kCe : PySem.W.keepIn K (.ref fCe) = true)
    (nCt : PySem.W.nsIn K mainGlobals "check_together" = some (some (.ref fCt)))
    (lCt : K.lookup fCt = some ⟨ocCt, odCt, .func (PySem.W.fnOf "check_together" "check_together" (defArgs sChTog) (defBody sChTog) (defScope sChTog) .none kVCt dcCt pmCt anCt cdCt ctCt), slCt⟩)
    (cCt : PySem.W.codeIn K cdCt "check_together" = true) (kCt : PySem.W.keepIn K (.ref fCt) = true)
    (nIc : PySem.W.nsIn K mainGlobals "is_course" = some (some (.ref fIc)))
    (lIc : K.lookup fIc = some ⟨ocIc, odIc, .func (PySem.W.fnOf "is_course" "is_course" (defArgs sIsCourse) (defBody sIsCourse) (defScope sIsCourse) .none kVIc dcIc pmIc anIc cdIc ctIc), slIc⟩)
    (cIc : PySem.W.codeIn K cdIc "is_course" = true) (kIc : PySem.W.keepIn K (.ref fIc) = true)
    (nAe : PySem.W.nsIn K mainGlobals "are_ends" = some (some (.ref fAe)))
    (lAe : K.lookup fAe = some ⟨ocAe, odAe, .func (PySem.W.fnOf "are_ends" "are_ends" (defArgs sAreEnds) (defBody sAreEnds) (defScope sAreEnds) .none kVAe dcAe pmAe anAe cdAe ctAe), slAe⟩)
    (cAe : PySem.W.codeIn K cdAe "are_ends" = true) (kAe : PySem.W.keepIn K (.ref fAe) = true)
    (nAt : PySem.W.nsIn K mainGlobals "are_steps" = some (some (.ref fAt)))
    (lAt : K.lookup fAt = some ⟨ocAt, odAt, .func (PySem.W.fnOf "are_steps" "are_steps" (defArgs sAreSteps) (defBody sAreSteps) (defScope sAreSteps) .none kVAt dcAt pmAt anAt cdAt ctAt), slAt⟩)
    (cAt : PySem.W.codeIn K cdAt "are_steps" = true) (kAt : PySem.W.keepIn K (.ref fAt) = true)
    (nIs : PySem.W.nsIn K mainGlobals "is_step" = some (some (.ref fIs)))
    (lIs : K.lookup fIs = some ⟨ocIs, odIs, .func (PySem.W.fnOf "is_step" "is_step" (defArgs sIsStep) (defBody sIsStep) (defScope sIsStep) .none kVIs dcIs pmIs anIs cdIs ctIs), slIs⟩)
    (cIs : PySem.W.codeIn K cdIs "is_step" = true) (kIs : PySem.W.keepIn K (.ref fIs) = true)
    (nDi : PySem.W.nsIn K mainGlobals "deeds_in" = some (some (.ref fDi)))
    (lDi : K.lookup fDi = some ⟨ocDi, odDi, .func (PySem.W.fnOf "deeds_in" "deeds_in" (defArgs sDeedsIn) (defBody sDeedsIn) (defScope sDeedsIn) .none kVDi dcDi pmDi anDi cdDi ctDi), slDi⟩)
    (cDi : PySem.W.codeIn K cdDi "deeds_in" = true) (kDi : PySem.W.keepIn K (.ref fDi) = true)
    (nLe : PySem.W.nsIn K mainGlobals "leaving_of" = some (some (.ref fLe)))
    (lLe : K.lookup fLe = some ⟨ocLe, odLe, .func (PySem.W.fnOf "leaving_of" "leaving_of" (defArgs sLeaving) (defBody sLeaving) (defScope sLeaving) .none kVLe dcLe pmLe anLe cdLe ctLe), slLe⟩)
    (cLe : PySem.W.codeIn K cdLe "leaving_of" = true) (kLe : PySem.W.keepIn K (.ref fLe) = true)
    (nPf : PySem.W.nsIn K mainGlobals "parts_of" = some (some (.ref fPf)))
    (lPf : K.lookup fPf = some ⟨ocPf, odPf, .func (PySem.W.fnOf "parts_of" "parts_of" (defArgs sPartsOf) (defBody sPartsOf) (defScope sPartsOf) .none kVPf dcPf pmPf anPf cdPf ctPf), slPf⟩)
    (cPf : PySem.W.codeIn K cdPf "parts_of" = true) (kPf : PySem.W.keepIn K (.ref fPf) = true)
    (nSo : PySem.W.nsIn K mainGlobals "steps_out" = some (some (.ref fSo)))
    (lSo : K.lookup fSo = some ⟨ocSo, odSo, .func (PySem.W.fnOf "steps_out" "steps_out" (defArgs sStepsOut) (defBody sStepsOut) (defScope sStepsOut) .none kVSo dcSo pmSo anSo cdSo ctSo), slSo⟩)
    (cSo : PySem.W.codeIn K cdSo "steps_out" = true) (kSo : PySem.W.keepIn K (.ref fSo) = true)
    (nAi : PySem.W.nsIn K mainGlobals "all_in" = some (some (.ref fAi)))
    (lAi : K.lookup fAi = some ⟨ocAi, odAi, .func (PySem.W.fnOf "all_in" "all_in" (defArgs sAllIn) (defBody sAllIn) (defScope sAllIn) .none kVAi dcAi pmAi anAi cdAi ctAi), slAi⟩)
    (cAi : PySem.W.codeIn K cdAi "all_in" = true) (kAi : PySem.W.keepIn K (.ref fAi) = true)
    (nPn : PySem.W.nsIn K mainGlobals "plain" = some (some (.ref fPn)))
    (lPn : K.lookup fPn = some ⟨ocPn, odPn, .func (PySem.W.fnOf "plain" "plain" (defArgs sPlain) (defBody sPlain) (defScope sPlain) .none kVPn dcPn pmPn anPn cdPn ctPn), slPn⟩)
    (cPn : PySem.W.codeIn K cdPn "plain" = true) (kPn : PySem.W.keepIn K (.ref fPn) = true)
    (nJr : PySem.W.nsIn K mainGlobals "joined_row" = some (some (.ref fJr)))
    (lJr : K.lookup fJr = some ⟨ocJr, odJr, .func (PySem.W.fnOf "joined_row" "joined_row" (defArgs sJoinedRow) (defBody sJoinedRow) (defScope sJoinedRow) .none kVJr dcJr pmJr anJr cdJr ctJr), slJr⟩)
    (cJr : PySem.W.codeIn K cdJr "joined_row" = true) (kJr : PySem.W.keepIn K (.ref fJr) = true)
    (nLo : PySem.W.nsIn K mainGlobals "looks_by" = some (some (.ref fLo)))
    (lLo : K.lookup fLo = some ⟨ocLo, odLo, .func (PySem.W.fnOf "looks_by" "looks_by" (defArgs sLooksBy) (defBody sLooksBy) (defScope sLooksBy) .none kVLo dcLo pmLo anLo cdLo ctLo), slLo⟩)
    (cLo : PySem.W.codeIn K cdLo "looks_by" = true) (kLo : PySem.W.keepIn K (.ref fLo) = true)
    (nBx : PySem.W.nsIn K mainGlobals "_law_box" = some (some (.ref fBx)))
    (lBx : K.lookup fBx = some ⟨ocBx, odBx, .func (PySem.W.fnOf "_law_box" "_law_box" (defArgs sBox) (defBody sBox) (defScope sBox) .none kVBx dcBx pmBx anBx cdBx ctBx), slBx⟩)
    (cBx : PySem.W.codeIn K cdBx "_law_box" = true) (kBx : PySem.W.keepIn K (.ref fBx) = true)
    (nTk : PySem.W.nsIn K mainGlobals "_law_take" = some (some (.ref fTk)))
    (lTk : K.lookup fTk = some ⟨ocTk, odTk, .func (PySem.W.fnOf "_law_take" "_law_take" (defArgs sTake) (defBody sTake) (defScope sTake) .none kVTk dcTk pmTk anTk cdTk ctTk), slTk⟩)
    (cTk : PySem.W.codeIn K cdTk "_law_take" = true) (kTk : PySem.W.keepIn K (.ref fTk) = true)
    (nPk : PySem.W.nsIn K mainGlobals "_law_pick" = some (some (.ref fPk)))
    (lPk : K.lookup fPk = some ⟨ocPk, odPk, .func (PySem.W.fnOf "_law_pick" "_law_pick" (defArgs sPick) (defBody sPick) (defScope sPick) .none kVPk dcPk pmPk anPk cdPk ctPk), slPk⟩)
    (cPk : PySem.W.codeIn K cdPk "_law_pick" = true) (kPk : PySem.W.keepIn K (.ref fPk) = true)
    (nNn : PySem.W.nsIn K mainGlobals "_law_names" = some (some (.ref fNn)))
    (lNn : K.lookup fNn = some ⟨ocNn, odNn, .func (PySem.W.fnOf "_law_names" "_law_names" (defArgs sNames) (defBody sNames) (defScope sNames) .none kVNn dcNn pmNn anNn cdNn ctNn), slNn⟩)
    (cNn : PySem.W.codeIn K cdNn "_law_names" = true) (kNn : PySem.W.keepIn K (.ref fNn) = true)
    (nLi : PySem.W.nsIn K mainGlobals "_law_in" = some (some (.ref fLi)))
    (lLi : K.lookup fLi = some ⟨ocLi, odLi, .func (PySem.W.fnOf "_law_in" "_law_in" (defArgs sLawIn) (defBody sLawIn) (defScope sLawIn) .none kVLi dcLi pmLi anLi cdLi ctLi), slLi⟩)
    (cLi : PySem.W.codeIn K cdLi "_law_in" = true) (kLi : PySem.W.keepIn K (.ref fLi) = true)
    (nLp : PySem.W.nsIn K mainGlobals "_law_part" = some (some (.ref fLp)))
    (lLp : K.lookup fLp = some ⟨ocLp, odLp, .func (PySem.W.fnOf "_law_part" "_law_part" (defArgs sLawPart) (defBody sLawPart) (defScope sLawPart) .none kVLp dcLp pmLp anLp cdLp ctLp), slLp⟩)
    (cLp : PySem.W.codeIn K cdLp "_law_part" = true) (kLp : PySem.W.keepIn K (.ref fLp) = true)
    (nLb : PySem.W.nsIn K mainGlobals "_law_by" = some (some (.ref fLb)))
    (lLb : K.lookup fLb = some ⟨ocLb, odLb, .func (PySem.W.fnOf "_law_by" "_law_by" (defArgs sLawBy) (defBody sLawBy) (defScope sLawBy) .none kVLb dcLb pmLb anLb cdLb ctLb), slLb⟩)
    (cLb : PySem.W.codeIn K cdLb "_law_by" = true) (kLb : PySem.W.keepIn K (.ref fLb) = true)
    (nLc : PySem.W.nsIn K mainGlobals "_law_course" = some (some (.ref fLc)))
    (lLc : K.lookup fLc = some ⟨ocLc, odLc, .func (PySem.W.fnOf "_law_course" "_law_course" (defArgs sLawCourse) (defBody sLawCourse) (defScope sLawCourse) .none kVLc dcLc pmLc anLc cdLc ctLc), slLc⟩)
    (cLc : PySem.W.codeIn K cdLc "_law_course" = true) (kLc : PySem.W.keepIn K (.ref fLc) = true)
    (nLn : PySem.W.nsIn K mainGlobals "_law_by_name" = some (some (.ref fLn)))
    (lLn : K.lookup fLn = some ⟨ocLn, odLn, .func (PySem.W.fnOf "_law_by_name" "_law_by_name" (defArgs sLawByName) (defBody sLawByName) (defScope sLawByName) .none kVLn dcLn pmLn anLn cdLn ctLn), slLn⟩)
    (cLn : PySem.W.codeIn K cdLn "_law_by_name" = true) (kLn : PySem.W.keepIn K (.ref fLn) = true)
    (nLd : PySem.W.nsIn K mainGlobals "_law_named" = some (some (.ref fLd)))
    (lLd : K.lookup fLd = some ⟨ocLd, odLd, .func (PySem.W.fnOf "_law_named" "_law_named" (defArgs sLawNamed) (defBody sLawNamed) (defScope sLawNamed) .none kVLd dcLd pmLd anLd cdLd ctLd), slLd⟩)
    (cLd : PySem.W.codeIn K cdLd "_law_named" = true) (kLd : PySem.W.keepIn K (.ref fLd) = true)
    (nLg : PySem.W.nsIn K mainGlobals "_law_off" = some (some (.ref fLg)))
    (lLg : K.lookup fLg = some ⟨ocLg, odLg, .func (PySem.W.fnOf "_law_off" "_law_off" (defArgs sLawOff) (defBody sLawOff) (defScope sLawOff) .none kVLg dcLg pmLg anLg cdLg ctLg), slLg⟩)
    (cLg : PySem.W.codeIn K cdLg "_law_off" = true) (kLg : PySem.W.keepIn K (.ref fLg) = true)
    (nLu : PySem.W.nsIn K mainGlobals "_law_used" = some (some (.ref fLu)))
    (lLu : K.lookup fLu = some ⟨ocLu, odLu, .func (PySem.W.fnOf "_law_used" "_law_used" (defArgs sLawUsed) (defBody sLawUsed) (defScope sLawUsed) .none kVLu dcLu pmLu anLu cdLu ctLu), slLu⟩)
    (cLu : PySem.W.codeIn K cdLu "_law_used" = true) (kLu : PySem.W.keepIn K (.ref fLu) = true)
    (nLme : PySem.W.nsIn K mainGlobals "_law_menu" = some (some (.ref fLme)))
    (lLme : K.lookup fLme = some ⟨ocLme, odLme, .func (PySem.W.fnOf "_law_menu" "_law_menu" (defArgs sLawMenu) (defBody sLawMenu) (defScope sLawMenu) .none kVLme dcLme pmLme anLme cdLme ctLme), slLme⟩)
    (cLme : PySem.W.codeIn K cdLme "_law_menu" = true) (kLme : PySem.W.keepIn K (.ref fLme) = true)
    (nLj : PySem.W.nsIn K mainGlobals "_law_joined" = some (some (.ref fLj)))
    (lLj : K.lookup fLj = some ⟨ocLj, odLj, .func (PySem.W.fnOf "_law_joined" "_law_joined" (defArgs sLawJoined) (defBody sLawJoined) (defScope sLawJoined) .none kVLj dcLj pmLj anLj cdLj ctLj), slLj⟩)
    (cLj : PySem.W.codeIn K cdLj "_law_joined" = true) (kLj : PySem.W.keepIn K (.ref fLj) = true)
    (nLs : PySem.W.nsIn K mainGlobals "_law_shortest" = some (some (.ref fLs)))
    (lLs : K.lookup fLs = some ⟨ocLs, odLs, .func (PySem.W.fnOf "_law_shortest" "_law_shortest" (defArgs sLawShortest) (defBody sLawShortest) (defScope sLawShortest) .none kVLs dcLs pmLs anLs cdLs ctLs), slLs⟩)
    (cLs : PySem.W.codeIn K cdLs "_law_shortest" = true) (kLs : PySem.W.keepIn K (.ref fLs) = true)
    (nLre : PySem.W.nsIn K mainGlobals "_law_reached" = some (some (.ref fLre)))
    (lLre : K.lookup fLre = some ⟨ocLre, odLre, .func (PySem.W.fnOf "_law_reached" "_law_reached" (defArgs sLawReached) (defBody sLawReached) (defScope sLawReached) .none kVLre dcLre pmLre anLre cdLre ctLre), slLre⟩)
    (cLre : PySem.W.codeIn K cdLre "_law_reached" = true) (kLre : PySem.W.keepIn K (.ref fLre) = true)
    (nLkk : PySem.W.nsIn K mainGlobals "_law_looks" = some (some (.ref fLkk)))
    (lLkk : K.lookup fLkk = some ⟨ocLkk, odLkk, .func (PySem.W.fnOf "_law_looks" "_law_looks" (defArgs sLawLooks) (defBody sLawLooks) (defScope sLawLooks) .none kVLkk dcLkk pmLkk anLkk cdLkk ctLkk), slLkk⟩)
    (cLkk : PySem.W.codeIn K cdLkk "_law_looks" = true) (kLkk : PySem.W.keepIn K (.ref fLkk) = true)
    (nLx : PySem.W.nsIn K mainGlobals "_law_mixed" = some (some (.ref fLx)))
    (lLx : K.lookup fLx = some ⟨ocLx, odLx, .func (PySem.W.fnOf "_law_mixed" "_law_mixed" (defArgs sLawMixed) (defBody sLawMixed) (defScope sLawMixed) .none kVLx dcLx pmLx anLx cdLx ctLx), slLx⟩)
    (cLx : PySem.W.codeIn K cdLx "_law_mixed" = true) (kLx : PySem.W.keepIn K (.ref fLx) = true)
    (nLbe : PySem.W.nsIn K mainGlobals "_law_bent" = some (some (.ref fLbe)))
    (lLbe : K.lookup fLbe = some ⟨ocLbe, odLbe, .func (PySem.W.fnOf "_law_bent" "_law_bent" (defArgs sLawBent) (defBody sLawBent) (defScope sLawBent) .none kVLbe dcLbe pmLbe anLbe cdLbe ctLbe), slLbe⟩)
    (cLbe : PySem.W.codeIn K cdLbe "_law_bent" = true) (kLbe : PySem.W.keepIn K (.ref fLbe) = true)
    (nLa : PySem.W.nsIn K mainGlobals "law" = some (some (.ref fLa)))
    (lLa : K.lookup fLa = some ⟨ocLa, odLa, .func (PySem.W.fnOf "law" "law" (defArgs sLaw) (defBody sLaw) (defScope sLaw) .none kVLa dcLa pmLa anLa cdLa ctLa), slLa⟩)
    (cLa : PySem.W.codeIn K cdLa "law" = true) (kLa : PySem.W.keepIn K (.ref fLa) = true)
    (aCB : PySem.W.nsIn K mainGlobals "Book" = some (some (.ref CB))) (pgB : PySem.W.plainGet K CB Str.empty = true) (hdB : PySem.W.hasDictIn K CB = true) (poB : PySem.W.plainOver K CB = true) (saB : PySem.W.findIn K (.ref CB) "__setattr__" = some (some (.builtin "object.__setattr__"))) (mkB : PySem.W.makesIn K CB = true) (kcB : PySem.W.keepIn K (.ref CB) = true)
    (aBi : PySem.W.findIn K (.ref CB) "__init__" = some (some (.ref fBi))) (iBi : PySem.W.isFn K (.ref fBi) = true)
    (lBi : K.lookup fBi = some ⟨ocBi, odBi, .func (PySem.W.fnOf "__init__" "Book.__init__" (defArgs sBkInit) (defBody sBkInit) (defScope sBkInit) .none kVBi dcBi pmBi anBi cdBi ctBi), slBi⟩)
    (cBi : PySem.W.codeIn K cdBi "Book.__init__" = true) (kBi : PySem.W.keepIn K (.ref fBi) = true)
    (aBd : PySem.W.findIn K (.ref CB) "deeds" = some (some (.ref fBd))) (iBd : PySem.W.isFn K (.ref fBd) = true)
    (lBd : K.lookup fBd = some ⟨ocBd, odBd, .func (PySem.W.fnOf "deeds" "Book.deeds" (defArgs sBkDeeds) (defBody sBkDeeds) (defScope sBkDeeds) .none kVBd dcBd pmBd anBd cdBd ctBd), slBd⟩)
    (cBd : PySem.W.codeIn K cdBd "Book.deeds" = true) (kBd : PySem.W.keepIn K (.ref fBd) = true)
    (aBst : PySem.W.findIn K (.ref CB) "steps" = some (some (.ref fBst))) (iBst : PySem.W.isFn K (.ref fBst) = true)
    (lBst : K.lookup fBst = some ⟨ocBst, odBst, .func (PySem.W.fnOf "steps" "Book.steps" (defArgs sBkSteps) (defBody sBkSteps) (defScope sBkSteps) .none kVBst dcBst pmBst anBst cdBst ctBst), slBst⟩)
    (cBst : PySem.W.codeIn K cdBst "Book.steps" = true) (kBst : PySem.W.keepIn K (.ref fBst) = true)
    (aBfr : PySem.W.findIn K (.ref CB) "steps_from" = some (some (.ref fBfr))) (iBfr : PySem.W.isFn K (.ref fBfr) = true)
    (lBfr : K.lookup fBfr = some ⟨ocBfr, odBfr, .func (PySem.W.fnOf "steps_from" "Book.steps_from" (defArgs sBkFrom) (defBody sBkFrom) (defScope sBkFrom) .none kVBfr dcBfr pmBfr anBfr cdBfr ctBfr), slBfr⟩)
    (cBfr : PySem.W.codeIn K cdBfr "Book.steps_from" = true) (kBfr : PySem.W.keepIn K (.ref fBfr) = true)
    (aBie : PySem.W.findIn K (.ref CB) "is_end" = some (some (.ref fBie))) (iBie : PySem.W.isFn K (.ref fBie) = true)
    (lBie : K.lookup fBie = some ⟨ocBie, odBie, .func (PySem.W.fnOf "is_end" "Book.is_end" (defArgs sBkIsEnd) (defBody sBkIsEnd) (defScope sBkIsEnd) .none kVBie dcBie pmBie anBie cdBie ctBie), slBie⟩)
    (cBie : PySem.W.codeIn K cdBie "Book.is_end" = true) (kBie : PySem.W.keepIn K (.ref fBie) = true)
    (naB0 : PySem.W.findIn K (.ref CB) "courses" = some none)
    (naB1 : PySem.W.findIn K (.ref CB) "_places" = some none)
    (naB2 : PySem.W.findIn K (.ref CB) "_stages" = some none)
    (naB3 : PySem.W.findIn K (.ref CB) "_ends" = some none)
    (naB4 : PySem.W.findIn K (.ref CB) "_leaving" = some none)
    {nmRw qRw : Str} {NnRw : Addr} {bsRw bmRw : List Value} {snRw : List Str} {subRw : List Value} {abRw : Bool} {colRw : Option Bool} {ddRw : Option Addr} {m0Rw m1Rw m2Rw m3Rw m5Rw : Option Value}
    (aCRw : PySem.W.nsIn K mainGlobals "InvalidRow" = some (some (.ref CRw)))
    (xLRw : K.lookup CRw = some (excClassObj nmRw qRw CRw NnRw bsRw bmRw true snRw subRw abRw colRw ddRw m0Rw m1Rw m2Rw m3Rw m5Rw "ValueError.__new__")) (hbRw : PySem.HandSPX.refsVE bmRw = true)
    (saRw : PySem.W.findIn K (.ref CRw) "__setattr__" = some (some (.builtin "object.__setattr__"))) (gaRw : PySem.W.findIn K (.ref CRw) "__getattribute__" = some (some (.builtin "BaseException.__getattribute__"))) (ggRw : PySem.W.findIn K (.ref CRw) "__getattr__" = some none) (noRw : PySem.W.findIn K (.ref CRw) "at" = some none)
    (aIRw : PySem.W.findIn K (.ref CRw) "__init__" = some (some (.ref fIRw))) (tIRw : PySem.W.typeIn K (.ref fIRw) = some (.type "function"))
    (lIRw : K.lookup fIRw = some ⟨ocIRw, odIRw, .func (PySem.W.fnOf "__init__" "InvalidRow.__init__" (defArgs sRowInit) (defBody sRowInit) (defScope sRowInit) .none kVIRw dcIRw pmIRw anIRw cdIRw ctIRw), slIRw⟩)
    (cIRw : PySem.W.codeIn K cdIRw "InvalidRow.__init__" = true) (kIRw : PySem.W.keepIn K (.ref fIRw) = true)
    (kXRw : PySem.W.keepIn K (.ref CRw) = true) (eXRw : PySem.W.subIn K (.ref CRw) (.type "BaseException") = some true) (tXRw : PySem.W.typeIn K (.ref CRw) = some (.type "type")) (hXRw : PySem.W.hasDictIn K CRw = true) (iXRw : PySem.W.isClsIn K CRw = true) (sXRw : PySem.W.subIn K (.ref CRw) (.ref CRw) = some true)
    (xcRw : PySem.W.findIn K (.ref CRw) "__class__" = some (some (.builtin "object.__class__"))) (xmRw : PySem.W.mroIn K CRw (.type "object") = some true)
    (xn : PySem.W.specialIn K (.builtin "object.__class__") "__get__" = some (some (.builtin "getset_descriptor.__get__"))) (xt : PySem.W.takesIn K (.builtin "object.__class__") = some true)
    (v_LONGEST_NAME : PySem.W.nsIn K mainGlobals "LONGEST_NAME" = some (some (.int 5 t_LONGEST_NAME)))
    (v_MOST_COURSES : PySem.W.nsIn K mainGlobals "MOST_COURSES" = some (some (.int 8 t_MOST_COURSES)))
    (v_MOST_STAGES : PySem.W.nsIn K mainGlobals "MOST_STAGES" = some (some (.int 20 t_MOST_STAGES)))
    (v_MOST_STAGES_TOGETHER : PySem.W.nsIn K mainGlobals "MOST_STAGES_TOGETHER" = some (some (.int 60 t_MOST_STAGES_TOGETHER)))
    (v_MOST_DEEDS : PySem.W.nsIn K mainGlobals "MOST_DEEDS" = some (some (.int 12 t_MOST_DEEDS)))
    (z_len : PySem.W.nsIn K mainGlobals "len" = some none) (z_range : PySem.W.nsIn K mainGlobals "range" = some none) (z_iter : PySem.W.nsIn K mainGlobals "iter" = some none) (z_enumerate : PySem.W.nsIn K mainGlobals "enumerate" = some none) (z_reversed : PySem.W.nsIn K mainGlobals "reversed" = some none) (z_tuple : PySem.W.nsIn K mainGlobals "tuple" = some none) (z_list : PySem.W.nsIn K mainGlobals "list" = some none) (z_sorted : PySem.W.nsIn K mainGlobals "sorted" = some none) (z_any : PySem.W.nsIn K mainGlobals "any" = some none) (z_all : PySem.W.nsIn K mainGlobals "all" = some none) (z_int : PySem.W.nsIn K mainGlobals "int" = some none) (z_str : PySem.W.nsIn K mainGlobals "str" = some none) (z_bool : PySem.W.nsIn K mainGlobals "bool" = some none) (z_abs : PySem.W.nsIn K mainGlobals "abs" = some none) (z_min : PySem.W.nsIn K mainGlobals "min" = some none) (z_max : PySem.W.nsIn K mainGlobals "max" = some none) (z_sum : PySem.W.nsIn K mainGlobals "sum" = some none) (z_isinstance : PySem.W.nsIn K mainGlobals "isinstance" = some none) (z_ValueError : PySem.W.nsIn K mainGlobals "ValueError" = some none) (z_dict : PySem.W.nsIn K mainGlobals "dict" = some none) (z_set : PySem.W.nsIn K mainGlobals "set" = some none) :
    LamX.LawAtS l w K CX0 11 63 "script" mg fa h := by
  have e := hfa.symm.trans (PySem.W.mg_of X G nLa)
  cases e
  have m_len := PySem.W.mg_none_of X G z_len
  have m_range := PySem.W.mg_none_of X G z_range
  have m_iter := PySem.W.mg_none_of X G z_iter
  have m_enumerate := PySem.W.mg_none_of X G z_enumerate
  have m_reversed := PySem.W.mg_none_of X G z_reversed
  have m_tuple := PySem.W.mg_none_of X G z_tuple
  have m_list := PySem.W.mg_none_of X G z_list
  have m_sorted := PySem.W.mg_none_of X G z_sorted
  have m_any := PySem.W.mg_none_of X G z_any
  have m_all := PySem.W.mg_none_of X G z_all
  have m_int := PySem.W.mg_none_of X G z_int
  have m_str := PySem.W.mg_none_of X G z_str
  have m_bool := PySem.W.mg_none_of X G z_bool
  have m_abs := PySem.W.mg_none_of X G z_abs
  have m_min := PySem.W.mg_none_of X G z_min
  have m_max := PySem.W.mg_none_of X G z_max
  have m_sum := PySem.W.mg_none_of X G z_sum
  have m_isinstance := PySem.W.mg_none_of X G z_isinstance
  have m_ValueError := PySem.W.mg_none_of X G z_ValueError
  have m_dict := PySem.W.mg_none_of X G z_dict
  have m_set := PySem.W.mg_none_of X G z_set
  have N : Nones mg := ⟨m_len, m_range, m_iter, m_enumerate, m_reversed, m_tuple, m_list, m_sorted, m_any, m_all, m_int, m_str, m_bool, m_abs, m_min, m_max, m_sum, m_isinstance, m_ValueError⟩
  have FIi := fun_mk (st := sIsInt) lIi cIi kIi
  have bIi := FIi.binds (ps := ["value"]) fun _ _ _ _ _ _ us hl => match us, hl with | [_], _ => rfl
  have gIi := PySem.W.mg_of X G nIi
  have CIi : CallC K mg "is_integer" ["value"] fIi _ := ⟨gIi, kIi, bIi⟩
  have FIn := fun_mk (st := sIsNum) lIn cIn kIn
  have bIn := FIn.binds (ps := ["value"]) fun _ _ _ _ _ _ us hl => match us, hl with | [_], _ => rfl
  have gIn := PySem.W.mg_of X G nIn
  have CIn : CallC K mg "is_number" ["value"] fIn _ := ⟨gIn, kIn, bIn⟩
  have FNt := fun_mk (st := sIsNumTo) lNt cNt kNt
  have bNt := FNt.binds (ps := ["value", "most"]) fun _ _ _ _ _ _ us hl => match us, hl with | [_, _], _ => rfl
  have gNt := PySem.W.mg_of X G nNt
  have CNt : CallC K mg "is_number_to" ["value", "most"] fNt _ := ⟨gNt, kNt, bNt⟩
  have FNm := fun_mk (st := sName) lNm cNm kNm
  have bNm := FNm.binds (ps := ["value"]) fun _ _ _ _ _ _ us hl => match us, hl with | [_], _ => rfl
  have gNm := PySem.W.mg_of X G nNm
  have CNm : CallC K mg "is_name" ["value"] fNm _ := ⟨gNm, kNm, bNm⟩
  have FLt := fun_mk (st := sLetter) lLt cLt kLt
  have bLt := FLt.binds (ps := ["sign"]) fun _ _ _ _ _ _ us hl => match us, hl with | [_], _ => rfl
  have gLt := PySem.W.mg_of X G nLt
  have CLt : CallC K mg "is_letter" ["sign"] fLt _ := ⟨gLt, kLt, bLt⟩
  have FIl := fun_mk (st := sIsLot) lIl cIl kIl
  have bIl := FIl.binds (ps := ["values"]) fun _ _ _ _ _ _ us hl => match us, hl with | [_], _ => rfl
  have gIl := PySem.W.mg_of X G nIl
  have CIl : CallC K mg "is_lot" ["values"] fIl _ := ⟨gIl, kIl, bIl⟩
  have FWi := fun_mk (st := sWithin) lWi cWi kWi
  have bWi := FWi.binds (ps := ["u", "v"]) fun _ _ _ _ _ _ us hl => match us, hl with | [_, _], _ => rfl
  have gWi := PySem.W.mg_of X G nWi
  have CWi : CallC K mg "within" ["u", "v"] fWi _ := ⟨gWi, kWi, bWi⟩
  have FDo := fun_mk (st := sDesksOf) lDo cDo kDo
  have bDo := FDo.binds (ps := ["dealing"]) fun _ _ _ _ _ _ us hl => match us, hl with | [_], _ => rfl
  have gDo := PySem.W.mg_of X G nDo
  have CDo : CallC K mg "desks_of" ["dealing"] fDo _ := ⟨gDo, kDo, bDo⟩
  have FDd := fun_mk (st := sByDeed) lDd cDd kDd
  have bDd := FDd.binds (ps := ["dealing"]) fun _ _ _ _ _ _ us hl => match us, hl with | [_], _ => rfl
  have gDd := PySem.W.mg_of X G nDd
  have CDd : CallC K mg "desks_by_deed" ["dealing"] fDd _ := ⟨gDd, kDd, bDd⟩
  have FCk := fun_mk (st := sChDeeds) lCk cCk kCk
  have bCk := FCk.binds (ps := ["desks", "row"]) fun _ _ _ _ _ _ us hl => match us, hl with | [_, _], _ => rfl
  have gCk := PySem.W.mg_of X G nCk
  have CCk : CallC K mg "check_deeds" ["desks", "row"] fCk _ := ⟨gCk, kCk, bCk⟩
  have FPs := fun_mk (st := sParts) lPs cPs kPs
  have bPs := FPs.binds (ps := ["dealing", "row"]) fun _ _ _ _ _ _ us hl => match us, hl with | [_, _], _ => rfl
  have gPs := PySem.W.mg_of X G nPs
  have CPs : CallC K mg "parts" ["dealing", "row"] fPs _ := ⟨gPs, kPs, bPs⟩
  have FWb := fun_mk (st := sWithinBy) lWb cWb kWb
  have bWb := FWb.binds (ps := ["dealing", "u", "v"]) fun _ _ _ _ _ _ us hl => match us, hl with | [_, _, _], _ => rfl
  have gWb := PySem.W.mg_of X G nWb
  have CWb : CallC K mg "within_by" ["dealing", "u", "v"] fWb _ := ⟨gWb, kWb, bWb⟩
  have FCe := fun_mk (st := sChEach) lCe cCe kCe
  have bCe := FCe.binds (ps := ["courses"]) fun _ _ _ _ _ _ us hl => match us, hl with | [_], _ => rfl
  have gCe := PySem.W.mg_of X G nCe
  have CCe : CallC K mg "check_each" ["courses"] fCe _ := ⟨gCe, kCe, bCe⟩
  have FCt := fun_mk (st := sChTog) lCt cCt kCt
  have bCt := FCt.binds (ps := ["courses"]) fun _ _ _ _ _ _ us hl => match us, hl with | [_], _ => rfl
  have gCt := PySem.W.mg_of X G nCt
  have CCt : CallC K mg "check_together" ["courses"] fCt _ := ⟨gCt, kCt, bCt⟩
  have FIc := fun_mk (st := sIsCourse) lIc cIc kIc
  have bIc := FIc.binds (ps := ["value"]) fun _ _ _ _ _ _ us hl => match us, hl with | [_], _ => rfl
  have gIc := PySem.W.mg_of X G nIc
  have CIc : CallC K mg "is_course" ["value"] fIc _ := ⟨gIc, kIc, bIc⟩
  have FAe := fun_mk (st := sAreEnds) lAe cAe kAe
  have bAe := FAe.binds (ps := ["ends", "stages"]) fun _ _ _ _ _ _ us hl => match us, hl with | [_, _], _ => rfl
  have gAe := PySem.W.mg_of X G nAe
  have CAe : CallC K mg "are_ends" ["ends", "stages"] fAe _ := ⟨gAe, kAe, bAe⟩
  have FAt := fun_mk (st := sAreSteps) lAt cAt kAt
  have bAt := FAt.binds (ps := ["steps", "stages"]) fun _ _ _ _ _ _ us hl => match us, hl with | [_, _], _ => rfl
  have gAt := PySem.W.mg_of X G nAt
  have CAt : CallC K mg "are_steps" ["steps", "stages"] fAt _ := ⟨gAt, kAt, bAt⟩
  have FIs := fun_mk (st := sIsStep) lIs cIs kIs
  have bIs := FIs.binds (ps := ["value", "stages"]) fun _ _ _ _ _ _ us hl => match us, hl with | [_, _], _ => rfl
  have gIs := PySem.W.mg_of X G nIs
  have CIs : CallC K mg "is_step" ["value", "stages"] fIs _ := ⟨gIs, kIs, bIs⟩
  have FDi := fun_mk (st := sDeedsIn) lDi cDi kDi
  have bDi := FDi.binds (ps := ["courses"]) fun _ _ _ _ _ _ us hl => match us, hl with | [_], _ => rfl
  have gDi := PySem.W.mg_of X G nDi
  have CDi : CallC K mg "deeds_in" ["courses"] fDi _ := ⟨gDi, kDi, bDi⟩
  have FLe := fun_mk (st := sLeaving) lLe cLe kLe
  have bLe := FLe.binds (ps := ["courses"]) fun _ _ _ _ _ _ us hl => match us, hl with | [_], _ => rfl
  have gLe := PySem.W.mg_of X G nLe
  have CLe : CallC K mg "leaving_of" ["courses"] fLe _ := ⟨gLe, kLe, bLe⟩
  have FPf := fun_mk (st := sPartsOf) lPf cPf kPf
  have bPf := FPf.binds (ps := ["course", "step"]) fun _ _ _ _ _ _ us hl => match us, hl with | [_, _], _ => rfl
  have gPf := PySem.W.mg_of X G nPf
  have CPf : CallC K mg "parts_of" ["course", "step"] fPf _ := ⟨gPf, kPf, bPf⟩
  have FSo := fun_mk (st := sStepsOut) lSo cSo kSo
  have bSo := FSo.binds (ps := ["book", "stage"]) fun _ _ _ _ _ _ us hl => match us, hl with | [_, _], _ => rfl
  have gSo := PySem.W.mg_of X G nSo
  have CSo : CallC K mg "steps_out" ["book", "stage"] fSo _ := ⟨gSo, kSo, bSo⟩
  have FAi := fun_mk (st := sAllIn) lAi cAi kAi
  have bAi := FAi.binds (ps := ["parts", "table"]) fun _ _ _ _ _ _ us hl => match us, hl with | [_, _], _ => rfl
  have gAi := PySem.W.mg_of X G nAi
  have CAi : CallC K mg "all_in" ["parts", "table"] fAi _ := ⟨gAi, kAi, bAi⟩
  have FPn := fun_mk (st := sPlain) lPn cPn kPn
  have bPn := FPn.binds (ps := ["book"]) fun _ _ _ _ _ _ us hl => match us, hl with | [_], _ => rfl
  have gPn := PySem.W.mg_of X G nPn
  have CPn : CallC K mg "plain" ["book"] fPn _ := ⟨gPn, kPn, bPn⟩
  have FJr := fun_mk (st := sJoinedRow) lJr cJr kJr
  have bJr := FJr.binds (ps := ["book", "view", "rows", "stage", "k"]) fun _ _ _ _ _ _ us hl => match us, hl with | [_, _, _, _, _], _ => rfl
  have gJr := PySem.W.mg_of X G nJr
  have CJr : CallC K mg "joined_row" ["book", "view", "rows", "stage", "k"] fJr _ := ⟨gJr, kJr, bJr⟩
  have FLo := fun_mk (st := sLooksBy) lLo cLo kLo
  have bLo := FLo.binds (ps := ["book", "dealing", "rows"]) fun _ _ _ _ _ _ us hl => match us, hl with | [_, _, _], _ => rfl
  have gLo := PySem.W.mg_of X G nLo
  have CLo : CallC K mg "looks_by" ["book", "dealing", "rows"] fLo _ := ⟨gLo, kLo, bLo⟩
  have FBx := fun_mk (st := sBox) lBx cBx kBx
  have bBx := FBx.binds (ps := ["script", "k"]) fun _ _ _ _ _ _ us hl => match us, hl with | [_, _], _ => rfl
  have gBx := PySem.W.mg_of X G nBx
  have CBx : CallC K mg "_law_box" ["script", "k"] fBx _ := ⟨gBx, kBx, bBx⟩
  have FTk := fun_mk (st := sTake) lTk cTk kTk
  have bTk := FTk.binds (ps := ["box", "many"]) fun _ _ _ _ _ _ us hl => match us, hl with | [_, _], _ => rfl
  have gTk := PySem.W.mg_of X G nTk
  have CTk : CallC K mg "_law_take" ["box", "many"] fTk _ := ⟨gTk, kTk, bTk⟩
  have FPk := fun_mk (st := sPick) lPk cPk kPk
  have bPk := FPk.binds (ps := ["box", "some"]) fun _ _ _ _ _ _ us hl => match us, hl with | [_, _], _ => rfl
  have gPk := PySem.W.mg_of X G nPk
  have CPk : CallC K mg "_law_pick" ["box", "some"] fPk _ := ⟨gPk, kPk, bPk⟩
  have FNn := fun_mk (st := sNames) lNn cNn kNn
  have bNn := FNn.binds (ps := ["box", "many"]) fun _ _ _ _ _ _ us hl => match us, hl with | [_, _], _ => rfl
  have gNn := PySem.W.mg_of X G nNn
  have CNn : CallC K mg "_law_names" ["box", "many"] fNn _ := ⟨gNn, kNn, bNn⟩
  have FLi := fun_mk (st := sLawIn) lLi cLi kLi
  have bLi := FLi.binds (ps := ["u", "v"]) fun _ _ _ _ _ _ us hl => match us, hl with | [_, _], _ => rfl
  have gLi := PySem.W.mg_of X G nLi
  have CLi : CallC K mg "_law_in" ["u", "v"] fLi _ := ⟨gLi, kLi, bLi⟩
  have FLp := fun_mk (st := sLawPart) lLp cLp kLp
  have bLp := FLp.binds (ps := ["deal", "desk", "row"]) fun _ _ _ _ _ _ us hl => match us, hl with | [_, _, _], _ => rfl
  have gLp := PySem.W.mg_of X G nLp
  have CLp : CallC K mg "_law_part" ["deal", "desk", "row"] fLp _ := ⟨gLp, kLp, bLp⟩
  have FLb := fun_mk (st := sLawBy) lLb cLb kLb
  have bLb := FLb.binds (ps := ["deal", "u", "v"]) fun _ _ _ _ _ _ us hl => match us, hl with | [_, _, _], _ => rfl
  have gLb := PySem.W.mg_of X G nLb
  have CLb : CallC K mg "_law_by" ["deal", "u", "v"] fLb _ := ⟨gLb, kLb, bLb⟩
  have FLc := fun_mk (st := sLawCourse) lLc cLc kLc
  have bLc := FLc.binds (ps := ["name", "text", "deeds", "calls"]) fun _ _ _ _ _ _ us hl => match us, hl with | [_, _, _, _], _ => rfl
  have gLc := PySem.W.mg_of X G nLc
  have CLc : CallC K mg "_law_course" ["name", "text", "deeds", "calls"] fLc _ := ⟨gLc, kLc, bLc⟩
  have FLn := fun_mk (st := sLawByName) lLn cLn kLn
  have bLn := FLn.binds (ps := ["courses"]) fun _ _ _ _ _ _ us hl => match us, hl with | [_], _ => rfl
  have gLn := PySem.W.mg_of X G nLn
  have CLn : CallC K mg "_law_by_name" ["courses"] fLn _ := ⟨gLn, kLn, bLn⟩
  have FLd := fun_mk (st := sLawNamed) lLd cLd kLd
  have bLd := FLd.binds (ps := ["stage", "step"]) fun _ _ _ _ _ _ us hl => match us, hl with | [_, _], _ => rfl
  have gLd := PySem.W.mg_of X G nLd
  have CLd : CallC K mg "_law_named" ["stage", "step"] fLd _ := ⟨gLd, kLd, bLd⟩
  have FLg := fun_mk (st := sLawOff) lLg cLg kLg
  have bLg := FLg.binds (ps := ["courses", "stage"]) fun _ _ _ _ _ _ us hl => match us, hl with | [_, _], _ => rfl
  have gLg := PySem.W.mg_of X G nLg
  have CLg : CallC K mg "_law_off" ["courses", "stage"] fLg _ := ⟨gLg, kLg, bLg⟩
  have FLu := fun_mk (st := sLawUsed) lLu cLu kLu
  have bLu := FLu.binds (ps := ["courses"]) fun _ _ _ _ _ _ us hl => match us, hl with | [_], _ => rfl
  have gLu := PySem.W.mg_of X G nLu
  have CLu : CallC K mg "_law_used" ["courses"] fLu _ := ⟨gLu, kLu, bLu⟩
  have FLme := fun_mk (st := sLawMenu) lLme cLme kLme
  have bLme := FLme.binds (ps := ["kind"]) fun _ _ _ _ _ _ us hl => match us, hl with | [_], _ => rfl
  have gLme := PySem.W.mg_of X G nLme
  have CLme : CallC K mg "_law_menu" ["kind"] fLme _ := ⟨gLme, kLme, bLme⟩
  have FLj := fun_mk (st := sLawJoined) lLj cLj kLj
  have bLj := FLj.binds (ps := ["rows", "stage", "step"]) fun _ _ _ _ _ _ us hl => match us, hl with | [_, _, _], _ => rfl
  have gLj := PySem.W.mg_of X G nLj
  have CLj : CallC K mg "_law_joined" ["rows", "stage", "step"] fLj _ := ⟨gLj, kLj, bLj⟩
  have FLs := fun_mk (st := sLawShortest) lLs cLs kLs
  have bLs := FLs.binds (ps := ["courses"]) fun _ _ _ _ _ _ us hl => match us, hl with | [_], _ => rfl
  have gLs := PySem.W.mg_of X G nLs
  have CLs : CallC K mg "_law_shortest" ["courses"] fLs _ := ⟨gLs, kLs, bLs⟩
  have FLre := fun_mk (st := sLawReached) lLre cLre kLre
  have bLre := FLre.binds (ps := ["courses", "rows"]) fun _ _ _ _ _ _ us hl => match us, hl with | [_, _], _ => rfl
  have gLre := PySem.W.mg_of X G nLre
  have CLre : CallC K mg "_law_reached" ["courses", "rows"] fLre _ := ⟨gLre, kLre, bLre⟩
  have FLkk := fun_mk (st := sLawLooks) lLkk cLkk kLkk
  have bLkk := FLkk.binds (ps := ["courses", "deal", "rows"]) fun _ _ _ _ _ _ us hl => match us, hl with | [_, _, _], _ => rfl
  have gLkk := PySem.W.mg_of X G nLkk
  have CLkk : CallC K mg "_law_looks" ["courses", "deal", "rows"] fLkk _ := ⟨gLkk, kLkk, bLkk⟩
  have FLx := fun_mk (st := sLawMixed) lLx cLx kLx
  have bLx := FLx.binds (ps := ["box", "some"]) fun _ _ _ _ _ _ us hl => match us, hl with | [_, _], _ => rfl
  have gLx := PySem.W.mg_of X G nLx
  have CLx : CallC K mg "_law_mixed" ["box", "some"] fLx _ := ⟨gLx, kLx, bLx⟩
  have FLbe := fun_mk (st := sLawBent) lLbe cLbe kLbe
  have bLbe := FLbe.binds (ps := ["box", "row", "deeds"]) fun _ _ _ _ _ _ us hl => match us, hl with | [_, _, _], _ => rfl
  have gLbe := PySem.W.mg_of X G nLbe
  have CLbe : CallC K mg "_law_bent" ["box", "row", "deeds"] fLbe _ := ⟨gLbe, kLbe, bLbe⟩
  have FLa := fun_mk (st := sLaw) lLa cLa kLa
  have bLa := FLa.binds (ps := ["script"]) fun _ _ _ _ _ _ us hl => match us, hl with | [_], _ => rfl
  have FBi := fun_mk (st := sBkInit) lBi cBi kBi
  have bBi := FBi.binds (ps := ["self", "courses"]) fun _ _ _ _ _ _ us hl => match us, hl with | [_, _], _ => rfl
  have FBd := fun_mk (st := sBkDeeds) lBd cBd kBd
  have bBd := FBd.binds (ps := ["self"]) fun _ _ _ _ _ _ us hl => match us, hl with | [_], _ => rfl
  have FBst := fun_mk (st := sBkSteps) lBst cBst kBst
  have bBst := FBst.binds (ps := ["self", "course"]) fun _ _ _ _ _ _ us hl => match us, hl with | [_, _], _ => rfl
  have FBfr := fun_mk (st := sBkFrom) lBfr cBfr kBfr
  have bBfr := FBfr.binds (ps := ["self", "stage"]) fun _ _ _ _ _ _ us hl => match us, hl with | [_, _], _ => rfl
  have FBie := fun_mk (st := sBkIsEnd) lBie cBie kBie
  have bBie := FBie.binds (ps := ["self", "stage"]) fun _ _ _ _ _ _ us hl => match us, hl with | [_, _], _ => rfl
  have FIRw := fun_mk (st := sRowInit) lIRw cIRw kIRw
  have bIRw := FIRw.binds (ps := ["self", "at"]) fun _ _ _ _ _ _ us hl => match us, hl with | [_, _], _ => rfl
  have gCB := PySem.W.mg_of X G aCB
  have MkB : Mk K CB fBi := ⟨mkB, aBi, iBi, kcB⟩
  have MBd : Meth K CB "deeds" fBd := ⟨aBd, iBd, kBd⟩
  have MBst : Meth K CB "steps" fBst := ⟨aBst, iBst, kBst⟩
  have MBfr : Meth K CB "steps_from" fBfr := ⟨aBfr, iBfr, kBfr⟩
  have MBie : Meth K CB "is_end" fBie := ⟨aBie, iBie, kBie⟩
  have gCRw := PySem.W.mg_of X G aCRw
  have oexRw : OexC K CRw := ⟨⟨nmRw, qRw, NnRw, bsRw, bmRw, snRw, subRw, abRw, colRw, ddRw, m0Rw, m1Rw, m2Rw, m3Rw, m5Rw, xLRw, hbRw⟩, saRw, eXRw, tXRw, kXRw⟩
  have g_LONGEST_NAME := PySem.W.mg_of X G v_LONGEST_NAME
  have g_MOST_COURSES := PySem.W.mg_of X G v_MOST_COURSES
  have g_MOST_STAGES := PySem.W.mg_of X G v_MOST_STAGES
  have g_MOST_STAGES_TOGETHER := PySem.W.mg_of X G v_MOST_STAGES_TOGETHER
  have g_MOST_DEEDS := PySem.W.mg_of X G v_MOST_DEEDS
  refine ⟨PySem.W.fnOf "law" "law" (defArgs sLaw) (defBody sLaw) (defScope sLaw) .none kVLa dcLa pmLa anLa cdLa ctLa, [], spLaw K, (fun p hp => by cases hp), (fun p hp => by cases hp), (fun p hp => by cases hp), fun s u => BindsTo.of_eq rfl, fun H a ns hl hb hP hS => ?_, fun base hb hg hTB => ?_⟩
  · exact ⟨a, ns, rfl, hS, fun H' => rfl⟩
  · skip
    have B : BkC K mg CB := ⟨⟨pgB, hdB, poB, saB⟩, naB0, naB1, naB2, naB3, naB4, gCB⟩
    have R1 : RowC K mg CRw fIRw _ := ⟨oexRw, aIRw, tIRw, noRw, gCRw, FIRw, bIRw⟩
    have kbLo : KBinds K _ ["book", "dealing", "rows"] ["rows", "book", "dealing"] rlG rlG := kb_rol3 (fd := PySem.W.fnOf "looks_by" "looks_by" (defArgs sLooksBy) (defBody sLooksBy) (defScope sLooksBy) .none kVLo dcLo pmLo anLo cdLo ctLo) fun x y z => rfl
    have GIi := ok_isint (P := l.prog) (w := w) (base := base) (mg := mg) FIi N
    have GIn := ok_isnum FIn N GIi CIi
    have GNt := ok_isnumto FNt GIn CIn
    have GNm := ok_name (P := l.prog) (w := w) (base := base) (mg := mg) FNm FLt bLt gLt g_LONGEST_NAME N.isinstance N.str N.len N.all
    have GIl := ok_islot (P := l.prog) (w := w) (base := base) (mg := mg) FIl N
    have GWi := ok_within (P := l.prog) (w := w) (base := base) (mg := mg) FWi N.iter
    have GIs := ok_isstep FIs N GNt CNt GNm CNm
    have GAe := ok_areends FAe N GNt CNt GIl CIl
    have GAt := ok_aresteps FAt N GIs CIs
    have GIc := ok_iscourse FIc N g_MOST_STAGES GNt CNt GNm CNm GAe CAe GAt CAt
    have GDi := ok_deedsin (P := l.prog) (w := w) (base := base) (mg := mg) FDi
    have GCe := ok_cheach FCe N g_MOST_COURSES GIc CIc
    have GCt := ok_chtog FCt N g_MOST_STAGES_TOGETHER g_MOST_DEEDS GDi CDi
    have GLe := ok_leaving (P := l.prog) (w := w) (base := base) (mg := mg) FLe N
    have GBi := ok_bkinit FBi N B GCe CCe GCt CCt GLe CLe
    have GBd := ok_bkdeeds FBd N B GDi CDi
    have GBst := ok_bksteps (P := l.prog) (w := w) (base := base) (mg := mg) FBst B
    have GBfr := ok_bkfrom (P := l.prog) (w := w) (base := base) (mg := mg) FBfr B
    have GBie := ok_bkisend (P := l.prog) (w := w) (base := base) (mg := mg) FBie B
    have GDo := ok_desksof (P := l.prog) (w := w) (base := base) (mg := mg) FDo N
    have GDd := ok_bydeed (P := l.prog) (w := w) (base := base) (mg := mg) FDd
    have GCk := ok_chdeeds (P := l.prog) (w := w) (base := base) (mg := mg) R1 FCk N
    have GPs := ok_parts FPs N GDd CDd GCk CCk GDo CDo
    have GWb := ok_withinby FWb N GPs CPs GWi CWi
    have GPf := ok_partsof (P := l.prog) (w := w) (base := base) (mg := mg) FPf
    have GSo := ok_stepsout FSo B GBst bBst MBst GBfr bBfr MBfr GPf CPf
    have GAi := ok_allin (P := l.prog) (w := w) (base := base) (mg := mg) FAi N
    have GPn := ok_pln FPn B GBd bBd MBd
    have GJr := ok_join FJr B GBst bBst MBst GPf CPf
    have GLo := ok_looks FLo N B GPn CPn GBie bBie MBie GSo CSo GAi CAi GWb CWb GJr CJr
    have GBx := ok_box (P := l.prog) (w := w) (base := base) (mg := mg) FBx N.int N.len N.abs
    have GTk := ok_take (P := l.prog) (w := w) (base := base) (mg := mg) FTk N.int
    have GPk := ok_pick (P := l.prog) (w := w) (base := base) (mg := mg) FPk FTk bTk gTk N.int N.len
    have GNn := ok_names FNn N GTk CTk GPk CPk
    have GLi := ok_lawin (P := l.prog) (w := w) (base := base) (mg := mg) FLi N
    have GLp := ok_lawpart (P := l.prog) (w := w) (base := base) (mg := mg) FLp N
    have GLb := ok_lawby FLb N GLi CLi GLp CLp
    have GLc := ok_lawcourse (P := l.prog) (w := w) (base := base) (mg := mg) FLc N m_set
    have GLn := ok_lawbyname (P := l.prog) (w := w) (base := base) (mg := mg) FLn N m_dict
    have GLd := ok_lawnamed (P := l.prog) (w := w) (base := base) (mg := mg) FLd
    have GLg := ok_lawoff FLg N GLn CLn
    have GLu := ok_lawused (P := l.prog) (w := w) (base := base) (mg := mg) FLu N m_set
    have GLme := ok_lawmenu (P := l.prog) (w := w) (base := base) (mg := mg) FLme
    have GLj := ok_lawjoined FLj GLd CLd
    have GLs := ok_lawshort FLs N GLj CLj
    have GLre := ok_lawreached FLre N GLg CLg GLj CLj GLd CLd
    have GLkk := ok_lawlooks FLkk N GLn CLn GLg CLg GLj CLj GLb CLb
    have GLx := ok_lawmixed FLx N GTk CTk
    have GLbe := ok_lawbent FLbe N GTk CTk GPk CPk
    exact ok_law FLa N m_dict B MkB GBi bBi GBx CBx GTk CTk GPk CPk GNn CNn GLme CLme GLc CLc GLs CLs GLu CLu GLre CLre GLkk CLkk GLx CLx GLbe CLbe GLo CLo kbLo GWb CWb
end Kb
open PySem PySem.W PyProof.Rows in
set_option maxHeartbeats 0 in
theorem PySem.Challenge.cw_stillowed_k34_looks_by_a_dealing_holds : PySem.Challenge.rw_stillowed_k34_looks_by_a_dealing.Holds := by
  w_on; o_law; k_head; (case hw => w_witness2)
  k_fill
  refine LamX.walk_ofTs (l := PySem.Challenge.rw_stillowed_k34_looks_by_a_dealing) (n := 63) (k := 11) (x := "script") (CX := fun _ => L2.CX0) rfl (by decide) rfl ⟨rfl, by decide, by decide⟩ (fun w h Y => PySem.W.kIn_of Y) ?F (fun _ _ _ _ _ z => z)
  case F =>
    intro w mg fa h Y KX G hmg
    refine' Kb.all_mk KX G hmg ?nIi ?lIi ?cIi ?kIi ?nIn ?lIn ?cIn ?kIn ?nNt ?lNt ?cNt ?kNt ?nNm ?lNm ?cNm ?kNm ?nLt ?lLt ?cLt ?kLt ?nIl ?lIl ?cIl ?kIl ?nWi ?lWi ?cWi ?kWi ?nDo ?lDo ?cDo ?kDo ?nDd ?lDd ?cDd ?kDd ?nCk ?lCk ?cCk ?kCk ?nPs ?lPs ?cPs ?kPs ?nWb ?lWb ?cWb ?kWb ?nCe ?lCe ?cCe ?kCe ?nCt ?lCt ?cCt ?kCt ?nIc ?lIc ?cIc ?kIc ?nAe ?lAe ?cAe ?kAe ?nAt ?lAt ?cAt ?kAt ?nIs ?lIs ?cIs ?kIs ?nDi ?lDi ?cDi ?kDi ?nLe ?lLe ?cLe ?kLe ?nPf ?lPf ?cPf ?kPf ?nSo ?lSo ?cSo ?kSo ?nAi ?lAi ?cAi ?kAi ?nPn ?lPn ?cPn ?kPn ?nJr ?lJr ?cJr ?kJr ?nLo ?lLo ?cLo ?kLo ?nBx ?lBx ?cBx ?kBx ?nTk ?lTk ?cTk ?kTk ?nPk ?lPk ?cPk ?kPk ?nNn ?lNn ?cNn ?kNn ?nLi ?lLi ?cLi ?kLi ?nLp ?lLp ?cLp ?kLp ?nLb ?lLb ?cLb ?kLb ?nLc ?lLc ?cLc ?kLc ?nLn ?lLn ?cLn ?kLn ?nLd ?lLd ?cLd ?kLd ?nLg ?lLg ?cLg ?kLg ?nLu ?lLu ?cLu ?kLu ?nLme ?lLme ?cLme ?kLme ?nLj ?lLj ?cLj ?kLj ?nLs ?lLs ?cLs ?kLs ?nLre ?lLre ?cLre ?kLre ?nLkk ?lLkk ?cLkk ?kLkk ?nLx ?lLx ?cLx ?kLx ?nLbe ?lLbe ?cLbe ?kLbe ?nLa ?lLa ?cLa ?kLa ?aCB ?pgB ?hdB ?poB ?saB ?mkB ?kcB ?aBi ?iBi ?lBi ?cBi ?kBi ?aBd ?iBd ?lBd ?cBd ?kBd ?aBst ?iBst ?lBst ?cBst ?kBst ?aBfr ?iBfr ?lBfr ?cBfr ?kBfr ?aBie ?iBie ?lBie ?cBie ?kBie ?naB0 ?naB1 ?naB2 ?naB3 ?naB4 ?aCRw ?xLRw ?hbRw ?saRw ?gaRw ?ggRw ?noRw ?aIRw ?tIRw ?lIRw ?cIRw ?kIRw ?kXRw ?eXRw ?tXRw ?hXRw ?iXRw ?sXRw ?xcRw ?xmRw ?xn ?xt ?v_LONGEST_NAME ?v_MOST_COURSES ?v_MOST_STAGES ?v_MOST_STAGES_TOGETHER ?v_MOST_DEEDS ?z_len ?z_range ?z_iter ?z_enumerate ?z_reversed ?z_tuple ?z_list ?z_sorted ?z_any ?z_all ?z_int ?z_str ?z_bool ?z_abs ?z_min ?z_max ?z_sum ?z_isinstance ?z_ValueError ?z_dict ?z_set
    (case nIi => k_is)
    (case lIi => k_is)
    (case cIi => k_is)
    (case kIi => k_is)
    (case nIn => k_is)
    (case lIn => k_is)
    (case cIn => k_is)
    (case kIn => k_is)
    (case nNt => k_is)
    (case lNt => k_is)
    (case cNt => k_is)
    (case kNt => k_is)
    (case nNm => k_is)
    (case lNm => k_is)
    (case cNm => k_is)
    (case kNm => k_is)
    (case nLt => k_is)
    (case lLt => k_is)
    (case cLt => k_is)
    (case kLt => k_is)
    (case nIl => k_is)
    (case lIl => k_is)
    (case cIl => k_is)
    (case kIl => k_is)
    (case nWi => k_is)
    (case lWi => k_is)
    (case cWi => k_is)
    (case kWi => k_is)
    (case nDo => k_is)
    (case lDo => k_is)
    (case cDo => k_is)
    (case kDo => k_is)
    (case nDd => k_is)
    (case lDd => k_is)
    (case cDd => k_is)
    (case kDd => k_is)
    (case nCk => k_is)
    (case lCk => k_is)
    (case cCk => k_is)
    (case kCk => k_is)
    (case nPs => k_is)
    (case lPs => k_is)
    (case cPs => k_is)
    (case kPs => k_is)
    (case nWb => k_is)
    (case lWb => k_is)
    (case cWb => k_is)
    (case kWb => k_is)
    (case nCe => k_is)
    (case lCe => k_is)
    (case cCe => k_is)
    (case kCe => k_is)
    (case nCt => k_is)
    (case lCt => k_is)
    (case cCt => k_is)
    (case kCt => k_is)
    (case nIc => k_is)
    (case lIc => k_is)
    (case cIc => k_is)
    (case kIc => k_is)
    (case nAe => k_is)
    (case lAe => k_is)
    (case cAe => k_is)
    (case kAe => k_is)
    (case nAt => k_is)
    (case lAt => k_is)
    (case cAt => k_is)
    (case kAt => k_is)
    (case nIs => k_is)
    (case lIs => k_is)
    (case cIs => k_is)
    (case kIs => k_is)
    (case nDi => k_is)
    (case lDi => k_is)
    (case cDi => k_is)
    (case kDi => k_is)
    (case nLe => k_is)
    (case lLe => k_is)
    (case cLe => k_is)
    (case kLe => k_is)
    (case nPf => k_is)
    (case lPf => k_is)
    (case cPf => k_is)
    (case kPf => k_is)
    (case nSo => k_is)
    (case lSo => k_is)
    (case cSo => k_is)
    (case kSo => k_is)
    (case nAi => k_is)
    (case lAi => k_is)
    (case cAi => k_is)
    (case kAi => k_is)
    (case nPn => k_is)
    (case lPn => k_is)
    (case cPn => k_is)
    (case kPn => k_is)
    (case nJr => k_is)
    (case lJr => k_is)
    (case cJr => k_is)
    (case kJr => k_is)
    (case nLo => k_is)
    (case lLo => k_is)
    (case cLo => k_is)
    (case kLo => k_is)
    (case nBx => k_is)
    (case lBx => k_is)
    (case cBx => k_is)
    (case kBx => k_is)
    (case nTk => k_is)
    (case lTk => k_is)
    (case cTk => k_is)
    (case kTk => k_is)
    (case nPk => k_is)
    (case lPk => k_is)
    (case cPk => k_is)
    (case kPk => k_is)
    (case nNn => k_is)
    (case lNn => k_is)
    (case cNn => k_is)
    (case kNn => k_is)
    (case nLi => k_is)
    (case lLi => k_is)
    (case cLi => k_is)
    (case kLi => k_is)
    (case nLp => k_is)
    (case lLp => k_is)
    (case cLp => k_is)
    (case kLp => k_is)
    (case nLb => k_is)
    (case lLb => k_is)
    (case cLb => k_is)
    (case kLb => k_is)
    (case nLc => k_is)
    (case lLc => k_is)
    (case cLc => k_is)
    (case kLc => k_is)
    (case nLn => k_is)
    (case lLn => k_is)
    (case cLn => k_is)
    (case kLn => k_is)
    (case nLd => k_is)
    (case lLd => k_is)
    (case cLd => k_is)
    (case kLd => k_is)
    (case nLg => k_is)
    (case lLg => k_is)
    (case cLg => k_is)
    (case kLg => k_is)
    (case nLu => k_is)
    (case lLu => k_is)
    (case cLu => k_is)
    (case kLu => k_is)
    (case nLme => k_is)
    (case lLme => k_is)
    (case cLme => k_is)
    (case kLme => k_is)
    (case nLj => k_is)
    (case lLj => k_is)
    (case cLj => k_is)
    (case kLj => k_is)
    (case nLs => k_is)
    (case lLs => k_is)
    (case cLs => k_is)
    (case kLs => k_is)
    (case nLre => k_is)
    (case lLre => k_is)
    (case cLre => k_is)
    (case kLre => k_is)
    (case nLkk => k_is)
    (case lLkk => k_is)
    (case cLkk => k_is)
    (case kLkk => k_is)
    (case nLx => k_is)
    (case lLx => k_is)
    (case cLx => k_is)
    (case kLx => k_is)
    (case nLbe => k_is)
    (case lLbe => k_is)
    (case cLbe => k_is)
    (case kLbe => k_is)
    (case nLa => k_is)
    (case lLa => k_is)
    (case cLa => k_is)
    (case kLa => k_is)
    (case aCB => k_is)
    (case pgB => k_is)
    (case hdB => k_is)
    (case poB => k_is)
    (case saB => k_is)
    (case mkB => k_is)
    (case kcB => k_is)
    (case aBi => k_is)
    (case iBi => k_is)
    (case lBi => k_is)
    (case cBi => k_is)
    (case kBi => k_is)
    (case aBd => k_is)
    (case iBd => k_is)
    (case lBd => k_is)
    (case cBd => k_is)
    (case kBd => k_is)
    (case aBst => k_is)
    (case iBst => k_is)
    (case lBst => k_is)
    (case cBst => k_is)
    (case kBst => k_is)
    (case aBfr => k_is)
    (case iBfr => k_is)
    (case lBfr => k_is)
    (case cBfr => k_is)
    (case kBfr => k_is)
    (case aBie => k_is)
    (case iBie => k_is)
    (case lBie => k_is)
    (case cBie => k_is)
    (case kBie => k_is)
    (case naB0 => k_is)
    (case naB1 => k_is)
    (case naB2 => k_is)
    (case naB3 => k_is)
    (case naB4 => k_is)
    (case aCRw => k_is)
    (case xLRw => k_is)
    (case hbRw => first | decide +kernel | rfl | k_is)
    (case saRw => k_is)
    (case gaRw => k_is)
    (case ggRw => k_is)
    (case noRw => k_is)
    (case aIRw => k_is)
    (case tIRw => k_is)
    (case lIRw => k_is)
    (case cIRw => k_is)
    (case kIRw => k_is)
    (case kXRw => k_is)
    (case eXRw => k_is)
    (case tXRw => k_is)
    (case hXRw => k_is)
    (case iXRw => k_is)
    (case sXRw => first | rfl | k_is)
    (case xcRw => k_is)
    (case xmRw => k_is)
    (case xn => k_is)
    (case xt => k_is)
    (case v_LONGEST_NAME => k_is)
    (case v_MOST_COURSES => k_is)
    (case v_MOST_STAGES => k_is)
    (case v_MOST_STAGES_TOGETHER => k_is)
    (case v_MOST_DEEDS => k_is)
    (case z_len => k_is)
    (case z_range => k_is)
    (case z_iter => k_is)
    (case z_enumerate => k_is)
    (case z_reversed => k_is)
    (case z_tuple => k_is)
    (case z_list => k_is)
    (case z_sorted => k_is)
    (case z_any => k_is)
    (case z_all => k_is)
    (case z_int => k_is)
    (case z_str => k_is)
    (case z_bool => k_is)
    (case z_abs => k_is)
    (case z_min => k_is)
    (case z_max => k_is)
    (case z_sum => k_is)
    (case z_isinstance => k_is)
    (case z_ValueError => k_is)
    (case z_dict => k_is)
    (case z_set => k_is)
