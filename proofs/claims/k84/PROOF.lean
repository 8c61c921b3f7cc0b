import PyProof.Rows.All
import Wide.All
import OpenK.AllK
import Wide.FinOn
import PyProof.TupleIter
import PyProof.WalksMore
import HandS.ForMost
import HandS.IterNext
import HandS.IterVal
import KE.GoesMore
import PyProof.EnumMake
import HandS.Style
import KE.SortKeyHeap
import KE.KLam
import KE.KDictCopyH
import HandS.SortKw
import HandS.Lambda
import HandS.DictComp
import HandS.Walk
import PySem.Challenge.RW_stillowed_k84_rows_through_a_making
import HandS.Rev
import HandS.Evl
import HandS.TupLe
import HandS.Deep
import HandS.TupAny
import HandS.IsInst
import HandS.List
import HandS.ForExc
import HandS.ExcInit
import PyProof.P3Eq
import HandS.Codes
import HandS.StrMore
import HandS.RevRange
import HandS.More
import HandS.NoneIn
import KE.SortData
import HandS.ExcField
import HandS.ExcIs
import KE.KExcIs
import HandS.TupMul
import HandS.EndTab
import KE.KNestM
set_option Elab.async false
set_option linter.all false
set_option maxRecDepth 100000
set_option maxHeartbeats 8000000
/-! The mathematics of fits (own text; no part of the kit). -/
namespace Ka

variable {α : Type} [DecidableEq α]

/-- may the place stand behind the fit so far -/
def okAfter (fit : List Nat) (at_ : Nat) : Bool :=
  match fit.getLast? with
  | none => true
  | some l => decide (l < at_)

/-- the places by which a fit is lengthened -/
def nexts (v : List α) (x : α) (fit : List Nat) : List Nat :=
  (List.range v.length).filter fun i => decide (v[i]? = some x) && okAfter fit i

def growAll (v : List α) (x : α) (found : List (List Nat)) : List (List Nat) :=
  found.flatMap fun fit => (nexts v x fit).map fun i => fit ++ [i]

/-- all fits, as a loop over u finds them -/
def allFrom (v : List α) : List α → List (List Nat) → List (List Nat)
  | [], found => found
  | x :: u, found => allFrom v u (growAll v x found)

def allFits (u v : List α) : List (List Nat) := allFrom v u [[]]

theorem allFrom_append (v : List α) : ∀ (u w : List α) (found : List (List Nat)), allFrom v (u ++ w) found = allFrom v w (allFrom v u found)
  | [], _, _ => rfl
  | x :: u, w, found => allFrom_append v u w (growAll v x found)

theorem allFits_snoc (u : List α) (x : α) (v : List α) : allFits (u ++ [x]) v = growAll v x (allFits u v) := by
  unfold allFits
  rw [allFrom_append]
  rfl

/-! ### what a fit is -/
structure IsFit (u v : List α) (g : List Nat) : Prop where
  len : g.length = u.length
  asc : ∀ i j a b : Nat, i < j → g[i]? = some a → g[j]? = some b → a < b
  hit : ∀ i a : Nat, g[i]? = some a → v[a]? = u[i]?

theorem okAfter_iff (fit : List Nat) (i : Nat) : okAfter fit i = true ↔ ∀ l, fit.getLast? = some l → l < i := by
  unfold okAfter
  cases h : fit.getLast? with
  | none => simp
  | some l => simp

theorem mem_growAll {v : List α} {x : α} {found : List (List Nat)} {g : List Nat} :
    g ∈ growAll v x found ↔ ∃ fit i, fit ∈ found ∧ g = fit ++ [i] ∧ v[i]? = some x ∧ okAfter fit i = true := by
  unfold growAll nexts
  simp only [List.mem_flatMap, List.mem_map, List.mem_filter, List.mem_range, Bool.and_eq_true, decide_eq_true_eq]
  constructor
  · rintro ⟨fit, hf, i, ⟨hi, hx, ho⟩, rfl⟩
    exact ⟨fit, i, hf, rfl, hx, ho⟩
  · rintro ⟨fit, i, hf, rfl, hx, ho⟩
    refine ⟨fit, hf, i, ⟨?_, hx, ho⟩, rfl⟩
    exact (List.getElem?_eq_some_iff.mp hx).1

theorem snoc_get {β : Type} (l : List β) (x : β) (i : Nat) : (l ++ [x])[i]? = if i < l.length then l[i]? else if i = l.length then some x else none := by
  rw [List.getElem?_append]
  split
  · rfl
  · split
    · rename_i h1 h2
      subst h2
      simp
    · rename_i h1 h2
      have : 1 ≤ i - l.length := by omega
      rw [List.getElem?_eq_none]
      simpa using this

theorem isFit_snoc {u v : List α} {x : α} {fit : List Nat} {i : Nat} :
    IsFit (u ++ [x]) v (fit ++ [i]) ↔ IsFit u v fit ∧ v[i]? = some x ∧ okAfter fit i = true := by
  constructor
  · intro h
    have hl : fit.length = u.length := by
      have := h.len
      simp at this
      exact this
    refine ⟨⟨hl, fun a b p q hab hp hq => ?_, fun a p hp => ?_⟩, ?_, ?_⟩
    · have h1 := (List.getElem?_eq_some_iff.mp hp).1
      have h2 := (List.getElem?_eq_some_iff.mp hq).1
      refine h.asc a b p q hab ?_ ?_
      · rw [snoc_get, if_pos h1]; exact hp
      · rw [snoc_get, if_pos h2]; exact hq
    · have h1 := (List.getElem?_eq_some_iff.mp hp).1
      have := h.hit a p (by rw [snoc_get, if_pos h1]; exact hp)
      rw [this, snoc_get, if_pos (by omega)]
    · have := h.hit fit.length i (by rw [snoc_get, if_neg (Nat.lt_irrefl _), if_pos rfl])
      rw [this, snoc_get, if_neg (by omega), if_pos (by omega)]
    · rw [okAfter_iff]
      intro l hl'
      rw [List.getLast?_eq_getElem?] at hl'
      have h1 := (List.getElem?_eq_some_iff.mp hl').1
      exact h.asc (fit.length - 1) fit.length l i (by omega) (by rw [snoc_get, if_pos h1]; exact hl') (by rw [snoc_get, if_neg (Nat.lt_irrefl _), if_pos rfl])
  · rintro ⟨h, hx, ho⟩
    rw [okAfter_iff] at ho
    have hl := h.len
    refine ⟨by simp [hl], fun a b p q hab hp hq => ?_, fun a p hp => ?_⟩
    · rw [snoc_get] at hp hq
      split at hq
      · rename_i hb
        rw [if_pos (by omega)] at hp
        exact h.asc a b p q hab hp hq
      · split at hq
        · rename_i hb hb2
          cases hq
          rw [if_pos (by omega)] at hp
          have hlast : ∃ l, fit.getLast? = some l := by
            cases e : fit.getLast? with
            | none =>
              rw [List.getLast?_eq_none_iff] at e
              subst e
              simp at hb2
              omega
            | some l => exact ⟨l, rfl⟩
          obtain ⟨l, el⟩ := hlast
          have h1 := ho l el
          by_cases e : a = fit.length - 1
          · rw [List.getLast?_eq_getElem?, ← e, hp] at el
            cases el
            exact h1
          · rw [List.getLast?_eq_getElem?] at el
            have h2 : a < fit.length := by omega
            exact Nat.lt_trans (h.asc a (fit.length - 1) p l (by omega) hp el) h1
        · cases hq
    · rw [snoc_get] at hp
      split at hp
      · rename_i h1
        rw [h.hit a p hp, snoc_get, if_pos (by omega)]
      · split at hp
        · rename_i h1 h2
          cases hp
          rw [hx, snoc_get, if_neg (by omega), if_pos (by omega)]
        · cases hp

theorem isFit_nil {v : List α} {g : List Nat} : IsFit ([] : List α) v g ↔ g = [] := by
  constructor
  · intro h
    have := h.len
    simpa using this
  · rintro rfl
    exact ⟨rfl, fun i j a b _ h => by simp at h, fun i a h => by simp at h⟩

theorem snoc_ind {β : Type} {P : List β → Prop} (h0 : P []) (h1 : ∀ l x, P l → P (l ++ [x])) : ∀ l, P l := by
  intro l
  have : ∀ r : List β, P r.reverse := by
    intro r
    induction r with
    | nil => exact h0
    | cons x r ih => rw [List.reverse_cons]; exact h1 _ _ ih
  simpa using this l.reverse

theorem mem_allFits (v : List α) : ∀ (u : List α) (g : List Nat), g ∈ allFits u v ↔ IsFit u v g := by
  refine snoc_ind (fun g => ?_) fun u x ih g => ?_
  · rw [isFit_nil]
    simp [allFits, allFrom]
  · rw [allFits_snoc, mem_growAll]
    constructor
    · rintro ⟨fit, i, hf, rfl, hx, ho⟩
      exact isFit_snoc.mpr ⟨(ih fit).mp hf, hx, ho⟩
    · intro h
      have hl := h.len
      obtain ⟨fit, i, rfl⟩ : ∃ fit i, g = fit ++ [i] := by
        rcases List.eq_nil_or_concat g with e | ⟨fit, i, e⟩
        · subst e
          simp at hl
        · exact ⟨fit, i, by rw [e]; simp⟩
      obtain ⟨h1, h2, h3⟩ := isFit_snoc.mp h
      exact ⟨fit, i, (ih fit).mpr h1, rfl, h2, h3⟩

/-! ### how many fits there are -/
def cnt (u v : List α) : Nat := (allFits u v).length

theorem cnt_nil (v : List α) : cnt ([] : List α) v = 1 := rfl

theorem growAll_nil (x : α) (found : List (List Nat)) : growAll ([] : List α) x found = [] := by
  unfold growAll nexts
  simp

theorem cnt_snoc_nil (u : List α) (x : α) : cnt (u ++ [x]) ([] : List α) = 0 := by
  unfold cnt
  rw [allFits_snoc, growAll_nil]
  rfl

def low (n : Nat) (g : List Nat) : Bool := g.all fun i => decide (i < n)

theorem filter_map_comm {β γ : Type} (f : β → γ) (p : γ → Bool) (l : List β) : (l.map f).filter p = (l.filter (p ∘ f)).map f := List.filter_map

theorem nexts_snoc (v : List α) (d x : α) (fit : List Nat) :
    nexts (v ++ [d]) x fit = nexts v x fit ++ (if d = x ∧ okAfter fit v.length = true then [v.length] else []) := by
  unfold nexts
  rw [List.length_append, List.length_singleton, List.range_succ, List.filter_append]
  congr 1
  · apply List.filter_congr
    intro i hi
    have hi' : i < v.length := List.mem_range.mp hi
    rw [snoc_get, if_pos hi']
  · rw [List.filter_cons, List.filter_nil]
    rw [snoc_get, if_neg (Nat.lt_irrefl _), if_pos rfl]
    by_cases e : d = x
    · subst e
      simp
    · simp [e]

theorem nexts_lt {v : List α} {x : α} {fit : List Nat} {i : Nat} (h : i ∈ nexts v x fit) : i < v.length := by
  unfold nexts at h
  exact List.mem_range.mp (List.mem_filter.mp h).1

theorem low_snoc (n : Nat) (fit : List Nat) (i : Nat) : low n (fit ++ [i]) = (low n fit && decide (i < n)) := by
  unfold low
  simp

theorem last_high {v : List α} {fit : List Nat} {g : List Nat} {x : α} (h : fit.getLast? = some g.length) : True := trivial

/-- the fits in v ++ [d] that lie in v are those in v, in the same order -/
theorem filter_low (v : List α) (d : α) : ∀ u : List α, (∀ g ∈ allFits u (v ++ [d]), low v.length g = true ∨ g.getLast? = some v.length) ∧ (allFits u (v ++ [d])).filter (low v.length) = allFits u v := by
  refine snoc_ind ⟨fun g hg => ?_, ?_⟩ fun u x ih => ?_
  · have : g = [] := by simpa [allFits, allFrom] using hg
    subst this
    exact .inl rfl
  · rfl
  · obtain ⟨ih1, ih2⟩ := ih
    refine ⟨fun g hg => ?_, ?_⟩
    · rw [allFits_snoc, mem_growAll] at hg
      obtain ⟨fit, i, hf, rfl, hx, ho⟩ := hg
      have hi : i < (v ++ [d]).length := (List.getElem?_eq_some_iff.mp hx).1
      simp at hi
      rcases ih1 fit hf with h | h
      · by_cases e : i < v.length
        · left
          rw [low_snoc, h, decide_eq_true e]
          rfl
        · right
          have : i = v.length := by omega
          simp [this]
      · rw [okAfter_iff] at ho
        have := ho _ h
        omega
    · rw [allFits_snoc, allFits_snoc, ← ih2]
      unfold growAll
      generalize allFits u (v ++ [d]) = L at ih1
      clear ih2
      induction L with
      | nil => rfl
      | cons fit L ihL =>
        have ih1' : ∀ g ∈ L, low v.length g = true ∨ g.getLast? = some v.length := fun g hg => ih1 g (List.mem_cons_of_mem _ hg)
        rw [List.flatMap_cons, List.filter_append, ihL ih1', List.filter_cons]
        have hsplit : ((nexts (v ++ [d]) x fit).map fun i => fit ++ [i]).filter (low v.length) = if low v.length fit = true then (nexts v x fit).map fun i => fit ++ [i] else [] := by
          rw [List.filter_map, nexts_snoc, List.filter_append]
          have h2 : ((if d = x ∧ okAfter fit v.length = true then [v.length] else []).filter (low v.length ∘ fun i => fit ++ [i])) = [] := by
            split
            · simp [low_snoc]
            · rfl
          rw [h2, List.append_nil]
          by_cases hl : low v.length fit = true
          · rw [if_pos hl]
            congr 1
            rw [List.filter_eq_self]
            intro i hi
            have := nexts_lt hi
            simp [low_snoc, hl, this]
          · rw [if_neg hl]
            have : (nexts v x fit).filter (low v.length ∘ fun i => fit ++ [i]) = [] := by
              rw [List.filter_eq_nil_iff]
              intro i hi
              simp [low_snoc, hl]
            rw [this]
            rfl
        rw [hsplit]
        by_cases hl : low v.length fit = true
        · rw [if_pos hl, if_pos hl, List.flatMap_cons]
        · rw [if_neg hl, if_neg hl, List.nil_append]

theorem sum_nexts (v : List α) (x : α) (found : List (List Nat)) : (growAll v x found).length = (found.map fun fit => (nexts v x fit).length).sum := by
  unfold growAll
  rw [List.length_flatMap]
  congr 1
  apply List.map_congr_left
  intro fit _
  rw [List.length_map]

/-- the one recurrence -/
theorem cnt_snoc_snoc (u : List α) (x : α) (v : List α) (d : α) : cnt (u ++ [x]) (v ++ [d]) = cnt (u ++ [x]) v + (if d = x then cnt u v else 0) := by
  unfold cnt
  rw [allFits_snoc, allFits_snoc, sum_nexts, sum_nexts]
  obtain ⟨h1, h2⟩ := filter_low v d u
  rw [← h2]
  generalize allFits u (v ++ [d]) = L at h1
  clear h2
  induction L with
  | nil => simp
  | cons fit L ih =>
    have h1' : ∀ g ∈ L, low v.length g = true ∨ g.getLast? = some v.length := fun g hg => h1 g (List.mem_cons_of_mem _ hg)
    rw [List.map_cons, List.sum_cons, ih h1', List.filter_cons, nexts_snoc, List.length_append]
    rcases h1 fit (List.mem_cons_self) with h | h
    · rw [if_pos h, List.map_cons, List.sum_cons, List.length_cons]
      have ho : okAfter fit v.length = true := by
        rw [okAfter_iff]
        intro l hl
        have hm : l ∈ fit := List.mem_of_getLast? hl
        unfold low at h
        have := (List.all_eq_true.mp h) l hm
        simpa using this
      by_cases e : d = x
      · simp [e, ho]
        omega
      · simp [e]
        try omega
    · have hn : ¬ low v.length fit = true := by
        intro hl
        have hm : v.length ∈ fit := List.mem_of_getLast? h
        unfold low at hl
        have := (List.all_eq_true.mp hl) _ hm
        simp at this
      have ho : okAfter fit v.length = false := by
        unfold okAfter
        rw [h]
        simp
      have h0 : nexts v x fit = [] := by
        unfold nexts
        rw [List.filter_eq_nil_iff]
        intro i hi
        have hi' := List.mem_range.mp hi
        have : okAfter fit i = false := by
          unfold okAfter
          rw [h]
          simp
          omega
        simp [this]
      rw [if_neg hn, h0, ho]
      simp

end Ka
/-! iter(t) of a tuple of texts, and x in it. -/
namespace Ka
open PySem PySem.Spec PyProof.Rows L2

theorem entry_ci : entryFor table "proto.contains_iter" = some Builtin.«proto.contains_iter» := entryFor_of_fast (by kernel_rfl)
theorem tu_nocontains : typeLookup (.type "tuple_iterator") "__contains__" = pure none := by rw [typeLookup_type, builtinLookup_eq_fast]; kernel_rfl

section
variable {prog : Program} {w : World} {A : Around} {E : Value → Shared → Prop} {s : Shared}

/-- what has become of the iterator: the text was found at j, or it is used up -/
def Went (it t : Addr) (zs : List Str) (z : Str) (i : Nat) (h h' : Heap) (b : Bool) : Prop :=
  (b = true ∧ ∃ j, i ≤ j ∧ zs[j]? = some z ∧ (∀ k, i ≤ k → k < j → zs[k]? ≠ some z) ∧ h'.IsTupleIter it t (j + 1) ∧ Heap.ExtBut it h h') ∨
  (b = false ∧ (∀ k, i ≤ k → zs[k]? ≠ some z) ∧ Heap.ExtBut it h h')

theorem ci_loop {it t : Addr} {items : Array Value} {zs : List Str} {z : Str} {tk : Tok} {R : Result → Shared → Prop} (hne : t ≠ it) (hh : A.handled = none)
    (hs : Vals (zs.map V.str) items.toList) : ∀ (n i : Nat) (s : Shared), zs.length - i = n → s.heap.IsTupleIter it t i → s.heap.IsTuple t items →
      (∀ h' b, Went it t zs z i s.heap h' b → R (.ok (.ret (.bool b))) { s with heap := h' }) → codeAny (model prog w) A (.builtin "proto.contains_iter" ⟨[.ref it, .str z tk], []⟩) R s := by
  intro n
  induction n with
  | zero =>
    intro i s hn hit ht q
    have hx : items[i]? = none := by
      have hl := hs.length
      simp only [List.length_map, Array.length_toList] at hl
      rw [Array.getElem?_eq_none_iff]
      omega
    refine codeAny_builtin entry_ci ?_
    show wpAny _ _ (pyNext (.ref it) >>= _) _ _ s
    refine wpAny_bind (wpAny_pyNext_tuple_end hh hit ht hx fun h' e => ?_)
    refine wpAny_bind (wpAny_rule (wpAny_pure ?_))
    exact q h' false (.inr ⟨rfl, fun k hk hz => by
      have := (List.getElem?_eq_some_iff.mp hz).1
      omega, e⟩)
  | succ n ih =>
    intro i s hn hit ht q
    have hi : i < zs.length := by omega
    have hz : (zs.map V.str)[i]? = some (.str zs[i]) := by
      rw [List.getElem?_map, List.getElem?_eq_getElem hi]
      rfl
    obtain ⟨u, hu, ru⟩ := hs.get hz
    obtain ⟨t1, rfl⟩ := ru
    have hx : items[i]? = some (.str zs[i] t1) := by rw [← Array.getElem?_toList]; exact hu
    refine codeAny_builtin entry_ci ?_
    show wpAny _ _ (pyNext (.ref it) >>= _) _ _ s
    refine wpAny_bind (wpAny_pyNext_tuple_item hit ht hx fun h' hit' sb => ?_)
    show wpAny _ _ (eqBool (.str zs[i] t1) (.str z tk) >>= _) _ _ _
    refine wpAny_bind (wpAny_eqBool_str ?_)
    by_cases e : zs[i] = z
    · rw [decide_eq_true e]
      refine wpAny_bind (wpAny_rule (wpAny_pure ?_))
      exact q h' true (.inl ⟨rfl, i, Nat.le_refl _, by rw [List.getElem?_eq_getElem hi, e], fun k h1 h2 => by omega, hit', sb.extBut⟩)
    · rw [decide_eq_false e]
      refine wpAny_pure ⟨Code.quiet_builtin _ (by decide +kernel), ?_⟩
      refine ih (i + 1) { s with heap := h' } (by omega) hit' (by
        obtain ⟨o, ho, r⟩ := ht
        exact ⟨o, (sb.2 t hne).trans ho, r⟩) fun h2 b g => ?_
      refine q h2 b ?_
      have lift : ∀ k, i ≤ k → k ≠ i → i + 1 ≤ k := fun k h1 h2 => by omega
      have hzi : zs[i]? ≠ some z := by
        rw [List.getElem?_eq_getElem hi]
        exact fun w => e (Option.some.inj w)
      rcases g with ⟨rfl, j, h1, h3, h4, h5, h6⟩ | ⟨rfl, h1, h3⟩
      · refine .inl ⟨rfl, j, by omega, h3, fun k a c => ?_, h5, sb.extBut.trans h6⟩
        by_cases ek : k = i
        · rw [ek]; exact hzi
        · exact h4 k (lift k a ek) c
      · refine .inr ⟨rfl, fun k a => ?_, sb.extBut.trans h3⟩
        by_cases ek : k = i
        · rw [ek]; exact hzi
        · exact h1 k (lift k a ek)

theorem contains_ti {it t : Addr} {items : Array Value} {zs : List Str} {z : Str} {tk : Tok} {i : Nat} {Q : Bool → Shared → Prop} (hne : t ≠ it) (hh : A.handled = none)
    (hs : Vals (zs.map V.str) items.toList) (hit : s.heap.IsTupleIter it t i) (ht : s.heap.IsTuple t items)
    (q : ∀ h' b, Went it t zs z i s.heap h' b → Q b { s with heap := h' }) : wpAny (model prog w) A (contains (.ref it) (.str z tk)) Q E s := by
  unfold contains
  refine wpAny_holding ?_
  show wpAny _ _ (specialOf (.ref it) "__contains__" >>= _) _ _ s
  refine wpAny_bind (wpAny_specialOf hit.typeIs tu_nocontains ?_)
  refine wpAny_ite_split (fun hab => absurd hab (by decide)) (fun _ => ?_)
  refine wpAny_bind (wpAny_callSpecialUnlessNone?_none hit.typeIs tu_nocontains ?_)
  refine wpAny_bind (wpAny_rule ?_)
  refine wpAny_bind (wpAny_tryCatch (wpAny_mono (wpAny_pyIter_tupleiter (E := fun _ _ => False) hit (Q := fun v s' => v = .ref it ∧ s' = s) ⟨rfl, rfl⟩) (fun v s' hv => ?_) fun _ _ x => x.elim))
  obtain ⟨rfl, rfl⟩ := hv
  refine wpAny_bind (wpAny_runValue (ci_loop hne hh hs _ i _ rfl hit ht fun h' b g => ?_))
  exact wpAny_pure (q h' b g)

theorem call_iter_tuple {t : Addr} {items : Array Value} {Q : Value → Shared → Prop} (ht : s.heap.IsTuple t items)
    (h : Q (.ref s.heap.objs.size) { s with heap := s.heap.push { cls := .type "tuple_iterator", data := .fields #[.ref t, .int 0 0] } }) : wpAny (model prog w) A (call (.builtin "iter") [.ref t]) Q E s := by
  refine Calls.call_function_entry (by decide +kernel) (by decide +kernel) PySem.W.kdk_entry_iter (PySem.W.kdk_args_iter _) ?_
  unfold Builtin.«iter»
  refine wpAny_bind (m := someArgs "iter" 1 2 _) (wpAny_of_eq (a := [Value.ref t]) (by first | rfl | kernel_rfl!) ?_)
  show wpAny _ _ (pyIter (.ref t) >>= _) _ _ _
  refine wpAny_bind (wpAny_pyIter_tuple ht ?_)
  exact wpAny_pure ⟨_, rfl, h⟩
end

/-- at it an iterator over the tuple at t, the next place is i -/
def TupI (t it : Addr) (i : Nat) : HO := .ext fun h => h.IsTupleIter it t i
section
variable {X : Cx}
theorem ti_ok {P : Program} {w : World} {H : Hp} {h : Heap} {t it : Addr} {i : Nat} (e : h.IsTupleIter it t i) : ObjOk P w H h it (TupI t it i) :=
  ⟨e, let ⟨o, ho, _⟩ := e; ⟨o, ho⟩, fun h1 h2 q k => let ⟨o, ho, r⟩ := q; ⟨o, k _ ho, r⟩⟩

def rIterT (K : PySem.W.Frag) (n : Nat) : List V → Hp → VK → Prop := fun xs H Q => ∃ (t : Addr) (zs : List V), xs = [.ref t] ∧ SqT K H t zs ∧ ∀ it, H it = none → n ≤ it → Q (.ref it) (upd H it (TupI t it 0))
theorem call_iterT : CallR X (.builtin "iter") (rIterT X.K X.s_0.heap.objs.size) := by
  intro pins s σ H xs us Q I r h
  obtain ⟨l, zs, rfl, hq, q⟩ := h
  obtain rfl := Vals.ref1 r
  obtain ⟨its, rv, pl, hz⟩ := I.tuple hq
  refine call_iter_tuple pl ?_
  exact ⟨.ref s.heap.objs.size, _, I.laid (t' := s.toks) (fun b u e => Heap.get?_push_of_some _ e) (Nat.le_refl _) (ti_ok ⟨_, Heap.get?_push_size _ rfl, rfl, rfl⟩), rfl, q _ (I.hok.fresh (Nat.le_refl _)) I.sz⟩

/-- x in it; where it is used up, it is forgotten -/
def rInTI (K : PySem.W.Frag) (n : Nat) : R2 := fun x y H Q => ∃ (z : Str) (it t : Addr) (zs : List Str) (i : Nat), x = .str z ∧ y = .ref it ∧ n ≤ it ∧ H it = some (TupI t it i) ∧ SqT K H t (zs.map V.str) ∧
  ((∃ j, i ≤ j ∧ zs[j]? = some z ∧ (∀ k, i ≤ k → k < j → zs[k]? ≠ some z) ∧ Q (.bl true) (upd H it (TupI t it (j + 1)))) ∨ ((∀ k, i ≤ k → zs[k]? ≠ some z) ∧ Q (.bl false) (ItX.dropH H it)))
theorem op_inTI (hc : X.calm = true) : OpR X (compareOp .In) (rInTI X.K X.s_0.heap.objs.size) := by
  intro pins s σ H x y v u Q I rx ry h
  obtain ⟨z, it, t, zs, i, rfl, rfl, hn, hit, hq, q⟩ := h
  obtain ⟨tk, rfl⟩ := rx
  cases ry
  obtain ⟨its, rv, pl, hz⟩ := I.tuple hq
  have hI : s.heap.IsTupleIter it t i := (I.hok it _ hit).1
  have hne : t ≠ it := by
    intro e
    subst e
    obtain ⟨o, ho, hc, _⟩ := hI
    obtain ⟨o', ho', hc', _⟩ := pl
    rw [ho] at ho'
    cases ho'
    rw [hc] at hc'
    revert hc'
    simp
  have mu : Mut (H it) := by rw [hit]; exact True.intro
  show wpAny _ _ (contains (.ref it) (.str z tk) >>= fun b => pure (Value.bool b)) _ _ s
  refine wpAny_bind (contains_ti hne (I.ok.hd hc) (by simpa using rv) hI pl fun h' b g => wpAny_pure ?_)
  rcases g with ⟨rfl, j, h1, h3, h4, h5, h6⟩ | ⟨rfl, h1, h3⟩
  · rcases q with ⟨j', a1, a3, a4, q⟩ | ⟨a1, _⟩
    · have e : j' = j := by
        rcases Nat.lt_trichotomy j j' with l | l | l
        · exact absurd h3 (a4 j h1 l)
        · exact l.symm
        · exact absurd a3 (h4 j' a1 l)
      subst e
      exact ⟨.bl true, _, I.write (x := it) (e := it) (t' := s.toks) mu (.inl rfl) (fun b o nb e => h6 b o nb e) (let ⟨o, ho, _⟩ := h5; ⟨o, ho⟩) (ti_ok h5), rfl, q⟩
    · exact absurd h3 (a1 j h1)
  · rcases q with ⟨j', a1, a3, a4, q⟩ | ⟨a1, q⟩
    · exact absurd a3 (h1 j' a1)
    · have I2 := ItX.inv_drop I hit
      obtain ⟨f0, f1, f2, f3, f4, f5⟩ := ItX.inv_fp I hit hn
      exact ⟨.bl false, _, I2.turned (t' := s.toks) (fun b o nb e => h3 b o nb e) f0 f1 f3 f4 f5, rfl, q⟩
end
end Ka
/-! enumerate(t) of a tuple; xs[i] op= e of a list. -/
namespace Ka
open PySem PySem.Spec PyProof.Rows L2
open AutoSeq1 (wpAny_loadPart')

theorem meets_enumerate_newT (l : Addr) (items : Array Value) (o : Obj) (ho : o.cls = .type "tuple") (hd : ∃ n, o.data = .seq items n) :
    Meets (Builtin.«enumerate.__new__» ⟨[.type "enumerate", .ref l], []⟩) (fun _ R s => s.heap.get? l = some o ∧
      R (.ok (.ret (.ref (s.heap.push { cls := .type "tuple_iterator", data := .fields #[.ref l, .int 0 0] }).objs.size)))
        { s with heap := (s.heap.push { cls := .type "tuple_iterator", data := .fields #[.ref l, .int 0 0] }).push { cls := .type "enumerate", data := .fields #[.none, .bool false, .ref s.heap.objs.size, rawInt 0, .none, .none] } }) :=
  .of_wp fun prog w A R s h => by
    obtain ⟨hp, g, d, tk, os⟩ := s; obtain ⟨hl, h⟩ := h
    obtain ⟨c, dct, dt, sl⟩ := o
    obtain ⟨n, hd⟩ := hd
    replace ho : c = .type "tuple" := ho
    replace hd : dt = .seq items n := hd
    subst ho hd
    have hsub := sub_enumerate
    have hL : Heap.IsTuple (Shared.heap ⟨hp, g, d, tk, os⟩) l items := ⟨_, hl, rfl, n, rfl⟩
    wp_walk using wpAny_loadPart' hl
    refine wpAny_stack_any fun st => wpAny_pure ?_
    split
    · rename_i c _ _ _ _ _
      cases (c == Value.type "enumerate")
      · wp_walk using wpAny_loadPart' hl, wpAny_pyIter_tuple hL
        exact ⟨_, rfl, h⟩
      · wp_walk using wpAny_loadPart' hl, wpAny_pyIter_tuple hL
        exact ⟨_, rfl, h⟩
    · wp_walk using wpAny_loadPart' hl, wpAny_pyIter_tuple hL
      exact ⟨_, rfl, h⟩

section
variable {prog : Program} {w : World} {A : Around} {E : Value → Shared → Prop} {s : Shared}
theorem call_enumerate_tuple {l : Addr} {items : Array Value} {Q : Value → Shared → Prop} (hL : s.heap.IsTuple l items)
    (h : ∀ h', IsEnum h' (s.heap.objs.size + 1) s.heap.objs.size 0 .none → h'.IsTupleIter s.heap.objs.size l 0 → h'.objs.size = s.heap.objs.size + 2 →
      (∀ b o, s.heap.get? b = some o → h'.get? b = some o) → Q (.ref (s.heap.objs.size + 1)) { s with heap := h' }) :
    wpAny (model prog w) A (call (.type "enumerate") [.ref l]) Q E s := by
  obtain ⟨o, hl, hc, hd⟩ := hL
  refine callType_new F.called_enumerate (by decide) (F.typeCall_enumerate_1 _) (F.newCall_enumerate_1 _) (fun obj => F.args_object_init_2 obj _) F.entry_enumerate_new
    (meets_enumerate_newT l items o hc hd) ⟨hl, ?_⟩
  have hz : (s.heap.push { cls := .type "tuple_iterator", data := .fields #[.ref l, .int 0 0] }).objs.size = s.heap.objs.size + 1 := Heap.size_push ..
  show _ ∧ _
  rw [hz]
  have he : IsEnum ((s.heap.push { cls := .type "tuple_iterator", data := .fields #[.ref l, .int 0 0] }).push
      { cls := .type "enumerate", data := .fields #[.none, .bool false, .ref s.heap.objs.size, rawInt 0, .none, .none] }) (s.heap.objs.size + 1) s.heap.objs.size 0 .none := by
    have := Heap.get?_push_size (s.heap.push { cls := .type "tuple_iterator", data := .fields #[.ref l, .int 0 0] })
      (o := { cls := .type "enumerate", data := .fields #[.none, .bool false, .ref s.heap.objs.size, rawInt 0, .none, .none] }) rfl
    rw [hz] at this; exact this
  refine ⟨⟨_, he, rfl⟩, h _ he ⟨_, Heap.get?_push_of_some _ (Heap.get?_push_size _ rfl), rfl, rfl⟩ (by rw [Heap.size_push, hz]) fun b o x => Heap.get?_push_of_some _ (Heap.get?_push_of_some _ x)⟩
end

/-- the tuple at a, each item in a new pair -/
def Iet (K : PySem.W.Frag) (a : Addr) : It :=
  ⟨fun i H => ∃ (xs : List V) (x : V), SqT K H a xs ∧ xs[i]? = some x, fun i H v H' => ∃ T x, v = .ref T ∧ H T = none ∧ H' = upd H T (.tup [.int (i : Nat), x]) ∧ ∀ xs, SqT K H a xs → xs[i]? = some x, fun i H => ∃ xs : List V, SqT K H a xs ∧ xs.length ≤ i⟩
theorem turn_enumT {P : Program} {w : World} {K : PySem.W.Frag} {elts : List Expr} {kk : Nat} {tpos : Pos} (a e it : Addr) (hae : a ≠ e) (hai : a ≠ it) (len : Nat) :
    Turn P w K (.Tuple elts kk tpos) (Iet K a) [e, it] e (fun i h => (∃ old, IsEnum h e it ((i : Nat) : Int) old) ∧ h.IsTupleIter it a i ∧ e ≠ it) where
  mem := by simp
  obj := fun i h st b hb => by
    obtain ⟨⟨old, he⟩, ⟨o, ho, hc, hd⟩, _⟩ := st
    have e' : b = e ∨ b = it := by simpa using hb
    rcases e' with z | z
    · rw [z]; exact ⟨_, he, fun v q => nomatch q⟩
    · rw [z]; exact ⟨o, ho, fun v q => by rw [hd] at q; cases q⟩
  keep := fun i h h' st k => let ⟨⟨old, he⟩, hi, hne⟩ := st; ⟨⟨old, k e (by simp) _ he⟩, hi.at fun o q => k it (by simp) o q, hne⟩
  item := by
    intro X hP hw hK hc i pins s σ H E I hf st hg
    subst hP hw hK
    obtain ⟨⟨old, he⟩, hit, hne⟩ := st
    obtain ⟨xs, x, hq, hx⟩ := hg
    obtain ⟨its, rv, p, hz⟩ := I.tuple hq
    obtain ⟨u, hu, ru⟩ := rv.get hx
    have hel : e < s.heap.objs.size := Heap.lt_size he
    have hil : it < s.heap.objs.size := by obtain ⟨_, q, _⟩ := hit; exact Heap.lt_size q
    have hit0 : i < its.toArray.size := by
      have := (List.getElem?_eq_some_iff.mp hu).1
      simpa using this
    refine wpAny_pyNext_enum_itemD (Draws.tuple (A := X.A.in1) (by first | exact I.ok.hd hc | (show X.A.handled = none; exact I.ok.hd hc)) it a hai its.toArray) he ⟨hit, p⟩ hit0 hne (by simp [hne, Ne.symm hae]) fun x' h' tk hx' ho hst hT hsz hk => ?_
    have ex : x' = u := by
      have h2 : its.toArray[i]? = some u := by simpa using hu
      rw [h2] at hx'
      exact (Option.some.inj hx').symm
    subst ex
    refine ⟨_, rfl, wpAny_letOwnedTupleGo_enum (s := { s with heap := h', toks := tk + 1 }) ho fun h'' he' sb => ?_⟩
    have hT2 : h''.get? s.heap.objs.size = some { cls := .type "tuple", data := .seq #[.int i tk, x'] } := (sb.2 _ (Nat.ne_of_gt hel)).trans hT
    have new : ObjOk X.prog X.w (upd H s.heap.objs.size (.tup [.int (i : Nat), x])) h'' s.heap.objs.size (.tup [.int (i : Nat), x]) :=
      ⟨by show 2 ≤ sizeLine; decide, [.int i tk, x'], .cons ⟨_, rfl⟩ (.cons ru .nil), ⟨_, hT2, rfl, _, rfl⟩⟩
    have I1 : Inv X pins σ (upd H s.heap.objs.size (.tup [.int (i : Nat), x])) { s with heap := h'', toks := tk + 1 } :=
      I.turnedNew (ch := [e, it]) (fun b ob hb q => (sb.2 b (fun z => hb (by simp [z]))).trans (hk b ob (fun z => hb (by simp [z])) (fun z => hb (by simp [z])) q)) hf (Nat.le_refl _) new
    refine ⟨.ref s.heap.objs.size, _, I1, rfl, ⟨_, x, rfl, I.hok.fresh (Nat.le_refl _), rfl, fun ys hy => by rw [I.tuple_inj hy hq]; exact hx⟩, ⟨⟨x', ?_⟩, hst.1.at fun o q => (sb.2 it (Ne.symm hne)).trans q, hne⟩, fun b hb => ?_⟩
    · have e1 : ((i + 1 : Nat) : Int) = (i : Int) + 1 := by omega
      rw [e1]; exact he'
    · have hb' : b < s.heap.objs.size := by
        have e' : b = e ∨ b = it := by simpa using hb
        rcases e' with z | z
        · rw [z]; exact hel
        · rw [z]; exact hil
      rw [upd_ne (Nat.ne_of_lt hb')]
      exact (hf b hb).1
  done := by
    intro X hP hw hK hc i pins s σ H E I hf st hg
    subst hP hw hK
    obtain ⟨⟨old, he⟩, hit, hne⟩ := st
    obtain ⟨xs, hq, hx⟩ := hg
    obtain ⟨its, rv, p, hz⟩ := I.tuple hq
    obtain ⟨f0, f1, f2, f3, f4, f5⟩ := hf it (by simp)
    have hl := rv.length
    have hT : s.TypeIs (.ref e) "enumerate" := ⟨_, he, rfl⟩
    unfold pyNext
    refine wpAny_bind (wpAny_attempt (wpAny_callSpecial?_slot (name := Str.ofString "__next__") hT F.slot_enumerate_next
      (wpAny_call_entry F.slot_enumerate_next hT F.entry_enumerate_next ?_ (F.args_enumerate_next_1 _))))
    show wpAny _ _ (field (.ref e) 2 >>= _) _ _ _
    refine wpAny_bind (wpAny_field he rfl (x := .ref it) rfl ?_)
    refine wpAny_bind (wpAny_nextOf_tuple_end (by first | exact I.ok.hd hc | (show X.A.handled = none; exact I.ok.hd hc)) hit p (by rw [Array.getElem?_eq_none_iff]; simp; omega) fun h' x he' hx' => ?_)
    obtain ⟨o, ho, hc'⟩ := hx'
    refine wpAny_bind (wpAny_isInstance (T := "StopIteration") (b := true) ⟨o, ho, hc'⟩ isSubtype_stop ?_)
    exact wpAny_pure ⟨rfl, I.turned (t' := s.toks) (fun b o hb q => he' b o hb q) f0 f1 f3 f4 f5⟩
  self := fun A i s Q E st h => let ⟨⟨_, he⟩, _⟩ := st; wpAny_pyIter_enum he h
def iEnumT (K : PySem.W.Frag) (ta : TA) : TI := fun σ H R => ta σ H fun vs H1 => ∃ a xs, vs = [.ref a] ∧ SqT K H1 a xs ∧ R (Iet K a) H1
theorem pi_enumT {X : Cx} {e : Expr} {ta : TA} {p pos tpos : Pos} {elts : List Expr} {kk : Nat} (hg : Gl X "enumerate") (hm : X.mg "enumerate" = none) (ha : PA X [e] ta) (hs : starEach [e] X.env = [(false, eval e X.env)] := by rfl) :
    PI X (.Tuple elts kk tpos) (.Call (.Name "enumerate" p) [e] [] pos) (iEnumT X.K ta) := by
  refine ⟨fun pins s σ H R I h => ?_⟩
  refine Call_ (ld_blt I hg hm boot_enumerate (PyProof.Rows.callWith_type1 (thn (ha.run pos pins s σ H _ I h) fun us s1 ⟨vs, H1, I1, r1, q1⟩ => ?_) hs rfl))
  obtain ⟨a, xs, ex, hq, q⟩ := q1
  subst ex
  cases r1 with
  | cons r rr =>
    cases rr
    cases r
    obtain ⟨its, rv, p', hz⟩ := I1.tuple hq
    have hal : a < s1.heap.objs.size := by obtain ⟨_, z, _⟩ := p'; exact Heap.lt_size z
    refine call_enumerate_tuple p' fun h' he hit hsz hk => wpAny_pyIter_enum he ?_
    have I2 : Inv X pins σ H1 { s1 with heap := h' } := I1.kept (t' := s1.toks) hk
    refine ⟨s1.heap.objs.size + 1, [s1.heap.objs.size + 1, s1.heap.objs.size], _, _, H1, rfl, I2, turn_enumT a (s1.heap.objs.size + 1) s1.heap.objs.size (Nat.ne_of_lt (Nat.lt_succ_of_lt hal)) (Nat.ne_of_lt hal) 0, ⟨⟨.none, he⟩, hit, Nat.succ_ne_self _⟩, fun b hb => ?_, q⟩
    have e' : b = s1.heap.objs.size + 1 ∨ b = s1.heap.objs.size := by simpa using hb
    have hle : s1.heap.objs.size ≤ b := by
      rcases e' with z | z
      · rw [z]; exact Nat.le_add_right _ _
      · rw [z]; exact Nat.le_refl _
    exact I1.fpOk hle (I1.hok.fresh hle)

/-- a loop over enumerate(t), by one word a turn -/
theorem for_enumT {K : PySem.W.Frag} {a : Addr} {xs : List V} {g : TG} {tb : TS} {D : Ends} {σ : L2.St} {H : Hp} (Pv : Nat → L2.St → Hp → Prop) (h0 : Pv 0 σ H) (hl : ∀ i σ H, Pv i σ H → SqT K H a xs)
    (hs : ∀ i x T σ H, xs[i]? = some x → Pv i σ H → H T = none → g (.ref T) σ (upd H T (.tup [.int (i : Nat), x])) fun σ2 H2 => tb { D with nx := Pv (i + 1), ct := Pv (i + 1), bk := D.nx } σ2 H2)
    (hd : ∀ σ H, Pv xs.length σ H → D.nx σ H) :
    ∃ W : Nat → Nat → L2.St → Hp → Prop, (∃ m, W 0 m σ H) ∧ ∀ i m σ H, W i m σ H →
      ((Iet K a).stop i H ∧ D.nx σ H) ∨ ((Iet K a).go i H ∧ ∃ N : L2.St → Hp → Prop, (∀ σ' H', N σ' H' → ∃ m', m' < m ∧ W (i + 1) m' σ' H') ∧ ∀ x H', (Iet K a).yld i H x H' → g x σ H' fun σ2 H2 => tb { D with nx := N, ct := N, bk := D.nx } σ2 H2) := by
  refine ⟨fun i m σ H => m = xs.length - i ∧ i ≤ xs.length ∧ Pv i σ H, ⟨_, rfl, Nat.zero_le _, h0⟩, ?_⟩
  rintro i m σ H ⟨rfl, hi, p⟩
  have q := hl i σ H p
  by_cases hlt : i < xs.length
  · refine .inr ⟨⟨xs, xs[i], q, List.getElem?_eq_getElem hlt⟩, Pv (i + 1), fun σ' H' p' => ⟨xs.length - (i + 1), by omega, rfl, hlt, p'⟩, fun x H' y => ?_⟩
    obtain ⟨T, z, rfl, nT, rfl, hz⟩ := y
    exact hs i z T σ H (hz xs q) p nT
  · have e : i = xs.length := by omega
    refine .inl ⟨⟨xs, q, Nat.le_of_eq e.symm⟩, hd σ H ?_⟩
    rw [← e]
    exact p

/-! ### xs[i] op= e -/
def gtL (K : PySem.W.Frag) : V → V → Hp → VK → Prop := fun x y H Q => ∃ p xs j v, x = .ref p ∧ y = .int ((j : Nat) : Int) ∧ SqL K H p xs ∧ j < 2 ^ 62 ∧ xs[j]? = some v ∧ Q v H
theorem get_list {X : Cx} : PGet X (gtL X.K) := by
  intro pins s σ H o i ov iv Q I ro ri h
  obtain ⟨p, xs, j, v, rfl, rfl, hq, hj, hv, q⟩ := h
  cases ro
  obtain ⟨t, rfl⟩ := ri
  obtain ⟨its, r, pl, hz⟩ := I.list hq
  obtain ⟨u, hu, ru⟩ := r.get hv
  exact wpAny_getItem_list pl.isList (by omega) (by omega) (by simpa using hu) ⟨v, H, I, ru, q⟩
end Ka
/-! t[::-1] of a tuple. -/
namespace Ka
open PySem PySem.Spec PyProof.Rows L2 HT

theorem back_places (n : Nat) : Builtin.Slice.slicePlaces ((n : Int) - 1) (-1) (-1) = n := by
  unfold Builtin.Slice.slicePlaces
  rw [if_neg (by decide)]
  by_cases h : n = 0
  · subst h
    rfl
  · rw [if_pos (by omega)]
    have e : ((n : Int) - 1 - -1 - 1) / (- -1) + 1 = n := by
      rw [show (-(-1 : Int)) = 1 by decide, Int.ediv_one]
      omega
    rw [e]
    exact Int.toNat_natCast n

theorem back_some (xs : Array Value) (f : Nat → Option Value) (hf : ∀ k, k < xs.size → f k = xs.toList.reverse[k]?) : ∀ l : List Nat, (∀ k ∈ l, k < xs.size) → l.filterMap f = l.map fun k => xs.toList.reverse[k]?.getD .none
  | [], _ => rfl
  | k :: l, h => by
    have hk : k < xs.size := h k List.mem_cons_self
    have h2 : k < xs.toList.reverse.length := by simpa using hk
    rw [List.filterMap_cons, hf k hk, List.map_cons, back_some xs f hf l fun j hj => h j (List.mem_cons_of_mem _ hj), List.getElem?_eq_getElem h2]
    rfl
theorem back_items (xs : Array Value) : ((List.range xs.size).filterMap fun (k : Nat) => xs[((xs.size : Int) - 1 + (k : Int) * -1).toNat]?) = xs.toList.reverse := by
  rw [back_some xs _ (fun k hk => ?_) _ fun k hk => List.mem_range.mp hk]
  · apply List.ext_getElem?
    intro i
    rw [List.getElem?_map]
    by_cases hi : i < xs.size
    · have h2 : i < xs.toList.reverse.length := by simpa using hi
      rw [List.getElem?_range hi, Option.map_some, List.getElem?_eq_getElem h2]
      rfl
    · rw [List.getElem?_eq_none (by simpa using hi), List.getElem?_eq_none (by simpa using hi)]
      rfl
  · have e : ((xs.size : Int) - 1 + (k : Int) * -1).toNat = xs.size - 1 - k := by omega
    rw [e, List.getElem?_reverse (by simpa using hk), Array.length_toList, Array.getElem?_toList]

section
variable {prog : Program} {w : World} {A : Around} {E : Value → Shared → Prop} {s : Shared}
theorem applied_back {sl : Addr} {vl vu vs : Value} {n : Nat} {Q : Int × Int × Nat → Shared → Prop} (hs : s.heap.IsSliceOf sl vl vu vs) (pl : IsPart vl none) (pu : IsPart vu none) (ps : IsPart vs (some (-1)))
    (h : Q ((n : Int) - 1, -1, n) s) : wpAny (model prog w) A (Builtin.Slice.sliceApplied (.ref sl) (pure (n : Int))) Q E s := by
  obtain ⟨o, ho, _, hd⟩ := hs
  unfold Builtin.Slice.sliceApplied Builtin.Slice.sliceFields
  refine wpAny_bind (wpAny_bind (wpAny_field ho hd (x := vl) rfl (wpAny_bind (wpAny_field ho hd (x := vu) rfl (wpAny_bind (wpAny_field ho hd (x := vs) rfl (wpAny_pure ?_)))))))
  refine wpAny_bind (slicePart_ ps ?_)
  refine wpAny_ite_split (fun z => absurd z (by decide)) fun _ => ?_
  refine wpAny_bind (slicePart_ pl (wpAny_bind (slicePart_ pu (wpAny_bind (wpAny_pure (wpAny_pure ?_))))))
  have e : Builtin.Slice.slicePlaces ((n : Int) - 1) (-1) (-1) = n := back_places n
  show Q ((n : Int) - 1, -1, Builtin.Slice.slicePlaces ((n : Int) - 1) (-1) (-1)) s
  rw [e]
  exact h

theorem getItem_back {t sl : Addr} {items : Array Value} {vl vu vs : Value} {Q : Value → Shared → Prop} (ht : IsTup s.heap t items) (hs : s.heap.IsSliceOf sl vl vu vs) (pl : IsPart vl none) (pu : IsPart vu none) (ps : IsPart vs (some (-1)))
    (hz : items.size ≤ sizeLine) (h : Q (.ref s.heap.objs.size) { s with heap := s.heap.push { cls := .type "tuple", data := .seq items.toList.reverse.toArray } }) : wpAny (model prog w) A (getItem (.ref t) (.ref sl)) Q E s := by
  have hT : s.TypeIs (.ref sl) "slice" := let ⟨o, ho, hc, _⟩ := hs; ⟨o, ho, hc⟩
  have hok : sizeOk (.seq items.toList.reverse.toArray) := by
    show items.toList.reverse.toArray.size ≤ sizeLine
    simpa using hz
  unfold getItem
  try with_reducible refine wpAny_holding ?_
  first | refine wpAny_bind (wpAny_pure ?_) | skip
  refine wpAny_bind (wpAny_sequenceKey ht.typeIs (by decide) ?_)
  refine wpAny_bind (wpAny_callSpecial?_slot (name := Str.ofString "__getitem__") ht.typeIs PyProof.Rows.slot_tuple_getitem
    (wpAny_call_entry PyProof.Rows.slot_tuple_getitem ht.typeIs entry_tuple_getitem ?_ (args_tuple_getitem _ _)))
  show wpAny _ _ (Builtin.Tuple.tupleItemsOf (.ref t) >>= _) _ _ s
  refine wpAny_bind (tupleItemsOf_ ht (wpAny_bind (wpAny_typeOf hT ?_)))
  rw [if_pos (by decide)]
  refine wpAny_bind (applied_back hs pl pu ps ?_)
  refine wpAny_ite_split (fun z => ?_) fun _ => ?_
  · exfalso
    simp at z
  · rw [back_items]
    first
      | exact wpAny_bind (m := Builtin.Tuple.tupleExact _) (wpAny_newObj_type (wpAny_pure ⟨_, rfl, wpAny_pure h⟩) hok)
      | exact wpAny_bind (m := Builtin.Tuple.tupleExact _) (wpAny_newObj_type (wpAny_bind (wpAny_pure (wpAny_pure ⟨_, rfl, wpAny_pure h⟩))) hok)
      | exact wpAny_bind (wpAny_bind (m := Builtin.Tuple.tupleExact _) (wpAny_newObj_type (wpAny_pure (wpAny_pure ⟨_, rfl, wpAny_pure h⟩)) hok))
      | exact wpAny_bind (wpAny_bind (m := Builtin.Tuple.tupleExact _) (wpAny_newObj_type (wpAny_pure ⟨_, rfl, wpAny_pure h⟩) hok))
end

def tRevT (K : PySem.W.Frag) (te : TE) : TE := fun σ H Q => te σ H fun x H1 => ∃ a xs, x = .ref a ∧ SqT K H1 a xs ∧ ∀ p, H1 p = none → Q (.ref p) (upd H1 p (.tup xs.reverse))
theorem pe_revT {X : Cx} {e : Expr} {te : TE} {k : Nat} {p1 p2 p3 pos : Pos} (he : PE X e te) : PE X (.Subscript e (.Slice none none (some (.UnaryOp .USub (.Constant (.int 1) k p1) p2)) p3) pos) (tRevT X.K te) := by
  refine ⟨fun pins s σ H Q I h => Subscript_ (thn (he.run pins s σ H _ I h) fun v s1 ⟨x, H1, I1, r1, a, xs, ex, hx, q⟩ => ?_)⟩
  subst ex
  cases r1
  have hm : PO X (some (.UnaryOp .USub (.Constant (.int 1) k p1) p2)) (tPart (tUn (rU fun i => .int (-i)) (tC (.int 1)))) := po_some (pe_un un_neg pe_int)
  refine wpAny_Slice (thn (po_none.run pins s1 σ H1 (fun o H2 => o = none ∧ H2 = H1) I1 ⟨rfl, rfl⟩) fun vl s2 ⟨l, H2, I2, pl, el, e2⟩ => ?_)
  subst el e2
  refine thn (po_none.run pins s2 σ H2 (fun o H3 => o = none ∧ H3 = H2) I2 ⟨rfl, rfl⟩) fun vu s3 ⟨u, H3, I3, pu, eu, e3⟩ => ?_
  subst eu e3
  refine thn (hm.run pins s3 σ H3 (fun o H4 => o = some (-1) ∧ H4 = H3) I3 ⟨1, rfl, -1, rfl, rfl, rfl⟩) fun vs s4 ⟨o, H4, I4, ps, eo, e4⟩ => ?_
  subst eo e4
  have I5 : Inv X pins σ H4 { s4 with heap := s4.heap.push { cls := .type "slice", data := .fields #[vl, vu, vs] } } := I4.kept (t' := s4.toks) fun b ob z => Heap.get?_push_of_some _ z
  obtain ⟨its, r, ht, hz⟩ := I5.tuple hx
  have hl := r.length
  show wpAny (model X.prog X.w) X.A (subscriptTail e (.Slice none none (some (.UnaryOp .USub (.Constant (.int 1) k p1) p2)) p3) (.ref a) (.ref s4.heap.objs.size)) (EP X pins σ Q) X.xe { s4 with heap := s4.heap.push { cls := .type "slice", data := .fields #[vl, vu, vs] } }
  refine tail_any (ops := [.ref a, .ref s4.heap.objs.size]) ht.typeIs PyProof.Rows.slot_tuple_getitem.lookup ?_ (by with_unfolding_all rfl)
  refine getItem_back ht (Heap.IsSliceOf.new _ vl vu vs) pl pu ps (by rw [List.size_toArray]; omega) ?_
  refine ⟨.ref _, _, I5.laid (t' := s4.toks) (o := .tup xs.reverse) (fun b ob z => Heap.get?_push_of_some _ z) (Nat.le_refl _) ?_, rfl, q _ (I5.hok.fresh (Nat.le_refl _))⟩
  exact ⟨by rw [List.length_reverse]; exact hz, _, r.reverse, IsTup.new _ _⟩
end Ka
/-! sorted(rows, key=f), f(row) = (len(row), row), rows of texts. -/
namespace Ka
open PySem PySem.Spec PyProof.Rows L2 PySem.W

/-- a row of texts as data, and its key -/
def rowD (r : List Str) : PyData := .tuple (r.map .str)
def keyOf (r : List Str) : PyData := .tuple [.int r.length, rowD r]
/-- the order of rows -/
def rowLe : List Str → List Str → Bool := dataLe false keyOf

theorem reads_strs {h : Heap} : ∀ {zs : List Str} {us : List Value}, Vals (zs.map V.str) us → ReadsAll h us (zs.map .str) []
  | [], [], _ => .nil
  | z :: zs, u :: us, r => by
    cases r with
    | cons a b =>
      obtain ⟨t, rfl⟩ := a
      exact ReadsAll.cons (as := []) (bs := []) (.str z t) (reads_strs b)
  | [], _ :: _, r => nomatch r
  | _ :: _, [], r => nomatch r

theorem alike_strs : ∀ (a b : List Str), alikeAll (a.map PyData.str) (b.map PyData.str) = true
  | [], _ => by simp [alikeAll]
  | _ :: _, [] => by simp [alikeAll]
  | x :: a, y :: b => by
    rw [List.map_cons, List.map_cons, alikeAll, alike_strs a b]
    simp [alike]
theorem alike_keys (a b : List Str) : alike (keyOf a) (keyOf b) = true := by
  unfold keyOf rowD
  simp [alike, alikeAll, alike_strs]
theorem depth_strs : ∀ a : List Str, PyData.depthAll (a.map PyData.str) ≤ 1
  | [] => by simp [PyData.depthAll]
  | x :: a => by
    have := depth_strs a
    rw [List.map_cons]
    simp only [PyData.depthAll, PyData.depth]
    omega
theorem depth_key (a : List Str) : (keyOf a).depth ≤ 3 := by
  have := depth_strs a
  unfold keyOf rowD
  simp only [PyData.depth, PyData.depthAll]
  omega

section
variable {prog : Program} {w : World} {A : Around} {E : Value → Shared → Prop} {s : Shared}
/-- what the tuple (len(x), x) is worth, where x holds a row -/
theorem key_expr {env : Env} {a : Addr} {zs : List Str} {its : List Value} {x : Str} {p1 p2 p3 p4 p5 : Pos} {k : Nat} (hsx : starEach [.Name x p2] env = [(false, eval (.Name x p2) env)])
    (hst : starEach [.Call (.Name "len" p1) [.Name x p2] [] p3, .Name x p4] env = [(false, eval (.Call (.Name "len" p1) [.Name x p2] [] p3) env), (false, eval (.Name x p4) env)])
    (hrow : ∀ (p : Pos) (Q : Value → Shared → Prop) (tk : Nat), Q (.ref a) { s with toks := tk } → wpAny (model prog w) A (eval (.Name x p) env) Q E { s with toks := tk })
    (hlen : ∀ (Q : Value → Shared → Prop), Q (.builtin "len") s → wpAny (model prog w) A (eval (.Name "len" p1) env) Q E s)
    (rv : Vals (zs.map V.str) its) (ht : IsTup s.heap a its.toArray) (hz : zs.length ≤ sizeLine) : wpAny (model prog w) A (eval (.Tuple [.Call (.Name "len" p1) [.Name x p2] [] p3, .Name x p4] k p5) env) (KeyPure (keyOf zs) s) E s := by
  have hl := rv.length
  have hs : sizeLine = 16777216 := sizeLine_eq
  rw [List.length_map] at hl
  refine wpAny_Tuple_spliced ?_
  rw [hst]
  refine Calls.spliced_cons (wpAny_Call_Name_kw (hlen _ (PyProof.Rows.callWith_builtin1 ?_ (by rw [hsx]; rfl) rfl)))
  rw [hsx]
  refine Calls.spliced_cons (hrow p2 _ s.toks (Calls.spliced_nil ?_))
  refine len_tuple ht (by rw [List.size_toArray]; omega) ?_
  refine Calls.spliced_cons (hrow p4 _ _ (Calls.spliced_nil ⟨by show 2 ≤ sizeLine; rw [hs]; decide, ?_⟩))
  refine ⟨_, _, rfl, fun b o e => Heap.get?_push_of_some _ e, ?_⟩
  refine Reads.tuple (Heap.get?_push_size _ rfl) rfl rfl (ReadsAll.cons (as := []) (bs := []) ?_ (ReadsAll.cons (as := []) (bs := []) ?_ .nil))
  · have e : ((its.toArray.size : Nat) : Int) = zs.length := by rw [List.size_toArray, hl]
    rw [e]
    exact .int _ _
  · obtain ⟨o, ho, hc, n, hd⟩ := ht
    exact Reads.keeps (fun b o e => Heap.get?_push_of_some _ e) (Reads.tuple ho hc hd (reads_strs rv))

/-- the frame of such a def: where its names are found -/
theorem key_frame {scope : Scope} {qual x : Str} {f a : Addr} {cd : Value} {clos : List (Str × Addr)} {mg mb : Str → Option Value} {zs : List Str} {its : List Value} {p1 p2 p3 p4 p5 : Pos} {k : Nat} {h₁ : Heap} {tk : Nat}
    (hk : scope.kind = .function) (hx : scope.names.lookup x = some .local) (hl : scope.names.lookup ("len" : Str) = some .globalImplicit) (hdx : (x == ("__debug__" : Str)) = false)
    (hg : s.heap.Ns mainGlobals mg) (hm : mg ("len" : Str) = none) (hb : s.heap.Ns builtinsNs mb) (hv : mb ("len" : Str) = some (.builtin "len"))
    (hns : h₁.Ns s.heap.objs.size fun y => [(x, Value.ref a)].reverse.lookup y) (kp : ∀ b o, s.heap.get? b = some o → h₁.get? b = some o) (rv : Vals (zs.map V.str) its) (ht : IsTup s.heap a its.toArray) (hz : zs.length ≤ sizeLine) :
    wpAny (model prog w) A (eval (.Tuple [.Call (.Name "len" p1) [.Name x p2] [] p3, .Name x p4] k p5) (newEnv scope s.heap.objs.size mainGlobals clos qual (some f) cd none builtinsNs)) (KeyPure (keyOf zs) s) E { s with heap := h₁, toks := tk } := by
  have nsk : ∀ {b : Addr} {m : Str → Option Value}, s.heap.Ns b m → h₁.Ns b m := fun ⟨o, es, ep, e, r⟩ => ⟨o, es, ep, kp _ _ e, r⟩
  have hrow : ∀ (p : Pos) (Q : Value → Shared → Prop) (tk' : Nat), Q (.ref a) { s with heap := h₁, toks := tk' } → wpAny (model prog w) A (eval (.Name x p) (newEnv scope s.heap.objs.size mainGlobals clos qual (some f) cd none builtinsNs)) Q E { s with heap := h₁, toks := tk' } :=
    fun p Q tk' q => wpAny_Name (wpAny_loadName_local (m := fun y => [(x, Value.ref a)].reverse.lookup y) hk hx hns (by simp) q) hdx
  have hlen : ∀ (Q : Value → Shared → Prop), Q (.builtin "len") { s with heap := h₁, toks := tk } → wpAny (model prog w) A (eval (.Name "len" p1) (newEnv scope s.heap.objs.size mainGlobals clos qual (some f) cd none builtinsNs)) Q E { s with heap := h₁, toks := tk } :=
    fun Q q => Calls.Name_function_global hk hl (Calls.loadGlobal_builtin (nsk hg) hm (nsk hb) hv q) (by decide)
  have ht' : IsTup h₁ a its.toArray := let ⟨o, ho, r⟩ := ht; ⟨o, kp _ _ ho, r⟩
  refine wpAny_mono (key_expr (s := { s with heap := h₁, toks := tk }) (by rfl) (by rfl) hrow hlen rv ht' hz) (fun v s' q => ?_) fun _ _ e => e
  obtain ⟨h', tk', rfl, k', r⟩ := q
  exact ⟨h', tk', rfl, fun b o e => k' b o (kp b o e), r⟩

/-- def f(x): return (len(x), x) -/
theorem call_keyDef {name qual : Str} {params : Arguments} {scope : Scope} {dV kV doc pm cdv ct : Value} {an : Option Addr} {x : Str} {f a : Addr} {o : Obj} {mg mb : Str → Option Value} {zs : List Str} {its : List Value} {p1 p2 p3 p4 p5 p6 : Pos} {k : Nat}
    (ho : s.heap.get? f = some o) (hd : o.data = .func (fnOf name qual params [.Return (some (.Tuple [.Call (.Name "len" p1) [.Name x p2] [] p3, .Name x p4] k p5)) p6] scope dV kV doc pm an cdv ct))
    (hroom : A.depth < recursionLimit) (hlim : s.heap.NoLimit) (hcd : s.heap.CodeRec cdv qual) (hbind : bindArgs (fnOf name qual params [.Return (some (.Tuple [.Call (.Name "len" p1) [.Name x p2] [] p3, .Name x p4] k p5)) p6] scope dV kV doc pm an cdv ct) ⟨[.ref a], []⟩ = pure [(x, .ref a)])
    (hk : scope.kind = .function) (hco : scope.isCoroutine = false) (hge : scope.isGenerator = false) (hc : ∀ y ∈ scope.names, y.2 ≠ .cell) (hx : scope.names.lookup x = some .local) (hl : scope.names.lookup ("len" : Str) = some .globalImplicit) (hdx : (x == ("__debug__" : Str)) = false)
    (hg : s.heap.Ns mainGlobals mg) (hm : mg ("len" : Str) = none) (hb : s.heap.Ns builtinsNs mb) (hv : mb ("len" : Str) = some (.builtin "len")) (rv : Vals (zs.map V.str) its) (ht : IsTup s.heap a its.toArray) (hz : zs.length ≤ sizeLine) :
    wpAny (model prog w) A (call (.ref f) [.ref a]) (KeyPure (keyOf zs) s) E s := by
  refine wpAny_call (codeAny_mono (R := fun r s' => ∃ v, r = .ok (.ret v) ∧ KeyPure (keyOf zs) s v s') ?_ fun r s' ⟨v, e, q⟩ => by subst e; exact q)
  refine codeAny_call_function hroom ho hd hco hge rfl hcd ?_
  rw [hbind]
  refine wpAny_pure (wpAny_newFunctionEnv hc (fun y hy => by
    have e : y = (x, Value.ref a) := by simpa using hy
    rw [e]
    exact hx) (fun h₁ hns hsb => ⟨hlim.fresh _ hsb, ?_⟩) hk)
  refine codeAny_func (wpAny_execs_cons (wpAny_Return_some ?_))
  refine wpAny_mono (key_frame (E := fun _ _ => False) hk hx hl hdx hg hm hb hv hns (fun b o' e => hsb.extBut b o' (Nat.ne_of_lt (Heap.lt_size e)) (Heap.get?_push_of_some _ e)) rv ht hz) (fun v s' q => ⟨v, rfl, q⟩) fun _ _ z => z.elim

/-- lambda x: (len(x), x) -/
theorem call_keyLam {name qual : Str} {params : Arguments} {scope : Scope} {pm ct : Value} {c' : Addr} {x : Str} {f a : Addr} {clos : List (Str × Addr)} {mg mb : Str → Option Value} {zs : List Str} {its : List Value} {p1 p2 p3 p4 p5 : Pos} {k : Nat}
    (ho : s.heap.get? f = some (kla_obj name qual params (.Tuple [.Call (.Name "len" p1) [.Name x p2] [] p3, .Name x p4] k p5) scope clos pm c' ct))
    (hroom : A.depth < recursionLimit) (hlim : s.heap.NoLimit) (hcd : s.heap.CodeRec (.ref c') qual) (hbind : bindArgs (kla_fn name qual params (.Tuple [.Call (.Name "len" p1) [.Name x p2] [] p3, .Name x p4] k p5) scope clos pm (.ref c') ct) ⟨[.ref a], []⟩ = pure [(x, .ref a)])
    (hk : scope.kind = .function) (hco : scope.isCoroutine = false) (hge : scope.isGenerator = false) (hc : ∀ y ∈ scope.names, y.2 ≠ .cell) (hx : scope.names.lookup x = some .local) (hl : scope.names.lookup ("len" : Str) = some .globalImplicit) (hdx : (x == ("__debug__" : Str)) = false)
    (hg : s.heap.Ns mainGlobals mg) (hm : mg ("len" : Str) = none) (hb : s.heap.Ns builtinsNs mb) (hv : mb ("len" : Str) = some (.builtin "len")) (rv : Vals (zs.map V.str) its) (ht : IsTup s.heap a its.toArray) (hz : zs.length ≤ sizeLine) :
    wpAny (model prog w) A (call (.ref f) [.ref a]) (KeyPure (keyOf zs) s) E s := by
  refine wpAny_call (codeAny_mono (R := fun r s' => ∃ v, r = .ok (.ret v) ∧ KeyPure (keyOf zs) s v s') ?_ fun r s' ⟨v, e, q⟩ => by subst e; exact q)
  refine kla_callFunE hroom ho rfl hco hge rfl hcd ?_
  rw [hbind]
  refine wpAny_pure (wpAny_newFunctionEnv hc (fun y hy => by
    have e : y = (x, Value.ref a) := by simpa using hy
    rw [e]
    exact hx) (fun h₁ hns hsb => ⟨hlim.fresh _ hsb, ?_⟩) hk)
  refine kla_codeExpr ?_
  refine wpAny_mono (key_frame (E := fun _ _ => False) hk hx hl hdx hg hm hb hv hns (fun b o' e => hsb.extBut b o' (Nat.ne_of_lt (Heap.lt_size e)) (Heap.get?_push_of_some _ e)) rv ht hz) (fun v s' q => ⟨v, rfl, q⟩) fun _ _ z => z.elim
end

/-! ### over the layer -/
/-- a row of texts at an address -/
abbrev Row := Addr × List Str
def leRow (r q : Row) : Bool := rowLe r.2 q.2
/-- a call of the key: it keeps the heap, and gives the row's key -/
def KeyAt (X : Cx) (s : Shared) (f : Addr) : Prop := ∀ (h : Heap) (tk : Nat), (∀ b o, s.heap.get? b = some o → h.get? b = some o) → ∀ (a : Addr) (zs : List Str) (its : List Value), Vals (zs.map V.str) its → IsTup h a its.toArray → zs.length ≤ sizeLine →
  wpAny (model X.prog X.w) X.A.in1.in1 (call (.ref f) [.ref a]) (KeyPure (keyOf zs) { s with heap := h, toks := tk }) (fun _ _ => False) { s with heap := h, toks := tk }

theorem rows_each {rs : List Row} {us : List Value} (r : Vals (rs.map fun r => V.ref r.1) us) : EachIs (fun v (b : Row) => v = Value.ref b.1) us rs := by
  induction rs generalizing us with
  | nil =>
    cases r
    exact .nil
  | cons x rs ih =>
    cases r with
    | cons a b =>
      cases a
      exact .cons rfl (ih b)
theorem each_rows {rs : List Row} {us : List Value} (e : EachIs (fun v (b : Row) => v = Value.ref b.1) us rs) : Vals (rs.map fun r => V.ref r.1) us := by
  induction e with
  | nil => exact .nil
  | cons h t ih =>
    subst h
    exact .cons rfl ih
theorem all_alike (rs : List Row) : AllAlike (rs.map fun r => keyOf r.2) := by
  intro d hd d' hd'
  obtain ⟨r, _, rfl⟩ := List.mem_map.mp hd
  obtain ⟨q, _, rfl⟩ := List.mem_map.mp hd'
  exact alike_keys _ _
theorem all_sortable (rs : List Row) : Sortable (rs.map fun r => keyOf r.2) := Sortable.tuples fun r => ⟨_, _, rfl⟩

section
variable {X : Cx} {pins : List (Addr × Obj)} {σ : L2.St} {H : Hp} {s : Shared}
theorem sorted_list {a f : Addr} {rs : List Row} {Q : VK} (I : Inv X pins σ H s) (hu : X.A.units + 64 < cLine) (hs : SqL X.K H a (rs.map fun r => V.ref r.1)) (hr : ∀ r ∈ rs, SqT X.K H r.1 (r.2.map V.str)) (hf : KeyAt X s f)
    (q : ∀ p, H p = none → Q (.ref p) (upd H p (.lst ((rs.mergeSort leRow).map fun r => V.ref r.1)))) : wpAny (model X.prog X.w) X.A (call (.builtin "sorted") [.ref a] [(Str.ofString "key", .ref f)]) (EP X pins σ Q) X.xe s := by
  obtain ⟨its, rv, hl, hz⟩ := I.list hs
  rw [List.length_map] at hz
  have e := rows_each rv
  refine sorted_key_data (b := false) (fun r : Row => keyOf r.2) hl.isList e (all_alike rs) (all_sortable rs) hz (fun r _ => ?_) (ksk_s1 _ _) (fun _ => ksk_l1 _ _) (fun _ => ksk_t1 _ _) (fun v r ev hm h tk kp => ?_) fun out c h' tk kp hn hD hlen eo => ?_
  · have := depth_key r.2
    omega
  · subst ev
    obtain ⟨its', rv', ht, hz'⟩ := I.tuple (hr r hm)
    rw [List.length_map] at hz'
    obtain ⟨o, ho, hr'⟩ := ht
    exact hf h tk kp r.1 r.2 its' rv' ⟨o, kp _ _ ho, hr'⟩ hz'
  · have hle : ((rs.mergeSort leRow).map fun r => V.ref r.1).length ≤ sizeLine := by
      rw [List.length_map, List.length_mergeSort]
      exact hz
    refine ⟨.ref _, _, I.laid (t' := tk) (o := .lst ((rs.mergeSort leRow).map fun r => V.ref r.1)) kp (Nat.le_succ _) ⟨hle, out, c, each_rows eo, hD⟩, rfl, q _ (I.hok.fresh (Nat.le_succ _))⟩

/-- the keys of a dict of rows -/
theorem dict_rows {kvs : List (List Key × V)} {xs : List (List Key × Addr × Value)} (r : KT H kvs xs) {rows : List (List Str)} (hk : kvs.map (·.1) = rows.map fun r => r.map Sum.inr) :
    ∃ rs : List Row, rs.map (·.2) = rows ∧ rs.map (·.1) = xs.map (fun x => x.2.1) ∧ ∀ r ∈ rs, H r.1 = some (.tup (r.2.map V.str)) := by
  induction r generalizing rows with
  | nil =>
    cases rows with
    | nil => exact ⟨[], rfl, rfl, fun r h => by cases h⟩
    | cons x y => simp at hk
  | @cons p q ps qs hq t ih =>
    cases rows with
    | nil => simp at hk
    | cons x rows =>
      rw [List.map_cons, List.map_cons, List.cons.injEq] at hk
      obtain ⟨rs, h1, h2, h3⟩ := ih hk.2
      refine ⟨(q.2.1, x) :: rs, by rw [List.map_cons, h1], by rw [List.map_cons, List.map_cons, h2], fun r hr => ?_⟩
      rcases List.mem_cons.mp hr with e | hr
      · subst e
        have e2 := hq.2.1
        rw [hk.1, List.map_map] at e2
        exact e2
      · exact h3 r hr

theorem sorted_dict {a f : Addr} {kvs : List (List Key × V)} {rows : List (List Str)} {Q : VK} (I : Inv X pins σ H s) (hc : X.calm = true) (hu : X.A.units + 64 < cLine) (hd : H a = some (.dT kvs)) (hk : kvs.map (·.1) = rows.map fun r => r.map Sum.inr) (hf : KeyAt X s f)
    (q : ∀ (rs : List Row) (p : Addr), rs.map (·.2) = rows.mergeSort rowLe → (∀ r ∈ rs, H r.1 = some (.tup (r.2.map V.str))) → H p = none → Q (.ref p) (upd H p (.lst (rs.map fun r => V.ref r.1)))) :
    wpAny (model X.prog X.w) X.A (call (.builtin "sorted") [.ref a] [(Str.ofString "key", .ref f)]) (EP X pins σ Q) X.xe s := by
  obtain ⟨z, lo, xs, rel, o, es, ep, ho, hx, hdat, hes, hno⟩ := I.hok a _ hd
  obtain ⟨rs, h1, h2, h3⟩ := dict_rows rel hk
  have hlen : rs.length = es.size := by
    have e1 := congrArg List.length h2
    have e2 := congrArg List.length hes
    rw [List.length_map, List.length_map] at e1
    rw [Array.length_toList, List.length_map] at e2
    omega
  have hz : rs.length ≤ sizeLine := by
    have e1 := congrArg List.length h2
    have e2 := Paired.length rel
    rw [List.length_map, List.length_map] at e1
    omega
  have raw : s.heap.DictRaw a es ep := ⟨o, ho, hx, hdat⟩
  refine call_function_entry_kw PyProof.Rows.kind_sorted PyProof.Rows.plain_sorted PyProof.Rows.entry_sorted (ksk_s1 _ _) ?_
  unfold Builtin.«sorted»
  refine wpAny_bind (m := checkCount "sorted" 1 1 _) (wpAny_pure ?_)
  refine wpAny_bind (kdu_collect (A := X.A.in1) (KdlSrc.rawDict (es := es) (ep := ep) lo) (I.ok.hd hc) raw (by omega) fun h' tk acc hkp hacc => ?_)
  have hal : acc.toList.length = rs.length := by rw [Array.length_toList, hacc.1, hlen]
  have each : EachIs (fun v (b : Row) => v = Value.ref b.1) acc.toList rs := by
    refine EachIs.of_zip hal fun p hp => ?_
    obtain ⟨i, hi⟩ := List.getElem?_of_mem hp
    rw [List.getElem?_zip_eq_some] at hi
    obtain ⟨hia, hib⟩ := hi
    obtain ⟨hsz, ev⟩ := hacc.2 i p.1 (by rw [← Array.getElem?_toList]; exact hia)
    have e1 : (rs.map (·.1))[i]? = some p.2.1 := by rw [List.getElem?_map, hib]; rfl
    have e2 : es.toList[i]? = some es[i] := by rw [Array.getElem?_toList, Array.getElem?_eq_getElem hsz]
    rw [h2, List.getElem?_map] at e1
    rw [hes, List.getElem?_map] at e2
    cases ex : xs[i]? with
    | none =>
      rw [ex] at e1
      cases e1
    | some x =>
      rw [ex] at e1 e2
      have e1' : x.2.1 = p.2.1 := Option.some.inj e1
      have e2' := Option.some.inj e2
      rw [ev, ← e2', ← e1']
      rfl
  have I1 : Inv X pins σ H { s with heap := h', toks := tk } := I.kept hkp
  refine wpAny_bind (wpAny_newList ?_ (by omega))
  have hoL : (h'.push (seqObj "list" acc.toList.toArray 0)).get? h'.objs.size = some (seqObj "list" acc.toList.toArray 0) := Heap.get?_push_size _ rfl
  have ne : ∀ {b : Addr} {o : Obj}, s.heap.get? b = some o → b ≠ h'.objs.size := fun e => Nat.ne_of_lt (Heap.lt_size (hkp _ _ e))
  refine wpAny_bind (wpAny_holding ?_)
  show wpAny (model X.prog X.w) X.A.in1 (call (.builtin "list.sort") [.ref h'.objs.size] [(Str.ofString "key", .ref f)]) _ _ { s with heap := h'.push (seqObj "list" acc.toList.toArray 0), toks := tk }
  refine list_sort_key_data (b := false) (s := { s with heap := h'.push (seqObj "list" acc.toList.toArray 0), toks := tk }) (fun r : Row => keyOf r.2) hoL each (all_alike rs) (all_sortable rs) hz (fun r _ => ?_) (ksk_l1 _ _) (ksk_t1 _ _) (fun v r ev hm h tk kp => ?_) fun out c h'' tk' kp hD hle eo => ?_
  · have hdep := depth_key r.2
    show X.A.units + 1 + 1 + (keyOf r.2).depth < cLine
    omega
  · subst ev
    obtain ⟨its', rv', ht, hz'⟩ := I.tuple (.inl (.inl (h3 r hm)))
    rw [List.length_map] at hz'
    obtain ⟨o, ho, hr'⟩ := ht
    have up : ∀ b o, s.heap.get? b = some o → h.get? b = some o := fun b o e => kp b o (ne e) (Heap.get?_push_of_some _ (hkp _ _ e))
    exact hf h tk up r.1 r.2 its' rv' ⟨o, up _ _ ho, hr'⟩ hz'
  · have hle2 : ((rs.mergeSort leRow).map fun r => V.ref r.1).length ≤ sizeLine := by
      rw [List.length_map, List.length_mergeSort]
      exact hz
    have up : ∀ b o, h'.get? b = some o → h''.get? b = some o := fun b o e => kp b o (Nat.ne_of_lt (Heap.lt_size e)) (Heap.get?_push_of_some _ e)
    refine wpAny_pure ⟨_, rfl, .ref h'.objs.size, _, I1.laid (t' := tk') (o := .lst ((rs.mergeSort leRow).map fun r => V.ref r.1)) up (Nat.le_refl _) ⟨hle2, out, c, each_rows eo, hD⟩, rfl, q _ _ ?_ (fun r hr => h3 r (List.mem_mergeSort.mp hr)) (I1.hok.fresh (Nat.le_refl _))⟩
    rw [← h1]
    exact sort_maps (fun r : Row => r.2) fun _ _ _ _ => rfl
end
end Ka
/-! sorted(e, key=f) of rows: f a def of the text, or a lambda. -/
namespace Ka
open PySem PySem.Spec PyProof.Rows L2 PySem.W

section
variable {X : Cx} {pins : List (Addr × Obj)} {σ : L2.St} {H : Hp} {s : Shared}
theorem deep2 {k : Nat} (hr : Room k X.A) : X.A.in1.in1.depth < recursionLimit := hr.depth
theorem ns_up {h h' : Heap} (kp : ∀ b o, h.get? b = some o → h'.get? b = some o) {b : Addr} {m : Str → Option Value} (n : h.Ns b m) : h'.Ns b m :=
  let ⟨o, es, ep, e, r⟩ := n; ⟨o, es, ep, kp _ _ e, r⟩
theorem code_up {h h' : Heap} (kp : ∀ b o, h.get? b = some o → h'.get? b = some o) {c : Value} {q : Str} (n : h.CodeRec c q) : h'.CodeRec c q :=
  let ⟨c, oc, vs, t, e1, e2, r⟩ := n; ⟨c, oc, vs, t, e1, kp _ _ e2, r⟩

/-- a def of the text that gives the key -/
theorem keyAt_def {name qual : Str} {params : Arguments} {scope : Scope} {dV kV doc pm cdv ct oc : Value} {an od : Option Addr} {osl : Array (Option Value)} {x : Str} {f : Addr} {p1 p2 p3 p4 p5 p6 : Pos} {k j : Nat} (I : Inv X pins σ H s) (hr : Room j X.A)
    (lk : X.K.lookup f = some ⟨oc, od, .func (fnOf name qual params [.Return (some (.Tuple [.Call (.Name "len" p1) [.Name x p2] [] p3, .Name x p4] k p5)) p6] scope dV kV doc pm an cdv ct), osl⟩) (hcd : codeIn X.K cdv qual = true) (hm : X.mg "len" = none)
    (hbind : ∀ v : Value, bindArgs (fnOf name qual params [.Return (some (.Tuple [.Call (.Name "len" p1) [.Name x p2] [] p3, .Name x p4] k p5)) p6] scope dV kV doc pm an cdv ct) ⟨[v], []⟩ = pure [(x, v)])
    (hk : scope.kind = .function) (hco : scope.isCoroutine = false) (hge : scope.isGenerator = false) (hc : ∀ y ∈ scope.names, y.2 ≠ .cell) (hx : scope.names.lookup x = some .local) (hl : scope.names.lookup ("len" : Str) = some .globalImplicit) (hdx : (x == ("__debug__" : Str)) = false) : KeyAt X s f := by
  intro h tk kp a zs its rv ht hz
  obtain ⟨mb, b1, b2⟩ := I.mod.blt
  exact call_keyDef (s := { s with heap := h, toks := tk }) (kp _ _ (I.kIn _ _ lk)) rfl (deep2 hr) (I.nolimit.keeps kp) (code_up kp (codeRec_of I.kIn hcd)) (hbind _) hk hco hge hc hx hl hdx (ns_up kp (I.mod.glob.keeps I.bk)) hm (ns_up kp (b1.keeps I.bk)) ((b2 "len" (by decide)).trans PySem.boot_len) rv ht hz

/-- a lambda that gives the key -/
theorem keyAt_lam {params : Arguments} {scope : Scope} {pm ct : Value} {c' : Addr} {q : Str} {x : Str} {f : Addr} {clos : List (Str × Addr)} {p1 p2 p3 p4 p5 : Pos} {k j : Nat} (I : Inv X pins σ H s) (hr : Room j X.A)
    (hf : s.heap.get? f = some (kla_obj "<lambda>" q params (.Tuple [.Call (.Name "len" p1) [.Name x p2] [] p3, .Name x p4] k p5) scope clos pm c' ct)) (hcd : H c' = some (LamX.CodeO c' q)) (hm : X.mg "len" = none)
    (hbind : ∀ v : Value, bindArgs (kla_fn "<lambda>" q params (.Tuple [.Call (.Name "len" p1) [.Name x p2] [] p3, .Name x p4] k p5) scope clos pm (.ref c') ct) ⟨[v], []⟩ = pure [(x, v)])
    (hk : scope.kind = .function) (hco : scope.isCoroutine = false) (hge : scope.isGenerator = false) (hc : ∀ y ∈ scope.names, y.2 ≠ .cell) (hx : scope.names.lookup x = some .local) (hl : scope.names.lookup ("len" : Str) = some .globalImplicit) (hdx : (x == ("__debug__" : Str)) = false) : KeyAt X s f := by
  intro h tk kp a zs its rv ht hz
  obtain ⟨mb, b1, b2⟩ := I.mod.blt
  obtain ⟨⟨oc, vs, t, hoc, hdc, hvc⟩, _, _⟩ := I.hok c' _ hcd
  exact call_keyLam (s := { s with heap := h, toks := tk }) (kp _ _ hf) (deep2 hr) (I.nolimit.keeps kp) ⟨c', oc, vs, t, rfl, kp _ _ hoc, hdc, hvc⟩ (hbind _) hk hco hge hc hx hl hdx (ns_up kp (I.mod.glob.keeps I.bk)) hm (ns_up kp (b1.keeps I.bk)) ((b2 "len" (by decide)).trans PySem.boot_len) rv ht hz
end

section
variable {X : Cx}
/-- sorted(e, key=f), e a list of rows or a dict of rows -/
def rSortK (K : PySem.W.Frag) (f : Addr) : List V → List V → Hp → VK → Prop := fun vs zs H Q => zs = [.ref f] ∧
  ((∃ (a : Addr) (rs : List Row), vs = [.ref a] ∧ SqL K H a (rs.map fun r => V.ref r.1) ∧ (∀ r ∈ rs, SqT K H r.1 (r.2.map V.str)) ∧ ∀ p, H p = none → Q (.ref p) (upd H p (.lst ((rs.mergeSort leRow).map fun r => V.ref r.1)))) ∨
   (∃ (a : Addr) (kvs : List (List L2.Key × V)) (rows : List (List Str)), vs = [.ref a] ∧ H a = some (.dT kvs) ∧ kvs.map (·.1) = rows.map (fun r => r.map Sum.inr) ∧
     ∀ (rs : List Row) (p : Addr), rs.map (·.2) = rows.mergeSort rowLe → (∀ r ∈ rs, H r.1 = some (.tup (r.2.map V.str))) → H p = none → Q (.ref p) (upd H p (.lst (rs.map fun r => V.ref r.1)))))
theorem cr_sortRows {f : Addr} (hc : X.calm = true) (hu : X.A.units + 64 < cLine) (hf : ∀ (pins : List (Addr × Obj)) (s : Shared) (σ : L2.St) (H : Hp), Inv X pins σ H s → KeyAt X s f) : CallRK X (.builtin "sorted") [Str.ofString "key"] (rSortK X.K f) := by
  intro pins s σ H vs zs us ws Q I r rz h
  obtain ⟨rfl, h⟩ := h
  obtain ⟨w1, rfl, e1⟩ := vals1 rz
  obtain rfl : w1 = Value.ref f := e1
  rcases h with ⟨a, rs, rfl, hs, hr, q⟩ | ⟨a, kvs, rows, rfl, hd, hk, q⟩
  · obtain rfl := Vals.ref1 r
    exact sorted_list I hu hs hr (hf _ _ _ _ I) q
  · obtain rfl := Vals.ref1 r
    exact sorted_dict I hc hu hd hk (hf _ _ _ _ I) q

/-- sorted(e, key=lambda x: (len(x), x)) -/
def tSortLam (K : PySem.W.Frag) (T : List (Addr × Str)) (te : TE) : TE := fun σ H Q => te σ H fun v H1 => ∃ (a : Addr) (rs : List Row), v = .ref a ∧ SqL K H1 a (rs.map fun r => V.ref r.1) ∧ (∀ r ∈ rs, SqT K H1 r.1 (r.2.map V.str)) ∧ LamX.Tabs T H1 ∧
  ∀ H2 p, LamX.ExtN H1 H2 → LamX.Tabs T H2 → H2 p = none → Q (.ref p) (upd H2 p (.lst ((rs.mergeSort leRow).map fun r => V.ref r.1)))
theorem rd_ext {H H' : Hp} {a : Addr} {u : HO} (h : Rd H a u) (e : LamX.ExtN H H') (hn : ∀ ps, u ≠ .tbl ps) : Rd H' a u := by
  rcases h with h | ⟨o, h⟩
  · exact .inl (e _ _ h hn)
  · exact .inr ⟨o, e _ _ h fun ps z => by cases z⟩
theorem sqL_ext {K : PySem.W.Frag} {H H' : Hp} {a : Addr} {xs : List V} (h : SqL K H a xs) (e : LamX.ExtN H H') : SqL K H' a xs := by
  rcases h with h | h
  · exact .inl (rd_ext h e fun ps z => by cases z)
  · exact .inr h
theorem sqT_ext {K : PySem.W.Frag} {H H' : Hp} {a : Addr} {xs : List V} (h : SqT K H a xs) (e : LamX.ExtN H H') : SqT K H' a xs := by
  rcases h with h | h
  · exact .inl (rd_ext h e fun ps z => by cases z)
  · exact .inr h
theorem pe_sortedLam {T : List (Addr × Str)} {c P : Addr} {params : Arguments} {scope : Scope} {x : Str} {e : Expr} {te : TE} {p lpos kpos pos p1 p2 p3 p4 p5 : Pos} {k j : Nat} (hr : Room j X.A) (hu : X.A.units + 64 < cLine) (hg : Gl X "sorted") (hm : X.mg "sorted" = none) (hml : X.mg "len" = none) (he : PE X e te)
    (TB : LamX.TabB X.base X.mg c P) (hcode : X.env.code = .ref c) (hmT : (P, X.env.qual ++ "<lambda>") ∈ T) (hu2 : ∀ p ∈ T, p.1 = P → p.2 = X.env.qual ++ "<lambda>") (hdef : defaultsOf params X.env = ([], [])) (hfree : ∀ y ∈ scope.names, y.2 ≠ .free)
    (hbind : ∀ (q : Str) (clos : List (Str × Addr)) (pm cd ct v : Value), bindArgs (kla_fn "<lambda>" q params (.Tuple [.Call (.Name "len" p1) [.Name x p2] [] p3, .Name x p4] k p5) scope clos pm cd ct) ⟨[v], []⟩ = pure [(x, v)])
    (hk : scope.kind = .function) (hco : scope.isCoroutine = false) (hge : scope.isGenerator = false) (hc : ∀ y ∈ scope.names, y.2 ≠ .cell) (hx : scope.names.lookup x = some .local) (hl : scope.names.lookup ("len" : Str) = some .globalImplicit) (hdx : (x == ("__debug__" : Str)) = false)
    (h1 : backTo pos (starEach [e] X.env) = (false, eval e X.env) :: backTo pos (starEach [] X.env) := by rfl) :
    PE X (.Call (.Name "sorted" p) [e] [⟨some "key", .Lambda params (.Tuple [.Call (.Name "len" p1) [.Name x p2] [] p3, .Name x p4] k p5) scope lpos, kpos⟩] pos) (tSortLam X.K T te) := by
  refine ⟨fun pins s σ H Q I h => ?_⟩
  refine wpAny_Call_Name_kw (ld_blt (u := .builtin "sorted") I hg hm (by decide +kernel) ?_ (by decide) (by decide))
  refine PyProof.Rows.callWith_kw ?_ h1 (by rw [h1]; rfl) (by rfl) (by rfl)
  rw [h1]
  refine Calls.spliced_cons (thn (he.run pins s σ H _ I h) fun u s1 ⟨v, H1, I1, r1, a, rs, ev, hs, hr', hT, q⟩ => Calls.spliced_nil ?_)
  subst ev
  obtain rfl : u = Value.ref a := r1
  show wpAny _ _ (evalAll [do let v ← eval (.Lambda params (.Tuple [.Call (.Name "len" p1) [.Name x p2] [] p3, .Name x p4] k p5) scope lpos) X.env; standAt pos; pure v]) _ _ s1
  refine wpAny_evalAll_cons (wpAny_bind (LamX.lam_make2 I1 TB hcode hmT hu2 hT hdef (fun y hy e => absurd e (hfree y hy)) fun f c' pm' ctv H2 s2 I2 eN T2 hf hfn hfr hco' => wpAny_bind (wpAny_standAt (wpAny_pure (wpAny_evalAll_nil ?_)))))
  refine sorted_list I2 hu (sqL_ext hs eN) (fun r hr0 => sqT_ext (hr' r hr0) eN) (keyAt_lam I2 hr hf hco' hml (fun v => hbind _ _ _ _ _ v) hk hco hge hc hx hl hdx) fun p' np => q H2 p' eN T2 np
end
end Ka
/-! {k: v for target in iter if ..} whose keys are tuples of texts and ints. -/
namespace Ka
open PySem PySem.Spec PyProof.Rows L2

theorem dT_set {X : Cx} {pins : List (Addr × Obj)} {σ : L2.St} {H : Hp} {s : Shared} {E : Value → Shared → Prop} {D b : Addr} {kvs : List (List L2.Key × V)} {k : List L2.Key} {v : V} {u r : Value} {Q : Unit → Shared → Prop} (hu : X.A.units + 1 < cLine) (I : Inv X pins σ H s) (hD : H D = some (.dT kvs)) (hz : kvs.length < sizeLine)
    (hb : H b = some (.tup (k.map kV))) (ry : RelV (.ref b) u) (rv : RelV v r) (h : ∀ s', Inv X pins σ (upd H D (.dT (putK kvs k v))) s' → Q () s') : wpAny (model X.prog X.w) X.A (dictSet D u r) Q E s := by
  cases (show u = Value.ref b from ry)
  obtain ⟨z, hd, xs, rel, dd⟩ := dt_of I.hok hD
  have hzx : xs.length ≤ sizeLine := by rw [← Paired.length rel]; exact z
  have hl : (putK kvs k v).length ≤ sizeLine := by have := length_putK kvs k v; omega
  refine wpAny_dictSet_heap (hsz := hzx) (knd := tupleKind (mixKind X.prog X.w)) ?_ (key_of I.hok hb) dd fun h' dd' hs => h _ ?_
  · show X.A.units < cLine
    omega
  · obtain ⟨q, es, ep, hq, h2, h3, h4, _, h5⟩ := dd'
    refine d_write I (by rw [hD]; exact True.intro) hs ⟨q, hq⟩ ⟨hl, hd, _, (rel.put k hb rv).keeps fun c ys ec => ?_, q, es, ep, hq, h2, h3, h4, h5⟩
    rw [upd_ne (ne_of ec hD fun z => nomatch z)]
    exact ec

section
variable {X : Cx}
/-- {k: v for target in iter}, keys tuples: D the new dict -/
def tDcT (wi : TI) (g : TG) (tk tv : TE) (vs : List Nat) : TE := fun σ H Q => wi σ H fun J H1 => ∀ D, H1 D = none → ∃ W : Nat → Nat → Hp → Prop, (∃ m, W 0 m (upd H1 D (.dT []))) ∧ ∀ i m H, W i m H →
  (J.stop i H ∧ Q (.ref D) H) ∨ (J.go i H ∧ ∃ Nx : Hp → Prop, (∀ H', Nx H' → ∃ m', m' < m ∧ W (i + 1) m' H') ∧ ∀ x H', J.yld i H x H' → g x (wipe σ vs) H' fun σ2 H2 => wipe σ2 vs = wipe σ vs ∧
    tk σ2 H2 fun y H4 => tv σ2 H4 fun z H5 => ∃ kvs k b, y = .ref b ∧ H5 b = some (.tup (k.map kV)) ∧ H5 D = some (.dT kvs) ∧ kvs.length < sizeLine ∧ Nx (upd H5 D (.dT (putK kvs k z))))

/-- one turn of the block, from the item drawn on -/
theorem dct_turn {Z : Cx} {kx vx tg : Expr} {g : TG} {tk tv : TE} {D : Addr} {τ : L2.St} {vs : List Nat} {H : Hp} {s : Shared} {x : V} {u : Value} {Nx : Hp → Prop} {R : Shared → Prop} {pins : List (Addr × Obj)} {E' : Value → Shared → Prop} (hE : Z.xe = fun _ _ => False) (hu : Z.A.units + 1 < cLine)
    (pg : PG Z tg g) (pk : PE Z kx tk) (pe : PE Z vx tv) (I : Inv Z pins τ H s) (rx : RelV x u)
    (h : g x τ H fun σ2 H2 => wipe σ2 vs = τ ∧ tk σ2 H2 fun y H4 => tv σ2 H4 fun z H5 => ∃ kvs k b, y = .ref b ∧ H5 b = some (.tup (k.map kV)) ∧ H5 D = some (.dT kvs) ∧ kvs.length < sizeLine ∧ Nx (upd H5 D (.dT (putK kvs k z))))
    (fin : ∀ σ2 H' s', wipe σ2 vs = τ → Inv Z pins σ2 H' s' → Nx H' → R s') :
    wpAny (model Z.prog Z.w) Z.A (assign tg Z.env u) (fun _ s₂ => wpAny (model Z.prog Z.w) Z.A (forIn ([] : List Expr) true fun c r => if r = true then do let ok ← isTrue c Z.env (eval c Z.env); pure (ForInStep.yield ok) else pure (ForInStep.yield r)) (fun ok s₃ =>
      if ok = true then wpAny (model Z.prog Z.w) Z.A (eval kx Z.env) (fun kv s₄ => wpAny (model Z.prog Z.w) Z.A (eval vx Z.env) (fun vv s₅ => wpAny (model Z.prog Z.w) Z.A (dictSet D kv vv) (fun _ s₆ => R s₆) E' s₅) E' s₄) E' s₃ else R s₃) E' s₂) E' s := by
  have a1 := pg.run pins s τ H x u _ I rx h
  rw [hE] at a1
  refine thnF a1 fun _ s8 ⟨σ8, H8, I8, hw, q8⟩ => wpAny_tests_nil ?_
  rw [if_pos rfl]
  have a2 := pk.run pins s8 σ8 H8 _ I8 q8
  rw [hE] at a2
  refine thnF a2 fun kv s10 ⟨y, H10, I10, r10, q10⟩ => ?_
  have a3 := pe.run pins s10 σ8 H10 _ I10 q10
  rw [hE] at a3
  refine thnF a3 fun vv s11 ⟨z, H11, I11, r11, kvs, k, b, ey, hb, hD, hz, nx⟩ => ?_
  subst ey
  exact dT_set hu I11 hD hz hb r10 r11 fun s12 I12 => fin σ8 _ s12 hw I12 nx

/-- what stands between two turns of the block -/
def BetweenT (Z : Cx) (fp : List Addr) (tn : Nat → Heap → Prop) (τ : L2.St) (W : Nat → Nat → Hp → Prop) (n : Nat) (s : Shared) : Prop := ∃ i H, Inv Z [] τ H s ∧ tn i s.heap ∧ (∀ b ∈ fp, H b = none) ∧ W i n H

theorem pe_dcT {kx vx tg iter : Expr} {scope : Scope} {own : List (Str × Nat)} {pos : Pos} {wi : TI} {g : TG} {tk tv : TE} (hc : X.calm = true) (hu : X.A.units + 1 < cLine) (hN : X.N.Nodup) (hi : PI X tg iter wi) (ok : BlkOk X.N X.env.scope scope own)
    (hg : ∀ (s : Shared) (H : Hp) (C : Addr) (cl : List (Str × Addr)) (fp : List Addr), PG (X.blk s H scope (compEnvC scope cl C X.env) fp) tg g)
    (hk : ∀ (s : Shared) (H : Hp) (C : Addr) (cl : List (Str × Addr)) (fp : List Addr), PE (X.blk s H scope (compEnvC scope cl C X.env) fp) kx tk)
    (hv : ∀ (s : Shared) (H : Hp) (C : Addr) (cl : List (Str × Addr)) (fp : List Addr), PE (X.blk s H scope (compEnvC scope cl C X.env) fp) vx tv) (hs : ∀ x, foldedSetIterable iter X.env x = pure x := by intro _; rfl) :
    PE X (.DictComp kx vx [⟨tg, iter, [], 0⟩] scope pos) (tDcT wi g tk tv (own.map (·.2))) := by
  refine ⟨fun pins s σ H Q I h => ?_⟩
  rw [arm_eval_DictComp]
  have free : ∀ y ∈ scope.names, y.2 = .free → ∃ c, X.env.cells.lookup y.1 = some c := fun y hy e => (ok.free y hy e).elim (fun k => I.ok.has _ (.inl k)) (fun k => I.ok.has _ (.inr k))
  refine wpAny_comprehension_free rfl hs (closure_ok free) ok.kind (fun y hy e => by rw [ok.uniq y hy, e]) (thn (hi.run pins s σ H _ I h) fun _ s1 hx => thn hx fun _ s2 ⟨it, fp, tn, J, H2, e, I2, T, st2, f2, q⟩ => ?_)
  subst e
  refine wpAny_newObj_type (newEnv_comp ?_)
  generalize hD : s2.heap.objs.size = D
  have nD : H2 D = none := I2.hok.fresh (Nat.le_of_eq hD)
  obtain ⟨W, ⟨m0, w0⟩, turn⟩ := q D nD
  generalize hs3 : ({ s2 with heap := s2.heap.push { cls := .type "dict", data := .dict #[] } } : Shared) = s3
  have h3 : s3.heap = s2.heap.push { cls := .type "dict", data := .dict #[] } := by rw [← hs3]
  have I3 : Inv X pins σ (upd H2 D (.dT [])) s3 := by
    subst hs3 hD
    exact I2.laid (t' := s2.toks) (fun b o z => Heap.get?_push_of_some _ z) (Nat.le_refl _) (dt_empty s2.heap I2.big)
  have f3 : ∀ b ∈ fp, FpOk X pins (upd H2 D (.dT [])) b ∧ b < s3.heap.objs.size := fun b hb => by
    obtain ⟨o, e, _⟩ := T.obj _ _ st2 b hb
    have lt : b < s2.heap.objs.size := Heap.lt_size e
    refine ⟨⟨?_, (f2 b hb).2⟩, by rw [h3, Heap.size_push]; exact Nat.lt_succ_of_lt lt⟩
    rw [upd_ne (by rw [← hD]; exact Nat.ne_of_lt lt)]
    exact (f2 b hb).1
  have I4 := block_start I3 ok hN f3
  have pg := hg s3 (upd H2 D (.dT [])) s3.heap.objs.size (cellsFrom (s3.heap.objs.size + 1) scope.names (cloFrom X.env.cells scope.names [])) fp
  have pk := hk s3 (upd H2 D (.dT [])) s3.heap.objs.size (cellsFrom (s3.heap.objs.size + 1) scope.names (cloFrom X.env.cells scope.names [])) fp
  have pv := hv s3 (upd H2 D (.dT [])) s3.heap.objs.size (cellsFrom (s3.heap.objs.size + 1) scope.names (cloFrom X.env.cells scope.names [])) fp
  show codeAny _ _ (.compStart (.DictComp kx vx [⟨tg, iter, [], 0⟩] scope pos) 0 (.ref it) (.ref D) (compEnvC scope (cellsFrom (s3.heap.objs.size + 1) scope.names (cloFrom X.env.cells scope.names [])) s3.heap.objs.size X.env)) (compPost (model X.prog X.w) X.A X.xe none (EP X pins σ Q) (.ref D) s3.heap.objs.size) { s3 with heap := pushCells (s3.heap.push { cls := .type "dict", data := .dict #[] }) scope.names }
  generalize hce : compEnvC scope (cellsFrom (s3.heap.objs.size + 1) scope.names (cloFrom X.env.cells scope.names [])) s3.heap.objs.size X.env = ce at I4 pg pk pv ⊢
  have cL : ce.locals = s3.heap.objs.size := by subst hce; rfl
  generalize hH3 : upd H2 D (.dT []) = H3 at I3 I4 pg pk pv w0 f3
  generalize hs4 : ({ s3 with heap := pushCells (s3.heap.push { cls := .type "dict", data := .dict #[] }) scope.names } : Shared) = s4 at I4 ⊢
  have st4 : tn 0 s4.heap := T.keep _ _ _ st2 fun b _ o z => by
    rw [← hs4]
    exact pushCells_keeps _ _ _ _ (Heap.get?_push_of_some _ (by rw [h3]; exact Heap.get?_push_of_some _ z))
  have blk : ∀ {σ' : L2.St} {H' : Hp} {s' : Shared}, Inv (X.blk s3 H3 scope ce fp) [] σ' H' s' → (∀ b ∈ fp, H' b = none) → ∀ b ∈ fp, FpOk (X.blk s3 H3 scope ce fp) [] H' b := fun J' hn b hb =>
    ⟨hn b hb, (J'.ok.exf b hb).1, J'.ok.exfs b hb, .inl hb, fun x c z => (J'.ok.exf b hb).2 x c z, fun p hp => absurd (show p ∈ ([] : List (Addr × Obj)) ++ [] from hp) (by simp)⟩
  have loop : codeAny (model X.prog X.w) X.A (.compLoop (.DictComp kx vx [⟨tg, iter, [], 0⟩] scope pos) 0 (.ref it) (.ref D) ce) (compPost (model X.prog X.w) X.A X.xe none (EP X pins σ Q) (.ref D) s3.heap.objs.size) s4 := by
    refine compLoop_anyD (BetweenT (X.blk s3 H3 scope ce fp) fp tn (wipe σ (own.map (·.2))) W) ?_ m0 ⟨0, H3, I4, st4, fun b hb => (f3 b hb).1.1, w0⟩
    rintro n s5 ⟨i, H5, I5, st5, n5, w5⟩
    rcases turn i n H5 w5 with ⟨stop, qq⟩ | ⟨go, Nx, hNx, step⟩
    · refine thnF (T.done (X.blk s3 H3 scope ce fp) rfl rfl rfl hc i [] s5 _ H5 (fun _ _ => False) I5 (blk I5 n5) st5 stop) fun r s6 ⟨hr, I6⟩ => ?_
      subst hr
      have I7 : Inv X pins σ H5 s6 := I3.call' (ch := fp) I6.os I6.base I6.hok I6.bare fun b hb => ⟨(f3 b hb).1.2.2.2.1, (f3 b hb).1.2.1, (f3 b hb).1.2.2.2.2.1, (f3 b hb).1.2.2.2.2.2⟩
      have nC : H5 s3.heap.objs.size = none := by
        have z : H5 ce.locals = none := I6.free
        rwa [cL] at z
      obtain ⟨m, hn, _⟩ := I6.loc
      have hn : s6.heap.Ns ce.locals m := hn
      rw [cL] at hn
      obtain ⟨f0, f1, f2, f4, f5, f6⟩ := I3.fpOk (Nat.le_refl _) nC
      exact ⟨m, hn, fun h'' sb => ⟨.ref D, H5, I7.turned (t' := s6.toks) (fun b o hb z => (sb.2 b hb).trans z) f0 f1 f4 f5 f6, rfl, qq⟩⟩
    · refine thnF (T.item (X.blk s3 H3 scope ce fp) rfl rfl rfl hc i [] s5 _ H5 (fun _ _ => False) I5 (blk I5 n5) st5 go) fun r s6 ⟨u, hr, h6⟩ => ?_
      subst hr
      refine thnF h6 fun _ s7 ⟨x, H7, I7, r7, y7, st7, n7⟩ => ?_
      have I7' := I7.pinned (blk I7 n7) (T.obj _ _ st7)
      have main := dct_turn (s := s7) (Z := X.blk s3 H3 scope ce fp) (vs := own.map (·.2)) (D := D) (Nx := Nx) (E' := notedBy (model X.prog X.w) X.A ce fun e s' => compPost (model X.prog X.w) X.A X.xe none (EP X pins σ Q) (.ref D) s3.heap.objs.size (.error e) s') (R := fun s' => ∃ m, m < n ∧ BetweenT (X.blk s3 H3 scope ce fp) fp tn (wipe σ (own.map (·.2))) W m s') rfl hu pg pk pv I7' r7 (step x H7 y7) fun σ8 H' s' hw I' nx => by
        obtain ⟨m', hm, w'⟩ := hNx H' nx
        have keep : ∀ b ∈ fp, ∀ o, s7.heap.get? b = some o → s'.heap.get? b = some o ∧ H' b = none := fun b hb o z =>
          let y := I'.pin (b, o) (List.mem_append_right _ (List.mem_append_right _ (mem_pinsAt hb z)))
          ⟨y.1, y.2.1⟩
        refine ⟨m', hm, i + 1, H', (I'.unpinned (pins := [])).weak (by rw [← hw, wipe_length]) (fun j v z => ?_), T.keep _ _ _ st7 fun b hb o z => (keep b hb o z).1, fun b hb => ?_, w'⟩
        · rw [← hw] at z
          exact (wipe_some z).1
        · obtain ⟨o, z, _⟩ := T.obj _ _ st7 b hb
          exact (keep b hb o z).2
      exact main
  exact codeAny_compStart_dict loop (T.self X.A 0 _ _ _ st4 loop)
end
end Ka
namespace Kb
open PySem PySem.Spec PyProof.Rows L2
/-! ### the text, def by def -/
def topS (i : Nat) : Stmt := PySem.Challenge.pw_stillowed_k84_rows_through_a_making.main.body.getD i (.Pass ⟨0, 0, 0, 0⟩)
abbrev sRefInit : Stmt := inClass (topS 2) 0
abbrev sOrder : Stmt := topS 4
abbrev sAsc : Stmt := topS 5
abbrev sInOrder : Stmt := topS 7
abbrev sWithin : Stmt := topS 8
abbrev sBegun : Stmt := topS 9
abbrev sFew : Stmt := topS 11
abbrev sOwnD : Stmt := topS 15
abbrev sExact : Stmt := topS 16
abbrev sNeeds : Stmt := topS 17
abbrev sUnmade : Stmt := topS 18
abbrev sBox : Stmt := topS 20
abbrev sTake : Stmt := topS 21
abbrev sPick : Stmt := topS 22
abbrev sNames : Stmt := topS 23
abbrev sLawIn : Stmt := topS 24
abbrev sLawOrd : Stmt := topS 25
abbrev sLawMade : Stmt := topS 26
abbrev sMaking : Stmt := topS 27
abbrev sFitted : Stmt := topS 28
abbrev sLines : Stmt := topS 29
abbrev sSources : Stmt := topS 30
abbrev sLawEx : Stmt := topS 31
abbrev sTold : Stmt := topS 32
abbrev sNeedsR : Stmt := topS 33
abbrev sManyR : Stmt := topS 34
abbrev sLongR : Stmt := topS 35
abbrev sRow : Stmt := topS 36
abbrev sLaw : Stmt := topS 37
/-! ### heaps -/
theorem same_new {H : Hp} {p : Addr} {o : HO} (h : H p = none) : Same H (upd H p o) := fun b x e => by
  rw [upd_ne (ne_of_none e h)]
  exact e
theorem Same.sqT {K : PySem.W.Frag} {H H' : Hp} {a : Addr} {xs : List V} (e : Same H H') (h : SqT K H a xs) : SqT K H' a xs := by
  rcases h with (h | ⟨o, h⟩) | h
  · exact .inl (.inl (e _ _ h))
  · exact .inl (.inr ⟨o, e _ _ h⟩)
  · exact .inr h
theorem sqT_new {K : PySem.W.Frag} {H : Hp} {p : Addr} {xs : List V} (h : H p = some (.tup xs)) : SqT K H p xs := .inl (.inl h)
theorem sqL_new {K : PySem.W.Frag} {H : Hp} {p : Addr} {xs : List V} (h : H p = some (.lst xs)) : SqL K H p xs := .inl (.inl h)
theorem get_map {α β : Type} {f : α → β} {l : List α} {i : Nat} {y : β} (h : (l.map f)[i]? = some y) : ∃ x, l[i]? = some x ∧ y = f x := by
  rw [List.getElem?_map] at h
  cases e : l[i]? with
  | none =>
    rw [e] at h
    cases h
  | some x =>
    rw [e] at h
    exact ⟨x, rfl, (Option.some.inj h).symm⟩
theorem lt_of_get {α : Type} {l : List α} {i : Nat} {x : α} (h : l[i]? = some x) : i < l.length := (List.getElem?_eq_some_iff.mp h).1
theorem drop_of_get {α : Type} {l : List α} {i : Nat} {x : α} (h : l[i]? = some x) : l.drop i = x :: l.drop (i + 1) := by
  obtain ⟨h1, h2⟩ := List.getElem?_eq_some_iff.mp h
  rw [List.drop_eq_getElem_cons h1, h2]
theorem take_of_get {α : Type} {l : List α} {i : Nat} {x : α} (h : l[i]? = some x) : l.take (i + 1) = l.take i ++ [x] := by
  rw [List.take_add_one, h]
  rfl
/-! ### rules told by K, for a comprehension's block -/
def rLen (K : PySem.W.Frag) : List V → Hp → VK → Prop := fun xs H Q => ∃ p ys, xs = [V.ref p] ∧ (SqL K H p ys ∨ SqT K H p ys) ∧ Q (.int (ys.length : Nat)) H
theorem len_at {X : Cx} {K : PySem.W.Frag} (h : X.K = K) : CallR X (.builtin "len") (rLen K) := by
  subst h
  exact call_len_seq
theorem ixT_at {X : Cx} {K : PySem.W.Frag} (h : X.K = K) : IxR X (rIxT K) := by
  subst h
  exact ix_tup
theorem ixL_at {X : Cx} {K : PySem.W.Frag} (h : X.K = K) : IxR X (rIxL K) := by
  subst h
  exact ix_list
/-- places as values -/
def natV (l : List Nat) : List V := l.map fun (i : Nat) => V.int (i : Int)
theorem natV_len (l : List Nat) : (natV l).length = l.length := List.length_map _
theorem small {n : Nat} (h : n ≤ 1000000) : n < sizeLine := Nat.lt_of_le_of_lt h (by rw [sizeLine_eq]; decide)
theorem smallE {n : Nat} (h : n ≤ 1000000) : n ≤ sizeLine := Nat.le_of_lt (small h)
theorem walk_revT {K : PySem.W.Frag} {a : Addr} {xs : List V} : Walk (RT.ItvT K a xs.length) xs.length (fun H => SqT K H a xs) (fun i H x H' => H' = H ∧ xs[xs.length - 1 - i]? = some x) := by
  refine ⟨fun i H hi q => ?_, fun H q => ?_, fun i H x H' hi q y => ?_⟩
  · exact ⟨hi, xs, xs[xs.length - 1 - i], q, by simp⟩
  · exact Nat.le_refl _
  · exact ⟨y.1, y.2 xs q⟩
/-- counts as values -/
def intV (l : List Int) : List V := l.map V.int
theorem intV_len (l : List Int) : (intV l).length = l.length := List.length_map _
theorem intV_get {l : List Int} {i : Nat} {x : Int} (h : l[i]? = some x) : (intV l)[i]? = some (.int x) := by
  unfold intV
  rw [List.getElem?_map, h]
  rfl
theorem natV_get {l : List Nat} {i x : Nat} (h : l[i]? = some x) : (natV l)[i]? = some (.int (x : Nat)) := by
  unfold natV
  rw [List.getElem?_map, h]
  rfl
end Kb
namespace Kb
open PySem PySem.Spec PyProof.Rows L2
/-! ### within -/
section
variable {α : Type} [DecidableEq α]
def sub : List α → List α → Bool
  | [], _ => true
  | _ :: _, [] => false
  | d :: u, e :: z => if d = e then sub u z else sub (d :: u) z
theorem sub_none {d : α} {u : List α} : ∀ {z : List α}, (∀ k : Nat, z[k]? ≠ some d) → sub (d :: u) z = false
  | [], _ => rfl
  | e :: z, h => by
    have h0 : e ≠ d := fun x => h 0 (by rw [x]; rfl)
    rw [sub, if_neg (fun x => h0 x.symm)]
    exact sub_none fun k => by
      have := h (k + 1)
      simpa using this
theorem sub_hit {d : α} {u : List α} : ∀ {z : List α} {j : Nat}, z[j]? = some d → (∀ k : Nat, k < j → z[k]? ≠ some d) → sub (d :: u) z = sub u (z.drop (j + 1))
  | [], j, h, _ => by simp at h
  | e :: z, 0, h, _ => by
    have e1 : e = d := by simpa using h
    rw [sub, if_pos e1.symm]
    rfl
  | e :: z, j + 1, h, h2 => by
    have h0 : e ≠ d := fun x => h2 0 (Nat.succ_pos _) (by rw [x]; rfl)
    rw [sub, if_neg (fun x => h0 x.symm), List.drop_succ_cons]
    exact sub_hit (by simpa using h) fun k hk => by
      have := h2 (k + 1) (Nat.succ_lt_succ hk)
      simpa using this
theorem first_at (x : α) : ∀ l : List α, (∀ k : Nat, l[k]? ≠ some x) ∨ ∃ m : Nat, l[m]? = some x ∧ ∀ k : Nat, k < m → l[k]? ≠ some x
  | [] => .inl fun k h => by simp at h
  | e :: l => by
    by_cases h : e = x
    · exact .inr ⟨0, by rw [h]; rfl, fun k hk => absurd hk (Nat.not_lt_zero k)⟩
    · have h0 : (e :: l)[0]? ≠ some x := fun z => h (Option.some.inj z)
      rcases first_at x l with hn | ⟨m, h1, h2⟩
      · refine .inl fun k => ?_
        cases k with
        | zero => exact h0
        | succ k => simpa using hn k
      · refine .inr ⟨m + 1, by simpa using h1, fun k hk => ?_⟩
        cases k with
        | zero => exact h0
        | succ k => simpa using h2 k (Nat.lt_of_succ_lt_succ hk)
end
section
variable {P : Program} {w : World} {K : PySem.W.Frag} {mg : Str → Option Value} {base : Heap}
theorem scWithin : FnScope ["u", "v", "rest", "deed"] ["u", "v"] (defScope sWithin) := ⟨rfl, rfl, rfl, by decide +kernel, rfl, by decide +kernel, by decide +kernel⟩
def spWithin (K : PySem.W.Frag) : Sp := fun vs H Q _ => ∃ (a b : Addr) (us zs : List Str), vs = [.ref a, .ref b] ∧ SqT K H a (us.map V.str) ∧ SqT K H b (zs.map V.str) ∧ ∀ H', Same H H' → Q (.bl (sub us zs)) H'
theorem ok_within {f : Addr} {fd : FuncData} (F : Fun K "within" "within" sWithin f fd) (mi : mg "iter" = none) : FnOk P w K mg base CX0 1 f fd ["u", "v"] (spWithin K) := by
  refine F.ok scWithin (fun vs H Q E h => ?_) (fun cdv A outer s H vs Q E hr h => ?_)
  · obtain ⟨a, b, us, zs, rfl, _⟩ := h
    rfl
  · obtain ⟨a, b, us, zs, rfl, hA, hB, q⟩ := h
    refine ⟨_, pss_cons (ps_set (i := 2) scWithin.nd rfl (.inl rfl) (pe_callB Ka.call_iterT (by rfl) mi (by decide +kernel) (pa_cons (pv 1) pa_nil)))
      (pss_cons (ps_for PassesOwn.never rfl (pi_tup (pv 0)) (pg_name (i := 3) scWithin.nd rfl (.inl rfl))
        (pss_one (ps_if (pt_not (pt_cmpR (Ka.op_inTI rfl) (pv 3) (pv 2) rfl)) (pss_one (ps_ret pe_bl)) pss_nil)))
      (pss_one (ps_ret pe_bl))), ?_⟩
    refine ⟨.ref b, rfl, b, zs.map V.str, rfl, hB, fun it nit hle => ?_⟩
    refine ⟨.ref a, rfl, a, rfl, ⟨_, Same.sqT (same_new nit) hA⟩, ?_⟩
    have nab : ∀ c o, H c = some o → c ≠ it := fun c o e => ne_of_none e nit
    refine for_tup (K := K) (a := a) (xs := us.map V.str) (fun i σ H' => ∃ (d : Option V) (j : Nat), σ = [some (.ref a), some (.ref b), some (.ref it), d] ∧ Same H H' ∧ H' it = some (Ka.TupI b it j) ∧ sub us zs = sub (us.drop i) (zs.drop j))
      ⟨none, 0, rfl, same_new nit, upd_same, rfl⟩ (fun i σ H' _ ⟨_, _, _, sm, _⟩ => Same.sqT sm hA) ?_ ?_
    · rintro i x σ H' hx ⟨d, j, rfl, sm, hit, eq⟩
      obtain ⟨z, hz, rfl⟩ := get_map hx
      rw [drop_of_get hz] at eq
      refine ⟨.str z, rfl, .ref it, rfl, z, it, b, zs, j, rfl, rfl, hle, hit, Same.sqT sm hB, ?_⟩
      have ne : ∀ c o, H c = some o → c ≠ it := fun c o e => ne_of_none e nit
      rcases first_at z (zs.drop j) with hn | ⟨m, h1, h2⟩
      · rw [sub_none hn] at eq
        rw [eq] at q
        refine .inr ⟨fun k hk hz' => hn (k - j) (by rw [List.getElem?_drop, Nat.add_sub_cancel' hk]; exact hz'), false, rfl, q _ fun c o e => ?_⟩
        rw [ItX.dropH_ne (ne c o e)]
        exact sm c o e
      · rw [sub_hit h1 h2, List.drop_drop] at eq
        rw [List.getElem?_drop] at h1
        refine .inl ⟨j + m, Nat.le_add_right _ _, h1, fun k hk hk2 hz' => h2 (k - j) (by omega) (by rw [List.getElem?_drop, Nat.add_sub_cancel' hk]; exact hz'), true, rfl, ?_⟩
        refine ⟨_, j + m + 1, rfl, fun c o e => ?_, upd_same, eq⟩
        rw [upd_ne (ne c o e)]
        exact sm c o e
    · rintro σ H' ⟨d, j, rfl, sm, hit, eq⟩
      rw [List.length_map, List.drop_length] at eq
      have e : sub us zs = true := by rw [eq, sub]
      rw [e] at q
      exact q H' sm
end
end Kb
namespace Kb
open PySem PySem.Spec PyProof.Rows L2
/-- a sign from a to z -/
def lowC (c : Nat) : Bool := decide (97 ≤ c) && decide (c ≤ 122)
/-- a name -/
def isName (s : Str) : Bool := decide (1 ≤ s.cps.size) && decide (s.cps.size ≤ 5) && s.cps.toList.all lowC
/-- the names of the language that no text hides -/
structure Nones (mg : Str → Option Value) : Prop where
  len : mg "len" = none
  range : mg "range" = none
  iter : mg "iter" = none
  enumerate : mg "enumerate" = none
  reversed : mg "reversed" = none
  tuple : mg "tuple" = none
  list : mg "list" = none
  sorted : mg "sorted" = none
  any : mg "any" = none
  all : mg "all" = none
  int : mg "int" = none
  str : mg "str" = none
  bool : mg "bool" = none
  abs : mg "abs" = none
  min : mg "min" = none
  max : mg "max" = none
  sum : mg "sum" = none
  isinstance : mg "isinstance" = none
  valueError : mg "ValueError" = none
/-- range(n), its turns told -/
theorem walk_r0 {n : Nat} : Walk (Itr 0 n) n (fun _ => True) (fun i H x H' => H' = H ∧ x = .int (i : Nat)) := walk_range.mono (fun _ h => h) fun i H x H' _ _ y => ⟨y.1, by
  rw [y.2]
  show V.int (0 + (i : Int)) = _
  rw [Int.zero_add]⟩
section
variable {K : PySem.W.Frag}
theorem slA_at {X : Cx} {K : PySem.W.Frag} (h : X.K = K) : SlR X (rSlA K) := by
  subst h
  exact sl_tupA
theorem slA_take {H : Hp} {a : Addr} {xs : List V} {j : Nat} {Q : VK} (hA : SqT K H a xs) (q0 : xs.take j = xs → Q (.ref a) H) (q1 : ∀ p, H p = none → Q (.ref p) (upd H p (.tup (xs.take j)))) : rSlA K (.ref a) none (some (j : Int)) H Q := by
  refine ⟨a, xs, rfl, hA, fun hw => ?_, fun _ p np => ?_⟩
  · have h2 := hw.2
    rw [HT.sIx_nat] at h2
    exact q0 (List.take_of_length_le (by omega))
  · have e : cutV xs none (some (j : Int)) = xs.take j := by
      unfold cutV
      rw [HT.sIx_nat, HT.sIx_none, List.drop_zero, Nat.sub_zero]
      by_cases h : j ≤ xs.length
      · rw [Nat.min_eq_left h]
      · rw [Nat.min_eq_right (by omega), List.take_length, List.take_of_length_le (by omega)]
    rw [e]
    exact q1 p np
theorem slA_drop {H : Hp} {a : Addr} {xs : List V} {j : Nat} {Q : VK} (hA : SqT K H a xs) (q0 : xs.drop j = xs → Q (.ref a) H) (q1 : ∀ p, H p = none → Q (.ref p) (upd H p (.tup (xs.drop j)))) : rSlA K (.ref a) (some (j : Int)) none H Q := by
  refine ⟨a, xs, rfl, hA, fun hw => ?_, fun _ p np => ?_⟩
  · have h2 := hw.1
    rw [HT.sIx_nat] at h2
    refine q0 ?_
    by_cases h : j = 0
    · rw [h]
      rfl
    · have h0 : xs.length = 0 := by omega
      rw [List.eq_nil_of_length_eq_zero h0, List.drop_nil]
  · have e : cutV xs (some (j : Int)) none = xs.drop j := by
      unfold cutV
      rw [HT.sIx_nat, HT.sIx_none]
      by_cases h : j ≤ xs.length
      · rw [Nat.min_eq_left h, List.take_of_length_le (by rw [List.length_drop]; exact Nat.le_refl _)]
      · rw [Nat.min_eq_right (by omega), List.drop_length, List.drop_eq_nil_of_le (by omega), List.take_nil]
    rw [e]
    exact q1 p np
/-- a slice of a row -/
theorem slA_takeR {H : Hp} {a : Addr} {us : List Str} {j : Nat} {Q : VK} (hA : SqT K H a (us.map V.str)) (q : ∀ H' p, Same H H' → SqT K H' p ((us.take j).map V.str) → Q (.ref p) H') : rSlA K (.ref a) none (some (j : Int)) H Q :=
  slA_take hA (fun e => q H a (fun _ _ h => h) (by rw [List.map_take, e]; exact hA)) fun p np => q _ p (same_new np) (by rw [List.map_take]; exact sqT_new upd_same)
theorem slA_dropR {H : Hp} {a : Addr} {us : List Str} {j : Nat} {Q : VK} (hA : SqT K H a (us.map V.str)) (q : ∀ H' p, Same H H' → SqT K H' p ((us.drop j).map V.str) → Q (.ref p) H') : rSlA K (.ref a) (some (j : Int)) none H Q :=
  slA_drop hA (fun e => q H a (fun _ _ h => h) (by rw [List.map_drop, e]; exact hA)) fun p np => q _ p (same_new np) (by rw [List.map_drop]; exact sqT_new upd_same)
theorem tyT {H : Hp} {p : Addr} {xs : List V} (h : SqT K H p xs) : TyX K H (.ref p) (.type "tuple") := by
  rcases h with (h | ⟨o, h⟩) | h
  · exact .base (.tup h)
  · exact .fTuple h
  · obtain ⟨o, its, n, h1, h2, h3⟩ := h
    exact .kTuple h1 h2
theorem catR {H : Hp} {a b : Addr} {xs ys : List V} {Q : VK} (hx : SqT K H a xs) (hy : SqT K H b ys) (hl : xs.length + ys.length ≤ 100000) (q : ∀ H' p, Same H H' → SqT K H' p (xs ++ ys) → Q (.ref p) H') : rCatA K (.ref a) (.ref b) H Q := by
  refine ⟨a, b, xs, ys, rfl, rfl, hx, hy, smallE (by omega), fun e => ?_, fun _ e => ?_, fun _ _ p np => ?_⟩
  · exact q H b (fun _ _ h => h) (by rw [e]; exact hy)
  · exact q H a (fun _ _ h => h) (by rw [e, List.append_nil]; exact hx)
  · exact q _ p (same_new np) (sqT_new upd_same)
theorem slR_take {H : Hp} {a : Addr} {xs : List V} {j : Nat} {Q : VK} (hA : SqT K H a xs) (q : ∀ H' p, Same H H' → SqT K H' p (xs.take j) → Q (.ref p) H') : rSlA K (.ref a) none (some (j : Int)) H Q :=
  slA_take hA (fun e => q H a (fun _ _ h => h) (by rw [e]; exact hA)) fun p np => q _ p (same_new np) (sqT_new upd_same)
theorem slR_drop {H : Hp} {a : Addr} {xs : List V} {j : Nat} {Q : VK} (hA : SqT K H a xs) (q : ∀ H' p, Same H H' → SqT K H' p (xs.drop j) → Q (.ref p) H') : rSlA K (.ref a) (some (j : Int)) none H Q :=
  slA_drop hA (fun e => q H a (fun _ _ h => h) (by rw [e]; exact hA)) fun p np => q _ p (same_new np) (sqT_new upd_same)
end
end Kb
namespace Kb
open PySem PySem.Spec PyProof.Rows L2
/-! ### the source of draws -/
/-- three whole numbers -/
def Box (H : Hp) (x : Addr) : Prop := ∃ b0 b1 b2 : Int, H x = some (.lst [.int b0, .int b1, .int b2])
/-- all but x stands -/
def But (x : Addr) (H H' : Hp) : Prop := ∀ c u, c ≠ x → H c = some u → H' c = some u
theorem But.refl {x : Addr} {H : Hp} : But x H H := fun _ _ _ e => e
theorem But.trans {x : Addr} {H H' H'' : Hp} (a : But x H H') (b : But x H' H'') : But x H H'' := fun c u h e => b c u h (a c u h e)
theorem But.of {x : Addr} {H H' : Hp} (s : Same H H') : But x H H' := fun c u _ e => s c u e
theorem But.upd {x : Addr} {H : Hp} {o : HO} : But x H (upd H x o) := fun c u h e => by
  rw [upd_ne h]
  exact e
theorem Box.mono {x : Addr} {H H' : Hp} (b : Box H x) (s : Same H H') : Box H' x := let ⟨b0, b1, b2, e⟩ := b; ⟨b0, b1, b2, s _ _ e⟩
theorem mod_nat (i : Int) {n : Nat} (h : 0 < n) : ∃ r : Nat, r < n ∧ i % (n : Int) = (r : Int) := by
  have h1 := Int.emod_nonneg i (show (n : Int) ≠ 0 by omega)
  have h2 := Int.emod_lt_of_pos i (show 0 < (n : Int) by omega)
  exact ⟨(i % (n : Int)).toNat, by omega, by omega⟩
theorem small_mul {k : Int} (h1 : -1000000000000 < k) (h2 : k < 1000000000000) : -(2 ^ 64) < k ∧ k < 2 ^ 64 := by omega
section
variable {P : Program} {w : World} {K : PySem.W.Frag} {mg : Str → Option Value} {base : Heap}
theorem scTake : FnScope ["box", "many", "digit", "raw"] ["box", "many"] (defScope sTake) := ⟨rfl, rfl, rfl, by decide +kernel, rfl, by decide +kernel, by decide +kernel⟩
def spTake : Sp := fun vs H Q _ => ∃ (x : Addr) (n : Nat), vs = [.ref x, .int (n : Nat)] ∧ Box H x ∧ 0 < n ∧ n < 1000000 ∧ ∀ (r : Nat) H', r < n → But x H H' → Box H' x → Q (.int (r : Nat)) H'
theorem ok_take {f : Addr} {fd : FuncData} (F : Fun K "_law_take" "_law_take" sTake f fd) (mi : mg "int" = none) : FnOk P w K mg base CX0 1 f fd ["box", "many"] spTake := by
  refine F.ok scTake (fun vs H Q E h => ?_) (fun cdv A outer s H vs Q E hr h => ?_)
  · obtain ⟨x, n, rfl, _⟩ := h
    rfl
  · obtain ⟨x, n, rfl, ⟨b0, b1, b2, hx⟩, hn, hn2, q⟩ := h
    refine ⟨_, pss_cons (ps_if (pt_cmpR op_gt (pe_ix ix_list (pv 0) pe_int (fun _ _ => rfl)) pe_int (nomark _))
        (pss_cons (ps_set (i := 2) scTake.nd rfl (.inl rfl) (pe_op op_mod (pe_callTy call_int1 (by rfl) mi (by decide +kernel) (pa_cons (pe_ix ix_list (pv 0) pe_int (fun _ _ => rfl)) pa_nil)) (pv 1)))
          (pss_cons (ps_asg (pe_op op_fdivN (pe_ix ix_list (pv 0) pe_int (fun _ _ => rfl)) (pv 1)) (pg_sub (pv 0) pe_int set_list)) (pss_one (ps_ret (pv 2))))) pss_nil)
      (pss_cons (ps_asg (pe_op op_add (pe_ix ix_list (pv 0) pe_int (fun _ _ => rfl)) pe_int) (pg_sub (pv 0) pe_int set_list))
      (pss_cons (ps_set (i := 3) scTake.nd rfl (.inl rfl) (pe_op op_mod (pe_callTy call_int1 (by rfl) mi (by decide +kernel) (pa_cons (pe_op op_add (pe_op op_mul (pe_op op_add (pe_ix ix_list (pv 0) pe_int (fun _ _ => rfl)) (pe_op op_mul pe_int (pe_ix ix_list (pv 0) pe_int (fun _ _ => rfl)))) pe_int) pe_int) pa_nil)) pe_int))
      (pss_cons (ps_asg (pe_op op_add (pe_op op_mod (pe_callTy call_int1 (by rfl) mi (by decide +kernel) (pa_cons (pe_op op_add (pe_op op_mul (pv 3) pe_int) pe_int) pa_nil)) pe_int) pe_int) (pg_sub (pv 0) pe_int set_list))
      (pss_one (ps_ret (pe_op op_mod (pe_callTy call_int1 (by rfl) mi (by decide +kernel) (pa_cons (pe_op op_fdivN (pe_op op_add (pe_op op_mul (pv 3) pe_int) (pe_ix ix_list (pv 0) pe_int (fun _ _ => rfl))) pe_int) pa_nil)) (pv 1))))))), ?_⟩
    refine ⟨.ref x, rfl, x, _, 0, .int b0, rfl, rfl, sqL_new hx, rfl, b0, 0, rfl, rfl, _, rfl, ite2 (fun c => ?_) (fun c => ?_)⟩
    · obtain ⟨r, hr1, hr2⟩ := mod_nat b0 hn
      refine ⟨.ref x, rfl, x, _, 0, .int b0, rfl, rfl, sqL_new hx, rfl, .inl ⟨b0, rfl, .int (n : Nat), rfl, b0, (n : Nat), rfl, rfl, (by omega), ?_⟩⟩
      refine ⟨.ref x, rfl, x, _, 0, .int b0, rfl, rfl, sqL_new hx, rfl, .int (n : Nat), rfl, b0, (n : Nat), rfl, rfl, ⟨by omega, by omega⟩, .ref x, rfl, x, _, 0, 0, rfl, rfl, hx, rfl, ?_⟩
      refine ⟨_, rfl, ?_⟩
      show Q (.int (b0 % (n : Int))) _
      rw [hr2]
      exact q r _ hr1 But.upd ⟨_, _, _, upd_same⟩
    · refine ⟨.ref x, rfl, x, _, 2, .int b2, rfl, rfl, sqL_new hx, rfl, _, _, rfl, rfl, .ref x, rfl, x, _, 2, 2, rfl, rfl, hx, rfl, ?_⟩
      generalize hH1 : upd H x _ = H1
      have hx1 : H1 x = some (.lst [.int b0, .int b1, .int (b2 + 1)]) := by rw [← hH1, upd_same]; rfl
      have k1 : But x H H1 := by rw [← hH1]; exact But.upd
      refine ⟨.ref x, rfl, x, _, 1, .int b1, rfl, rfl, sqL_new hx1, rfl, .ref x, rfl, x, _, 2, .int (b2 + 1), rfl, rfl, sqL_new hx1, rfl, 99991, b2 + 1, rfl, rfl, .inl (by decide), b1, _, rfl, rfl, _, 69621, rfl, rfl, .inr (by decide), _, 59, rfl, rfl, .inl ⟨_, rfl, _, 2147483563, rfl, rfl, (by show (0 : Int) < 2147483563; decide), ?_⟩⟩
      refine ⟨_, rfl, _, 40692, rfl, rfl, .inr (by decide), _, 27017, rfl, rfl, .inl ⟨_, rfl, _, 2147483629, rfl, rfl, (by show (0 : Int) < 2147483629; decide), _, 1, rfl, rfl, .ref x, rfl, x, _, 1, 1, rfl, rfl, hx1, rfl, ?_⟩⟩
      generalize hH2 : upd H1 x _ = H2
      obtain ⟨c1, hx2⟩ : ∃ c1 : Int, H2 x = some (.lst [.int b0, .int c1, .int (b2 + 1)]) := ⟨_, by rw [← hH2, upd_same]; rfl⟩
      have k2 : But x H1 H2 := by rw [← hH2]; exact But.upd
      refine ⟨_, rfl, _, 2147483647, rfl, rfl, .inr (by decide), .ref x, rfl, x, _, 1, .int c1, rfl, rfl, sqL_new hx2, rfl, _, c1, rfl, rfl, _, 8191, rfl, rfl, ⟨by decide, by decide⟩, .inl ⟨_, rfl, .int (n : Nat), rfl, _, (n : Nat), rfl, rfl, (by omega), ?_⟩⟩
      obtain ⟨r, hr1, hr2⟩ := mod_nat _ hn
      refine (congrArg (fun z => Q (V.int z) H2) hr2).mpr ?_
      exact q r _ hr1 (k1.trans k2) ⟨_, _, _, hx2⟩
end
end Kb
/-! The mathematics of makings (own text; no part of the kit). -/
namespace Kf
variable {α : Type} [DecidableEq α]
/-- how many deeds the longest beginning of a row has that lies within another one -/
def beg : List α → List α → Nat
  | [], _ => 0
  | _ :: _, [] => 0
  | d :: u, e :: z => if d = e then beg u z + 1 else beg (d :: u) z
/-- whether striking leaves u -/
def lies (u v : List α) : Bool := decide (beg u v = u.length)
theorem beg_le : ∀ u v : List α, beg u v ≤ u.length
  | [], _ => by rw [beg]; exact Nat.zero_le _
  | _ :: _, [] => by rw [beg]; exact Nat.zero_le _
  | d :: u, e :: z => by
    rw [beg]
    split
    · have := beg_le u z
      rw [List.length_cons]
      omega
    · exact beg_le (d :: u) z
theorem lies_iff : ∀ {u v : List α}, lies u v = true ↔ u.Sublist v := by
  intro u v
  unfold lies
  rw [decide_eq_true_iff]
  induction v generalizing u with
  | nil =>
    cases u with
    | nil => simp [beg]
    | cons d u => simp [beg]
  | cons e z ih =>
    cases u with
    | nil => simp [beg]
    | cons d u =>
      rw [beg]
      by_cases h : d = e
      · subst h
        rw [if_pos rfl, List.length_cons, List.cons_sublist_cons, ← ih]
        omega
      · rw [if_neg h]
        rw [ih]
        constructor
        · exact fun q => q.cons e
        · intro q
          cases q with
          | cons _ q => exact q
          | cons_cons _ q => exact absurd rfl h
theorem lies_eq {u v : List α} {b : Bool} (h : b = true ↔ u.Sublist v) : lies u v = b := by
  cases hb : b with
  | true => exact lies_iff.mpr (h.mp hb)
  | false =>
    cases hl : lies u v with
    | false => rfl
    | true => rw [h.mpr (lies_iff.mp hl)] at hb; cases hb
theorem lies_rev {u v : List α} : lies u.reverse v.reverse = lies u v := by
  symm
  apply lies_eq
  rw [lies_iff, List.reverse_sublist]
/-- the loop of begun -/
theorem beg_step {row : List α} {m : Nat} {e : α} {z : List α} : beg (row.drop m) (e :: z) = if row[m]? = some e then beg (row.drop (m + 1)) z + 1 else beg (row.drop m) z := by
  by_cases h : m < row.length
  · rw [List.drop_eq_getElem_cons h, List.getElem?_eq_getElem h, beg]
    by_cases q : row[m] = e
    · rw [if_pos q, if_pos (by rw [q])]
    · rw [if_neg q, if_neg (fun z => q (Option.some.inj z))]
  · have h2 : row.drop m = [] := List.drop_eq_nil_of_le (by omega)
    rw [List.getElem?_eq_none (by omega), if_neg (fun z => nomatch z), h2, beg, beg]
theorem beg_nil (u : List α) : beg u [] = 0 := by cases u <;> rw [beg]
theorem beg_append : ∀ (u v w : List α), beg u (v ++ w) = beg u v + beg (u.drop (beg u v)) w
  | [], v, w => by rw [beg, beg, List.drop_nil, beg]
  | d :: u, [], w => by rw [List.nil_append, beg_nil, List.drop_zero, Nat.zero_add]
  | d :: u, e :: v, w => by
    rw [List.cons_append, beg, beg]
    by_cases h : d = e
    · rw [if_pos h, if_pos h, beg_append u v w, List.drop_succ_cons]
      omega
    · rw [if_neg h, if_neg h]
      exact beg_append (d :: u) v w
theorem lies_append (u v w : List α) : lies u (v ++ w) = lies (u.drop (beg u v)) w := by
  unfold lies
  rw [beg_append, List.length_drop]
  have := beg_le u v
  by_cases h : beg (u.drop (beg u v)) w = u.length - beg u v
  · rw [decide_eq_true h, decide_eq_true (by omega)]
  · rw [decide_eq_false h, decide_eq_false (by omega)]
theorem beg_pos {x : α} {u v : List α} (h : x ∈ v) : 0 < beg (x :: u) v := by
  induction v with
  | nil => cases h
  | cons e z ih =>
    rw [beg]
    by_cases q : x = e
    · rw [if_pos q]
      omega
    · rw [if_neg q]
      exact ih ((List.mem_cons.mp h).resolve_left q)
/-! ### makings -/
def look (m : List (α × List α)) (d : α) : List α := ((m.find? fun p => decide (p.1 = d)).map (·.2)).getD []
def mad (m : List (α × List α)) (row : List α) : List α := row.flatMap (look m)
theorem mad_cons (m : List (α × List α)) (d : α) (r : List α) : mad m (d :: r) = look m d ++ mad m r := List.flatMap_cons
theorem mad_snoc (m : List (α × List α)) (d : α) (r : List α) : mad m (r ++ [d]) = mad m r ++ look m d := by
  unfold mad
  rw [List.flatMap_append]
  simp
theorem look_mem {m : List (α × List α)} {d : α} {r : List α} (nd : (m.map (·.1)).Nodup) (h : (d, r) ∈ m) : look m d = r := by
  unfold look
  induction m with
  | nil => cases h
  | cons p m ih =>
    rw [List.map_cons, List.nodup_cons] at nd
    rw [List.find?_cons]
    rcases List.mem_cons.mp h with e | e
    · subst e
      simp
    · have : p.1 ≠ d := fun z => nd.1 (z ▸ List.mem_map.mpr ⟨_, e, rfl⟩)
      rw [decide_eq_false this]
      exact ih nd.2 e
theorem mad_mono {m : List (α × List α)} {u v : List α} (h : u.Sublist v) : (mad m u).Sublist (mad m v) := by
  induction h with
  | slnil => exact List.Sublist.refl _
  | cons a _ ih =>
    rw [mad_cons]
    exact ih.trans (List.sublist_append_right _ _)
  | cons_cons a _ ih =>
    rw [mad_cons, mad_cons]
    exact List.append_sublist_append_left _ |>.mpr ih
/-- an own deed -/
def Own (m : List (α × List α)) (d x : α) : Prop := x ∈ look m d ∧ ∀ e ∈ m.map (·.1), e ≠ d → x ∉ look m e
/-- exact -/
def Exact (m : List (α × List α)) : Prop := ∀ d ∈ m.map (·.1), ∃ x, Own m d x
theorem exact_back {m : List (α × List α)} (hx : Exact m) : ∀ {v u : List α}, (∀ d ∈ u, d ∈ m.map (·.1)) → (∀ d ∈ v, d ∈ m.map (·.1)) → (mad m u).Sublist (mad m v) → u.Sublist v := by
  classical
  obtain ⟨o, ho⟩ : ∃ o : α → α, ∀ d ∈ m.map (·.1), Own m d (o d) := by
    refine ⟨fun d => if h : ∃ x, Own m d x then Classical.choose h else d, fun d hd => ?_⟩
    have := hx d hd
    simp only [dif_pos this]
    exact Classical.choose_spec this
  let p : α → Bool := fun x => (m.map (·.1)).any fun d => decide (o d = x)
  have hp : ∀ d ∈ m.map (·.1), (∀ x ∈ (look m d).filter p, x = o d) ∧ o d ∈ (look m d).filter p := by
    intro d hd
    constructor
    · intro x hx
      rw [List.mem_filter] at hx
      obtain ⟨e, he, ee⟩ := List.any_eq_true.mp hx.2
      have ee := of_decide_eq_true ee
      by_cases q : d = e
      · rw [q]; exact ee.symm
      · exact absurd hx.1 (ee ▸ (ho e he).2 d hd q)
    · rw [List.mem_filter]
      exact ⟨(ho d hd).1, List.any_eq_true.mpr ⟨d, hd, decide_eq_true rfl⟩⟩
  have key : ∀ {v u : List α}, (∀ d ∈ u, d ∈ m.map (·.1)) → (∀ d ∈ v, d ∈ m.map (·.1)) → ((mad m u).filter p).Sublist ((mad m v).filter p) → u.Sublist v := by
    intro v
    induction v with
    | nil =>
      intro u hu _ h
      cases u with
      | nil => exact List.Sublist.refl _
      | cons d u =>
        rw [mad_cons, List.filter_append] at h
        have := h.subset (List.mem_append_left _ (hp d (hu d List.mem_cons_self)).2)
        cases this
    | cons e z ih =>
      intro u hu hv h
      cases u with
      | nil => exact List.nil_sublist _
      | cons d u =>
        have hd := hu d List.mem_cons_self
        have he := hv e List.mem_cons_self
        have hu' : ∀ d ∈ u, d ∈ m.map (·.1) := fun x hx => hu x (List.mem_cons_of_mem _ hx)
        have hv' : ∀ d ∈ z, d ∈ m.map (·.1) := fun x hx => hv x (List.mem_cons_of_mem _ hx)
        rw [mad_cons m e, List.filter_append] at h
        by_cases q : d = e
        · subst q
          rw [mad_cons m d, List.filter_append, List.append_sublist_append_left] at h
          exact (ih hu' hv' h).cons_cons d
        · refine (ih hu hv' ?_).cons e
          obtain ⟨l1, l2, e1, s1, s2⟩ := List.sublist_append_iff.mp h
          cases l1 with
          | nil =>
            rw [List.nil_append] at e1
            rw [e1]
            exact s2
          | cons x l1 =>
            exfalso
            have h1 := (hp e he).1 x (s1.subset List.mem_cons_self)
            have hd2 := hp d hd
            rw [mad_cons, List.filter_append] at e1
            cases hA : (look m d).filter p with
            | nil => rw [hA] at hd2; exact absurd hd2.2 (by simp)
            | cons a A =>
              rw [hA, List.cons_append, List.cons_append] at e1
              have ea : a = x := (List.cons.inj e1).1
              have h2 := hd2.1 a (by rw [hA]; exact List.mem_cons_self)
              have h3 : o d = o e := by rw [← h2, ea, h1]
              exact (ho e he).2 d hd q (h3 ▸ (ho d hd).1)
  exact fun {v u} hu hv h => key hu hv (h.filter p)
/-! ### covers -/
/-- rows of n names, in order -/
def lex (ns : List α) : Nat → List (List α)
  | 0 => [[]]
  | n + 1 => ns.flatMap fun d => (lex ns n).map (d :: ·)
theorem flat_one : ∀ ns : List α, (ns.flatMap fun d => [[d]]) = ns.map fun d => [d]
  | [] => rfl
  | d :: ns => by
    rw [List.flatMap_cons, flat_one ns]
    rfl
theorem lex_snoc (ns : List α) : ∀ n, lex ns (n + 1) = (lex ns n).flatMap fun one => ns.map fun d => one ++ [d]
  | 0 => by
    show (ns.flatMap fun d => [[d]]) = [[]].flatMap fun one => ns.map fun d => one ++ [d]
    rw [flat_one, List.flatMap_cons, List.flatMap_nil, List.append_nil]
    rfl
  | n + 1 => by
    have ih := lex_snoc ns n
    rw [lex]
    conv => lhs; rw [ih]
    rw [lex, List.flatMap_assoc]
    congr 1
    funext d
    rw [List.map_flatMap, List.flatMap_map]
    congr 1
    funext one
    rw [List.map_map]
    rfl
theorem lex_len {ns : List α} : ∀ {n : Nat} {r : List α}, r ∈ lex ns n → r.length = n ∧ ∀ d ∈ r, d ∈ ns
  | 0, r, h => by
    have : r = [] := by simpa [lex] using h
    subst this
    exact ⟨rfl, fun d h => nomatch h⟩
  | n + 1, r, h => by
    rw [lex, List.mem_flatMap] at h
    obtain ⟨d, hd, h⟩ := h
    obtain ⟨q, hq, rfl⟩ := List.mem_map.mp h
    have := lex_len hq
    refine ⟨by rw [List.length_cons, this.1], fun x hx => ?_⟩
    rcases List.mem_cons.mp hx with e | e
    · rw [e]; exact hd
    · exact this.2 x e
theorem lex_many (ns : List α) : ∀ n, (lex ns n).length = ns.length ^ n
  | 0 => rfl
  | n + 1 => by
    rw [lex, List.length_flatMap]
    simp only [List.length_map, lex_many ns n]
    rw [List.map_const', List.sum_replicate_nat, Nat.pow_succ, Nat.mul_comm]
section
variable (m : List (α × List α)) (ns : List α)
def rest (row : List α) (d : α) : List α := row.drop (beg row (look m d))
def cov : Nat → List α → Bool
  | 0, row => decide (row = [])
  | n + 1, row => ns.any fun d => cov n (rest m row d)
def gre : Nat → List α → List α
  | 0, _ => []
  | n + 1, row => match ns.find? fun d => cov m ns n (rest m row d) with
    | some d => d :: gre n (rest m row d)
    | none => []
def holds (row one : List α) : Bool := lies row (mad m one)
theorem holds_cons (row : List α) (d : α) (one : List α) : holds m row (d :: one) = holds m (rest m row d) one := by
  unfold holds rest
  rw [mad_cons, lies_append]
theorem holds_nil (row : List α) : holds m row [] = decide (row = []) := by
  unfold holds mad lies
  rw [List.flatMap_nil, beg_nil]
  cases row <;> simp
theorem cov_iff : ∀ (n : Nat) (row : List α), cov m ns n row = (lex ns n).any (holds m row)
  | 0, row => by
    rw [cov, lex, List.any_cons, List.any_nil, Bool.or_false, holds_nil]
  | n + 1, row => by
    rw [cov, lex, List.any_flatMap]
    congr 1
    funext d
    rw [cov_iff n, List.any_map]
    congr 1
    funext one
    exact (holds_cons m row d one).symm
theorem find_flat {β γ : Type} {f : β → List γ} {p : γ → Bool} : ∀ {l : List β} {c : γ} {b : β}, l.find? (fun x => (f x).any p) = some b → (f b).find? p = some c → (l.flatMap f).find? p = some c
  | [], _, _, h, _ => by simp at h
  | x :: l, c, b, h, hc => by
    rw [List.find?_cons] at h
    rw [List.flatMap_cons, List.find?_append]
    cases hx : (f x).any p with
    | true =>
      rw [hx] at h
      cases h
      rw [hc]
      rfl
    | false =>
      rw [hx] at h
      have : (f x).find? p = none := by
        rw [List.find?_eq_none]
        intro y hy hp
        rw [List.any_eq_false] at hx
        exact hx y hy hp
      rw [this, Option.none_or]
      exact find_flat h hc
theorem gre_first : ∀ (n : Nat) (row : List α), cov m ns n row = true → (lex ns n).find? (holds m row) = some (gre m ns n row)
  | 0, row, h => by
    rw [cov] at h
    rw [lex, List.find?_cons, holds_nil, h, gre]
  | n + 1, row, h => by
    rw [cov, List.any_eq_true] at h
    rw [gre]
    cases e : ns.find? fun d => cov m ns n (rest m row d) with
    | none =>
      obtain ⟨d, hd, hc⟩ := h
      exact absurd hc (List.find?_eq_none.mp e d hd)
    | some d =>
      have hc := List.find?_some e
      rw [lex]
      refine find_flat (b := d) ?_ ?_
      · rw [← e]
        congr 1
        funext x
        rw [cov_iff, List.any_map]
        congr 1
        funext one
        exact holds_cons m row x one
      · rw [List.find?_map]
        have := gre_first n (rest m row d) hc
        have e2 : (holds m row ∘ fun x => d :: x) = holds m (rest m row d) := by
          funext one
          exact holds_cons m row d one
        rw [e2, this]
        rfl
/-- n is the least number that covers -/
def Least (n : Nat) (row : List α) : Prop := cov m ns n row = true ∧ ∀ k, k < n → cov m ns k row = false
theorem least_zero : Least m ns 0 [] := ⟨by rw [cov]; rfl, fun k h => absurd h (Nat.not_lt_zero k)⟩
theorem least_uniq {a b : Nat} {row : List α} (ha : Least m ns a row) (hb : Least m ns b row) : a = b := by
  rcases Nat.lt_trichotomy a b with h | h | h
  · have := hb.2 a h
    rw [ha.1] at this
    cases this
  · exact h
  · have := ha.2 b h
    rw [hb.1] at this
    cases this
/-- the last k deeds -/
def suf (row : List α) (k : Nat) : List α := row.drop (row.length - k)
theorem suf_len {row : List α} {k : Nat} (h : k ≤ row.length) : (suf row k).length = k := by
  unfold suf
  rw [List.length_drop]
  omega
theorem suf_zero (row : List α) : suf row 0 = [] := by
  unfold suf
  rw [Nat.sub_zero, List.drop_length]
theorem suf_all (row : List α) : suf row row.length = row := by
  unfold suf
  rw [Nat.sub_self, List.drop_zero]
theorem suf_drop {row : List α} {k b : Nat} (h : k ≤ row.length) (hb : b ≤ k) : (suf row k).drop b = suf row (k - b) := by
  unfold suf
  rw [List.drop_drop]
  congr 1
  omega
theorem rest_suf {row : List α} {k : Nat} (h : k ≤ row.length) (d : α) : rest m (suf row k) d = suf row (k - beg (suf row k) (look m d)) := by
  unfold rest
  refine suf_drop h ?_
  have := beg_le (suf row k) (look m d)
  rwa [suf_len h] at this
/-- one more: the least of those that cover the rest, and one -/
theorem least_step {row : List α} {k : Nat} (hk : k + 1 ≤ row.length) {few : Nat → Nat} (hf : ∀ j, j ≤ k → Least m ns (few j) (suf row j)) {x : Nat}
    (hin : ∃ d ∈ ns, 0 < beg (suf row (k + 1)) (look m d) ∧ x = few (k + 1 - beg (suf row (k + 1)) (look m d)))
    (hle : ∀ d ∈ ns, 0 < beg (suf row (k + 1)) (look m d) → x ≤ few (k + 1 - beg (suf row (k + 1)) (look m d))) : Least m ns (1 + x) (suf row (k + 1)) := by
  constructor
  · obtain ⟨d, hd, hb, rfl⟩ := hin
    rw [Nat.add_comm, cov, List.any_eq_true]
    refine ⟨d, hd, ?_⟩
    rw [rest_suf m hk]
    exact (hf _ (by omega)).1
  · intro j
    induction j with
    | zero =>
      intro _
      rw [cov]
      refine decide_eq_false fun e => ?_
      have := suf_len hk
      rw [e] at this
      cases this
    | succ j ih =>
      intro hj
      rw [cov]
      refine Bool.eq_false_iff.mpr fun h => ?_
      obtain ⟨d, hd, hc⟩ := List.any_eq_true.mp h
      by_cases hb : 0 < beg (suf row (k + 1)) (look m d)
      · have h1 := hle d hd hb
        have h2 := (hf (k + 1 - beg (suf row (k + 1)) (look m d)) (by omega)).2 j (by omega)
        rw [rest_suf m hk, h2] at hc
        cases hc
      · have e : rest m (suf row (k + 1)) d = suf row (k + 1) := by
          unfold rest
          rw [show beg (suf row (k + 1)) (look m d) = 0 by omega, List.drop_zero]
        rw [e, ih (by omega)] at hc
        cases hc
/-- what the greedy step chooses -/
theorem gre_step {row : List α} {k : Nat} (hk : k + 1 ≤ row.length) {few : Nat → Nat} (hf : ∀ j, j ≤ k + 1 → Least m ns (few j) (suf row j)) :
    ∃ d b, (ns.filter fun d => decide (few (k + 1 - beg (suf row (k + 1)) (look m d)) + 1 = few (k + 1)))[0]? = some d ∧ d ∈ ns ∧ b = beg (suf row (k + 1)) (look m d) ∧ 0 < b ∧ b ≤ k + 1 ∧ gre m ns (few (k + 1)) (suf row (k + 1)) = d :: gre m ns (few (k + 1 - b)) (suf row (k + 1 - b)) := by
  have hL := hf (k + 1) (Nat.le_refl _)
  have hbk : ∀ d, beg (suf row (k + 1)) (look m d) ≤ k + 1 := fun d => by
    have := beg_le (suf row (k + 1)) (look m d)
    rwa [suf_len hk] at this
  cases hn : few (k + 1) with
  | zero =>
    rw [hn] at hL
    have := hL.1
    rw [cov, decide_eq_true_iff] at this
    have h2 := suf_len hk
    rw [this] at h2
    cases h2
  | succ n =>
    rw [hn] at hL
    have same : ∀ d ∈ ns, decide (few (k + 1 - beg (suf row (k + 1)) (look m d)) + 1 = n + 1) = cov m ns n (rest m (suf row (k + 1)) d) := by
      intro d hd
      rw [rest_suf m hk]
      have hj := hf (k + 1 - beg (suf row (k + 1)) (look m d)) (by omega)
      generalize hjj : k + 1 - beg (suf row (k + 1)) (look m d) = j at hj ⊢
      cases hc : cov m ns n (suf row j) with
      | true =>
        refine decide_eq_true ?_
        have h1 : few j ≤ n := by
          apply Decidable.byContradiction
          intro z
          have := hj.2 n (by omega)
          rw [hc] at this
          cases this
        have h2 : cov m ns (few j + 1) (suf row (k + 1)) = true := by
          rw [cov, List.any_eq_true]
          refine ⟨d, hd, ?_⟩
          rw [rest_suf m hk, hjj]
          exact hj.1
        have h3 : n + 1 ≤ few j + 1 := by
          apply Decidable.byContradiction
          intro z
          have := hL.2 (few j + 1) (by omega)
          rw [h2] at this
          cases this
        omega
      | false =>
        refine decide_eq_false fun e => ?_
        have : few j = n := by omega
        rw [← this, hj.1] at hc
        cases hc
    have hc := hL.1
    rw [cov, List.any_eq_true] at hc
    obtain ⟨d0, hd0, hc0⟩ := hc
    cases e : ns.find? fun d => cov m ns n (rest m (suf row (k + 1)) d) with
    | none => exact absurd hc0 (List.find?_eq_none.mp e d0 hd0)
    | some d =>
      have hd : d ∈ ns := List.mem_of_find?_eq_some e
      have hcd := List.find?_some e
      have hw : few (k + 1 - beg (suf row (k + 1)) (look m d)) = n := by
        have := same d hd
        rw [hcd] at this
        have := of_decide_eq_true this
        omega
      refine ⟨d, _, ?_, hd, rfl, ?_, hbk d, ?_⟩
      · have : (ns.filter fun d => decide (few (k + 1 - beg (suf row (k + 1)) (look m d)) + 1 = n + 1)) = ns.filter fun d => cov m ns n (rest m (suf row (k + 1)) d) := List.filter_congr fun x hx => same x hx
        rw [this, ← List.head?_eq_getElem?, List.head?_filter]
        exact e
      · apply Decidable.byContradiction
        intro z
        rw [show beg (suf row (k + 1)) (look m d) = 0 by omega, Nat.sub_zero] at hw
        omega
      · rw [gre, e, hw, ← rest_suf m hk]
theorem gre_len : ∀ (n : Nat) (row : List α), cov m ns n row = true → (gre m ns n row).length = n ∧ (∀ d ∈ gre m ns n row, d ∈ ns) ∧ holds m row (gre m ns n row) = true := fun n row h => by
  have e := gre_first m ns n row h
  have h1 := lex_len (List.mem_of_find?_eq_some e)
  exact ⟨h1.1, h1.2, List.find?_some e⟩
/-- whatever is nearest is not longer than the row -/
theorem least_le {row : List α} {few : Nat → Nat} (hs : ∀ x ∈ row, ∃ d ∈ ns, x ∈ look m d) : ∀ k, k ≤ row.length → (∀ j, j ≤ k → Least m ns (few j) (suf row j)) → few k ≤ k := by
  intro k
  induction k using Nat.strongRecOn with
  | _ k ih =>
    intro hk hf
    cases k with
    | zero =>
      have := hf 0 (Nat.le_refl _)
      rw [suf_zero] at this
      exact Nat.le_of_eq (least_uniq m ns this (least_zero m ns))
    | succ k =>
      obtain ⟨d, b, _, hd, hb, hb0, hbk, _⟩ := gre_step m ns hk hf
      have h1 := ih (k + 1 - b) (by omega) (by omega) fun j hj => hf j (by omega)
      have h2 : cov m ns (few (k + 1 - b) + 1) (suf row (k + 1)) = true := by
        rw [cov, List.any_eq_true]
        refine ⟨d, hd, ?_⟩
        rw [rest_suf m hk, ← hb]
        exact (hf (k + 1 - b) (by omega)).1
      have h3 : few (k + 1) ≤ few (k + 1 - b) + 1 := by
        apply Decidable.byContradiction
        intro z
        have := (hf (k + 1) (Nat.le_refl _)).2 (few (k + 1 - b) + 1) (by omega)
        rw [h2] at this
        cases this
      omega
end
end Kf
namespace Kf
variable {α : Type} [DecidableEq α]
theorem cov_congr {m m' : List (α × List α)} {ns : List α} (h : ∀ d ∈ ns, look m d = look m' d) : ∀ (n : Nat) (row : List α), cov m ns n row = cov m' ns n row
  | 0, _ => by rw [cov, cov]
  | n + 1, row => by
    rw [cov, cov]
    rw [Bool.eq_iff_iff, List.any_eq_true, List.any_eq_true]
    constructor
    · rintro ⟨d, hd, q⟩
      refine ⟨d, hd, ?_⟩
      rw [← cov_congr h n]
      unfold rest at q ⊢
      rw [← h d hd]
      exact q
    · rintro ⟨d, hd, q⟩
      refine ⟨d, hd, ?_⟩
      rw [cov_congr h n]
      unfold rest at q ⊢
      rw [h d hd]
      exact q
theorem find_congr {β : Type} {p q : β → Bool} : ∀ {l : List β}, (∀ x ∈ l, p x = q x) → l.find? p = l.find? q
  | [], _ => rfl
  | x :: l, h => by
    rw [List.find?_cons, List.find?_cons, h x List.mem_cons_self, find_congr fun y hy => h y (List.mem_cons_of_mem _ hy)]
theorem gre_congr {m m' : List (α × List α)} {ns : List α} (h : ∀ d ∈ ns, look m d = look m' d) : ∀ (n : Nat) (row : List α), gre m ns n row = gre m' ns n row
  | 0, _ => by rw [gre, gre]
  | n + 1, row => by
    rw [gre, gre]
    have e : ns.find? (fun d => cov m ns n (rest m row d)) = ns.find? fun d => cov m' ns n (rest m' row d) := find_congr fun d hd => by
      rw [cov_congr h n]
      unfold rest
      rw [h d hd]
    rw [e]
    cases hf : ns.find? fun d => cov m' ns n (rest m' row d) with
    | none => rfl
    | some d =>
      have hd : d ∈ ns := List.mem_of_find?_eq_some hf
      show d :: gre m ns n (rest m row d) = d :: gre m' ns n (rest m' row d)
      rw [gre_congr h n]
      unfold rest
      rw [h d hd]
theorem least_congr {m m' : List (α × List α)} {ns : List α} (h : ∀ d ∈ ns, look m d = look m' d) {n : Nat} {row : List α} (q : Least m ns n row) : Least m' ns n row :=
  ⟨by rw [← cov_congr h]; exact q.1, fun k hk => by rw [← cov_congr h]; exact q.2 k hk⟩
end Kf
/-! l.extend(t), t a tuple. -/
namespace Ka
open PySem PySem.Spec PyProof.Rows L2
theorem extend_tup (l b : Addr) (xs zs : Array Value) (n k : Nat) (dc : Option Addr) (sl : Array (Option Value)) (h0 : ¬(!xs.isEmpty && Builtin.List.listTooLong (xs.size + zs.size)) = true) (h1 : xs.size ≤ sizeLine) (h2 : xs.size + zs.size ≤ sizeLine + 1) :
    Meets (Builtin.«list.extend» ⟨[.ref l, .ref b], []⟩) (fun _ R s => s.heap.get? l = some { cls := .type "list", dict := none, data := .seq xs n, slots := #[] } ∧ s.heap.get? b = some { cls := .type "tuple", dict := dc, data := .seq zs k, slots := sl } ∧
      R (.ok (.ret Value.none)) { s with heap := s.heap.update l (Obj.mapSeq fun x => x ++ zs), toks := s.toks }) :=
  .of_wp fun prog w A R s h => by
    obtain ⟨hp, g, d, tk, os⟩ := s
    obtain ⟨hl, hb, h⟩ := h
    have f1 := PySem.F.sub_tuple_tuple
    have f2 := PySem.F.sub_list_list
    have f3 := PySem.F.sub_tuple_list
    have f4 := PySem.F.sub_list_tuple
    have hz : (xs ++ zs).size ≤ sizeLine + 1 := by
      rw [Array.size_append]
      exact h2
    wp_walk using (wpAny_updateSeq hl rfl (hz := h1) (_hz' := hz)), wpAny_loadPart' hl, wpAny_loadPart' hb
    exact ⟨_, rfl, h⟩
def rExtT (K : PySem.W.Frag) : V → List V → Hp → VK → Prop := fun x vs H Q => ∃ l b xs zs, x = .ref l ∧ vs = [.ref b] ∧ H l = some (.lst xs) ∧ SqT K H b zs ∧ xs.length + zs.length ≤ sizeLine ∧ Q .non (upd H l (.lst (xs ++ zs)))
theorem mt_extT {X : Cx} : MtM X "list.extend" (rExtT X.K) := by
  intro pins s σ H x vs v us Q I rx rv ⟨l, b, xs, zs, ex, evs, hH, hB, hz, q⟩
  subst ex evs
  cases rx
  obtain ⟨u, rfl, ru⟩ := rv.one
  cases ru
  obtain ⟨z, its, n, r, hl, e⟩ := I.lstM hH
  obtain ⟨jts, r2, ⟨⟨cls, dc, data, sl⟩, eb, hc, k, hd⟩, _⟩ := I.tuple hB
  simp only at hc hd
  subst hc hd
  have hl2 := r2.length
  have room : its.toArray.size + jts.toArray.size ≤ sizeLine := by rw [List.size_toArray, List.size_toArray]; omega
  have short : ¬(!its.toArray.isEmpty && Builtin.List.listTooLong (its.toArray.size + jts.toArray.size)) = true := by
    rw [notLongL room, Bool.and_false]
    exact Bool.false_ne_true
  refine call_meets F.slot_list_extend ⟨_, e, rfl⟩ F.entry_list_extend (F.args_list_extend_2 _ _) (extend_tup l b its.toArray jts.toArray n k dc sl short (by rw [List.size_toArray]; omega) (by omega)) ⟨e, eb, ?_⟩
  refine ⟨.non, _, I.lset (its' := its ++ jts) hH e (by simp) (r.append r2) ?_, rfl, q⟩
  rw [List.length_append]
  omega
end Ka
namespace Kb
open PySem PySem.Spec PyProof.Rows L2
/-! ### makings in the heap -/
abbrev MK := List (Str × Addr × List Str)
/-- names and rows alone -/
def pm (M : MK) : List (Str × List Str) := M.map fun t => (t.1, t.2.2)
theorem pm_names (M : MK) : (pm M).map (·.1) = M.map (·.1) := by
  unfold pm
  rw [List.map_map]
  rfl
def kvM (M : MK) : List (L2.Key × V) := M.map fun t => (Sum.inr t.1, V.ref t.2.1)
theorem kvM_len (M : MK) : (kvM M).length = M.length := List.length_map _
theorem kvM_keys (M : MK) : (kvM M).map (·.1) = (M.map (·.1)).map Sum.inr := by
  unfold kvM
  rw [List.map_map, List.map_map]
  rfl
/-- the rows stand -/
def Stand (H : Hp) (M : MK) : Prop := ∀ t ∈ M, H t.2.1 = some (.tup (t.2.2.map V.str))
theorem Stand.mono {H H' : Hp} {M : MK} (h : Stand H M) (s : Same H H') : Stand H' M := fun t ht => s _ _ (h t ht)
structure Fit (M : MK) : Prop where
  few : M.length ≤ 12
  nd : (M.map (·.1)).Nodup
  rows : ∀ t ∈ M, t.2.2.length ≤ 5
theorem valV_M : ∀ {M : MK}, (M.map (·.1)).Nodup → ∀ {t : Str × Addr × List Str}, t ∈ M → valV (kvM M) (Sum.inr t.1) = some (.ref t.2.1)
  | [], _, _, h => nomatch h
  | t0 :: M, nd, t, h => by
    rw [List.map_cons, List.nodup_cons] at nd
    show ((((Sum.inr t0.1 : L2.Key), V.ref t0.2.1) :: kvM M).find? fun kv => decide (kv.1 = (Sum.inr t.1 : L2.Key))).map (·.2) = _
    rw [List.find?_cons]
    rcases List.mem_cons.mp h with e | e
    · subst e
      rw [decide_eq_true rfl]
      rfl
    · have : (Sum.inr t0.1 : L2.Key) ≠ Sum.inr t.1 := fun z => nd.1 (Sum.inr.inj z ▸ List.mem_map.mpr ⟨_, e, rfl⟩)
      rw [decide_eq_false this]
      exact valV_M nd.2 e
theorem look_M {M : MK} (nd : (M.map (·.1)).Nodup) {t : Str × Addr × List Str} (h : t ∈ M) : Kf.look (pm M) t.1 = t.2.2 :=
  Kf.look_mem (by rw [pm_names]; exact nd) (List.mem_map.mpr ⟨t, h, rfl⟩)
theorem name_M {M : MK} {d : Str} (h : d ∈ M.map (·.1)) : ∃ t ∈ M, t.1 = d := by
  obtain ⟨t, ht, e⟩ := List.mem_map.mp h
  exact ⟨t, ht, e⟩
theorem Rd.mono {H H' : Hp} {a : Addr} {u : HO} (h : Rd H a u) (s : Same H H') : Rd H' a u := h.elim (fun e => .inl (s _ _ e)) fun ⟨o, e⟩ => .inr ⟨o, s _ _ e⟩
/-- d[k], a making -/
theorem get_M {H : Hp} {d : Addr} {M : MK} (h : Rd H d (.dK (kvM M))) (nd : (M.map (·.1)).Nodup) {t : Str × Addr × List Str} (ht : t ∈ M) : DGet H d (.str t.1) (some (.ref t.2.1)) :=
  .inl ⟨_, Sum.inr t.1, h, rfl, (valV_M nd ht).symm⟩
theorem mad_len {M : MK} (F : Fit M) : ∀ {zs : List Str}, (∀ z ∈ zs, z ∈ M.map (·.1)) → (Kf.mad (pm M) zs).length ≤ 5 * zs.length
  | [], _ => Nat.zero_le _
  | z :: zs, h => by
    obtain ⟨t, ht, rfl⟩ := name_M (h z List.mem_cons_self)
    rw [Kf.mad_cons, look_M F.nd ht, List.length_append, List.length_cons]
    have := F.rows t ht
    have := mad_len F (zs := zs) fun x hx => h x (List.mem_cons_of_mem _ hx)
    omega
/-- a lock for the time of a walk -/
theorem lockBut {H : Hp} {d : Addr} {o : HO} : But d H (upd H d o) := But.upd
theorem unlock {H H' : Hp} {d : Addr} {u : HO} (h : H d = some u) (k : But d H H') : Same H (upd H' d u) := fun c o e => by
  by_cases q : c = d
  · rw [q, upd_same, ← h, ← q]
    exact e
  · rw [upd_ne q]
    exact k c o q e
theorem sub_lies (us zs : List Str) : sub us zs = Kf.lies us zs := by
  symm
  apply Kf.lies_eq
  induction zs generalizing us with
  | nil => cases us <;> simp [sub]
  | cons e z ih =>
    cases us with
    | nil => simp [sub]
    | cons d u =>
      rw [sub]
      by_cases h : d = e
      · subst h
        rw [if_pos rfl, ih, List.cons_sublist_cons]
      · rw [if_neg h, ih]
        constructor
        · exact fun q => q.cons e
        · intro q
          cases q with
          | cons _ q => exact q
          | cons_cons _ q => exact absurd rfl h
end Kb
namespace Kb
open PySem PySem.Spec PyProof.Rows L2
/-! ### the error Refused -/
section
variable {P : Program} {w : World} {K : PySem.W.Frag} {mg : Str → Option Value} {base : Heap}
/-- what the written part says of the class -/
structure RefC (K : PySem.W.Frag) (mg : Str → Option Value) (C fI : Addr) (fd : FuncData) : Prop where
  oex : OexC K C
  iC : PySem.W.findIn K (.ref C) "__init__" = some (some (.ref fI))
  tI : PySem.W.typeIn K (.ref fI) = some (.type "function")
  no : PySem.W.findIn K (.ref C) "word" = some none
  gC : mg "Refused" = some (.ref C)
  F : Fun K "__init__" "Refused.__init__" sRefInit fI fd
  b : Binds K fd ["self", "word"] []
theorem scRInit : FnScope ["self", "word"] ["self", "word"] (defScope sRefInit) := ⟨rfl, rfl, rfl, by decide +kernel, rfl, by decide +kernel, by decide +kernel⟩
def spRInit (C : Addr) : Sp := fun vs H Q _ => ∃ (a : Addr) (v : V), vs = [.ref a, v] ∧ H a = some (exo a C none) ∧ ∀ dx, H dx = none → dx ≠ a → Q .non (upd (upd H dx (exd dx [("word", v)])) a (exo a C (some dx)))
theorem ok_rinit {C f : Addr} {fd : FuncData} (R : RefC K mg C f fd) : FnOk P w K mg base CX0 1 f fd ["self", "word"] (spRInit C) := by
  refine R.F.ok scRInit (fun vs H Q E h => ?_) (fun cdv A outer s H vs Q E hr h => ?_)
  · obtain ⟨a, v, rfl, _⟩ := h
    rfl
  · obtain ⟨a, v, rfl, e, q⟩ := h
    refine ⟨_, pss_one (ps_ost (pv 0) (pv 1)), ?_⟩
    exact ⟨v, rfl, .ref a, rfl, a, C, rfl, R.oex, R.no, .inl ⟨e, fun dx n1 n2 => q dx n1 n2⟩⟩
/-- the error Refused(z) -/
def RefuseW (C : Addr) (E : XK) (H : Hp) (z : Str) : Prop := ∀ H' d, Same H H' → H d = none → H' d = some (.xd [("word", .str z)]) → E (.ref C) (some d) H'
theorem RefuseW.mono {C : Addr} {E : XK} {H H1 : Hp} {z : Str} (h : RefuseW C E H z) (s : Same H H1) : RefuseW C E H1 z := fun H' d s2 nd e => h H' d (s.trans s2) (s.free nd) e
theorem refuseW_mk {C : Addr} {E : XK} {H : Hp} {z : Str} (h : RefuseW C E H z) : [V.str z].length ≤ 1000 ∧ ∀ a, H a = none → spRInit C (.ref a :: ([.str z] ++ [])) (upd H a (exo a C none))
    (fun v H2 => v = .non ∧ ∃ (d : Addr) (fs : List (Str × V)), H2 a = some (exo a C (some d)) ∧ H2 d = some (exd d fs) ∧ H d = none ∧ E (.ref C) (some d) (upd (del H2 a) d (.xd fs))) (fun _ _ _ => False) := by
  refine ⟨by show 1 ≤ 1000; decide, fun a na => ⟨a, .str z, rfl, upd_same, fun dx n1 n2 => ?_⟩⟩
  have n1' : H dx = none := by
    rw [upd_ne n2] at n1
    exact n1
  refine ⟨rfl, dx, [("word", .str z)], upd_same, ?_, n1', h _ dx (fun c o e => ?_) n1' upd_same⟩
  · rw [upd_ne n2, upd_same]
  · have ca : c ≠ a := ne_of_none e na
    have cd : c ≠ dx := ne_of_none e n1'
    rw [upd_ne cd, del_ne ca, upd_ne ca, upd_ne cd, upd_ne ca]
    exact e
end
end Kb
/-! The mathematics of needs (own text; no part of the kit). -/
namespace Kg
open Kf
variable {α : Type} [DecidableEq α]
theorem sub_same {a b : List α} (h : a.Sublist b) (hl : b.length ≤ a.length) : a = b := h.eq_of_length (Nat.le_antisymm h.length_le hl)
/-- the rows that are kept: none of those kept lies within a later one -/
def keep1 (k : List (List α)) (r : List α) : List (List α) := if k.any (fun s => lies s r) then k else k ++ [r]
def keep (O : List (List α)) : List (List α) := O.foldl keep1 []
theorem keep_snoc (O : List (List α)) (r : List α) : keep (O ++ [r]) = keep1 (keep O) r := by
  unfold keep
  rw [List.foldl_append]
  rfl
theorem keep_sub (O : List (List α)) : (keep O).Sublist O := by
  have : ∀ (r : List (List α)), (keep r.reverse).Sublist r.reverse := by
    intro r
    induction r with
    | nil => exact List.Sublist.refl _
    | cons x r ih =>
      rw [List.reverse_cons, keep_snoc]
      unfold keep1
      split
      · exact ih.trans (List.sublist_append_left _ _)
      · exact ih.append (List.Sublist.refl _)
  have h := this O.reverse
  rwa [List.reverse_reverse] at h
theorem rev_ind {β : Type} {P : List β → Prop} (h0 : P []) (h1 : ∀ l x, P l → P (l ++ [x])) : ∀ l, P l := by
  intro l
  have : ∀ r : List β, P r.reverse := by
    intro r
    induction r with
    | nil => exact h0
    | cons x r ih =>
      rw [List.reverse_cons]
      exact h1 _ _ ih
  have h := this l.reverse
  rwa [List.reverse_reverse] at h
theorem keep_cover : ∀ (O : List (List α)) {q : List α}, q ∈ O → ∃ s ∈ keep O, s.Sublist q := by
  intro O
  induction O using rev_ind with
  | h0 => exact fun h => nomatch h
  | h1 O x ih =>
    intro q hq
    rw [keep_snoc]
    unfold keep1
    rcases List.mem_append.mp hq with h | h
    · obtain ⟨s, hs, h2⟩ := ih h
      refine ⟨s, ?_, h2⟩
      split
      · exact hs
      · exact List.mem_append_left _ hs
    · rw [List.mem_singleton.mp h]
      split
      · rename_i hc
        obtain ⟨s, hs, h2⟩ := List.any_eq_true.mp hc
        exact ⟨s, hs, lies_iff.mp h2⟩
      · exact ⟨x, List.mem_append_right _ (List.mem_singleton.mpr rfl), List.Sublist.refl _⟩
/-- none lies within another, if the shorter ones come first -/
theorem keep_anti : ∀ (O : List (List α)), O.Pairwise (fun a b => a.length ≤ b.length) → (keep O).Pairwise fun a b => ¬ a.Sublist b ∧ ¬ b.Sublist a := by
  intro O
  induction O using rev_ind with
  | h0 => exact fun _ => List.Pairwise.nil
  | h1 O x ih =>
    intro hO
    rw [List.pairwise_append] at hO
    rw [keep_snoc]
    unfold keep1
    split
    · exact ih hO.1
    · rename_i hc
      rw [List.pairwise_append]
      refine ⟨ih hO.1, List.pairwise_singleton _ _, fun a ha b hb => ?_⟩
      rw [List.mem_singleton.mp hb]
      have n1 : ¬ a.Sublist x := fun h => hc (List.any_eq_true.mpr ⟨a, ha, lies_iff.mpr h⟩)
      refine ⟨n1, fun h => ?_⟩
      have hl := hO.2.2 a ((keep_sub O).subset ha) x (List.mem_singleton.mpr rfl)
      exact n1 (sub_same h hl ▸ List.Sublist.refl _)
theorem anti_eq {L : List (List α)} (h : L.Pairwise fun a b => ¬ a.Sublist b ∧ ¬ b.Sublist a) {a b : List α} (ha : a ∈ L) (hb : b ∈ L) (s : a.Sublist b) : a = b := by
  obtain ⟨i, hi, rfl⟩ := List.getElem_of_mem ha
  obtain ⟨j, hj, rfl⟩ := List.getElem_of_mem hb
  rcases Nat.lt_trichotomy i j with q | q | q
  · exact absurd s (List.pairwise_iff_getElem.mp h i j hi hj q).1
  · subst q
    rfl
  · exact absurd s (List.pairwise_iff_getElem.mp h j i hj hi q).2
theorem anti_nd {L : List (List α)} (h : L.Pairwise fun a b => ¬ a.Sublist b ∧ ¬ b.Sublist a) : L.Nodup := by
  rw [List.nodup_iff_pairwise_ne]
  refine List.Pairwise.imp ?_ h
  intro a b q e
  exact q.1 (by rw [e]; exact List.Sublist.refl _)
section
variable (m : List (α × List α)) (ns : List α)
/-- each deed of a line covers some more -/
def Line : List α → List α → Prop
  | s, [] => s = []
  | s, d :: r => d ∈ ns ∧ 0 < beg s (look m d) ∧ Line (rest m s d) r
theorem line_holds : ∀ {r s : List α}, Line m ns s r → holds m s r = true ∧ (∀ d ∈ r, d ∈ ns) ∧ r.length ≤ s.length
  | [], s, h => by
    have h : s = [] := h
    rw [holds_nil, h]
    exact ⟨rfl, (fun d hd => nomatch hd), Nat.le_refl _⟩
  | d :: r, s, h => by
    obtain ⟨h1, h2, h3⟩ := h
    obtain ⟨i1, i2, i3⟩ := line_holds h3
    refine ⟨by rw [holds_cons]; exact i1, fun x hx => ?_, ?_⟩
    · rcases List.mem_cons.mp hx with e | e
      · rw [e]; exact h1
      · exact i2 x e
    · unfold rest at i3
      rw [List.length_drop] at i3
      have := beg_le s (look m d)
      rw [List.length_cons]
      omega
/-- the least rows of names that hold a row -/
structure Good (s : List α) (L : List (List α)) : Prop where
  line : ∀ r ∈ L, Line m ns s r
  cover : ∀ q : List α, (∀ d ∈ q, d ∈ ns) → holds m s q = true → ∃ r ∈ L, r.Sublist q
  anti : L.Pairwise fun a b => ¬ a.Sublist b ∧ ¬ b.Sublist a
  few : L.length ≤ ns.length ^ s.length
theorem good_nil : Good m ns [] [[]] :=
  ⟨fun r hr => by rw [List.mem_singleton.mp hr]; rfl, fun q _ _ => ⟨[], List.mem_singleton.mpr rfl, List.nil_sublist _⟩, List.pairwise_singleton _ _, Nat.le_refl _⟩
/-- what comes into question -/
def cands (L : List α → List (List α)) (s : List α) : List (List α) := ns.flatMap fun d => if 0 < beg s (look m d) then (L (rest m s d)).map (d :: ·) else []
theorem cands_cover {s : List α} {L : List α → List (List α)} (hs : s ≠ []) (hL : ∀ d ∈ ns, 0 < beg s (look m d) → Good m ns (rest m s d) (L (rest m s d))) :
    ∀ q : List α, (∀ d ∈ q, d ∈ ns) → holds m s q = true → ∃ r ∈ cands m ns L s, r.Sublist q
  | [], _, h => by
    rw [holds_nil, decide_eq_true_iff] at h
    exact absurd h hs
  | d :: q, hn, h => by
    rw [holds_cons] at h
    have hd := hn d List.mem_cons_self
    have hq : ∀ x ∈ q, x ∈ ns := fun x hx => hn x (List.mem_cons_of_mem _ hx)
    by_cases hb : 0 < beg s (look m d)
    · obtain ⟨r, hr, hs2⟩ := (hL d hd hb).cover q hq h
      refine ⟨d :: r, List.mem_flatMap.mpr ⟨d, hd, ?_⟩, hs2.cons_cons d⟩
      rw [if_pos hb]
      exact List.mem_map.mpr ⟨r, hr, rfl⟩
    · have e : rest m s d = s := by
        unfold rest
        rw [show beg s (look m d) = 0 by omega, List.drop_zero]
      rw [e] at h
      obtain ⟨r, hr, hs2⟩ := cands_cover hs hL q hq h
      exact ⟨r, hr, hs2.cons d⟩
theorem cands_line {s : List α} {L : List α → List (List α)} (hL : ∀ d ∈ ns, 0 < beg s (look m d) → Good m ns (rest m s d) (L (rest m s d))) : ∀ r ∈ cands m ns L s, Line m ns s r := by
  intro r hr
  obtain ⟨d, hd, hr⟩ := List.mem_flatMap.mp hr
  by_cases hb : 0 < beg s (look m d)
  · rw [if_pos hb] at hr
    obtain ⟨q, hq, rfl⟩ := List.mem_map.mp hr
    exact ⟨hd, hb, (hL d hd hb).line q hq⟩
  · rw [if_neg hb] at hr
    cases hr
theorem cands_few {s : List α} {L : List α → List (List α)} (hs : s ≠ []) (hL : ∀ d ∈ ns, 0 < beg s (look m d) → Good m ns (rest m s d) (L (rest m s d))) : (cands m ns L s).length ≤ ns.length ^ s.length := by
  cases hk : s.length with
  | zero => exact absurd (List.eq_nil_of_length_eq_zero hk) hs
  | succ k =>
    by_cases h0 : ns.length = 0
    · have : ns = [] := List.eq_nil_of_length_eq_zero h0
      unfold cands
      rw [this]
      exact Nat.zero_le _
    · unfold cands
      rw [List.length_flatMap]
      have : ∀ (l : List α), (∀ d ∈ l, d ∈ ns) → (l.map fun d => (if 0 < beg s (look m d) then (L (rest m s d)).map (d :: ·) else []).length).sum ≤ l.length * ns.length ^ k := by
        intro l
        induction l with
        | nil => intro _; exact Nat.zero_le _
        | cons d l ih =>
          intro hl
          rw [List.map_cons, List.sum_cons, List.length_cons, Nat.succ_mul]
          have h1 := ih fun x hx => hl x (List.mem_cons_of_mem _ hx)
          have h2 : (if 0 < beg s (look m d) then (L (rest m s d)).map (d :: ·) else []).length ≤ ns.length ^ k := by
            by_cases hb : 0 < beg s (look m d)
            · rw [if_pos hb, List.length_map]
              refine Nat.le_trans (hL d (hl d List.mem_cons_self) hb).few (Nat.pow_le_pow_right (by omega) ?_)
              unfold rest
              rw [List.length_drop]
              omega
            · rw [if_neg hb]
              exact Nat.zero_le _
          omega
      have := this ns fun d hd => hd
      rw [Nat.pow_succ, Nat.mul_comm]
      exact this
/-- one place more -/
theorem good_step {s : List α} {L : List α → List (List α)} (hs : s ≠ []) (hL : ∀ d ∈ ns, 0 < beg s (look m d) → Good m ns (rest m s d) (L (rest m s d))) {O : List (List α)} (hO : ∀ r, r ∈ O ↔ r ∈ cands m ns L s) (hl : O.length ≤ (cands m ns L s).length) (hp : O.Pairwise fun a b => a.length ≤ b.length) : Good m ns s (keep O) := by
  refine ⟨fun r hr => cands_line m ns hL r ((hO r).mp ((keep_sub O).subset hr)), fun q hq h => ?_, keep_anti O hp, ?_⟩
  · obtain ⟨r, hr, h2⟩ := cands_cover m ns hs hL q hq h
    obtain ⟨t, ht, h3⟩ := keep_cover O ((hO r).mpr hr)
    exact ⟨t, ht, h3.trans h2⟩
  · exact Nat.le_trans (keep_sub O).length_le (Nat.le_trans hl (cands_few m ns hs hL))
end
section
variable {m : List (α × List α)} {ns : List α} {s : List α} {L : List (List α)}
/-- without one of its deeds none holds -/
theorem Good.least (g : Good m ns s L) {r q : List α} (hr : r ∈ L) (hq : q.Sublist r) (hl : q.length < r.length) : holds m s q = false := by
  rw [Bool.eq_false_iff]
  intro h
  have hn := (line_holds m ns (g.line r hr)).2.1
  obtain ⟨t, ht, h2⟩ := g.cover q (fun d hd => hn d (hq.subset hd)) h
  have := anti_eq g.anti ht hr (h2.trans hq)
  subst this
  have := h2.length_le
  omega
theorem Good.holds (g : Good m ns s L) {r : List α} (hr : r ∈ L) : Kf.holds m s r = true := (line_holds m ns (g.line r hr)).1
/-- two that are good have the same rows -/
theorem Good.mem_eq {L' : List (List α)} (g : Good m ns s L) (g' : Good m ns s L') {r : List α} (hr : r ∈ L) : r ∈ L' := by
  obtain ⟨t, ht, h2⟩ := g'.cover r (line_holds m ns (g.line r hr)).2.1 (g.holds hr)
  obtain ⟨u, hu, h3⟩ := g.cover t (line_holds m ns (g'.line t ht)).2.1 (g'.holds ht)
  have := anti_eq g.anti hu hr (h3.trans h2)
  subst this
  have e : u = t := sub_same h3 h2.length_le
  rw [e]
  exact ht
/-- a deed's own row is made by this deed alone, if it has an own one -/
theorem good_own {d : α} (nd : True) (hd : d ∈ ns) (hns : ∀ e ∈ ns, e ∈ m.map (·.1)) {x : α} (hx : Own m d x) (g : Good m ns (look m d) L) : L = [[d]] := by
  have hself : Kf.holds m (look m d) [d] = true := by
    unfold Kf.holds
    rw [mad_cons, show mad m [] = [] from rfl, List.append_nil]
    exact lies_iff.mpr (List.Sublist.refl _)
  have key : ∀ r ∈ L, r = [d] := by
    intro r hr
    have hh := g.holds hr
    have hn := (line_holds m ns (g.line r hr)).2.1
    have hdr : d ∈ r := by
      have hs := (lies_iff.mp hh).subset hx.1
      unfold mad at hs
      obtain ⟨e, he, hxe⟩ := List.mem_flatMap.mp hs
      by_cases q : e = d
      · rw [← q]; exact he
      · exact absurd hxe (hx.2 e (hns e (hn e he)) q)
    obtain ⟨t, ht, h2⟩ := g.cover [d] (fun e he => by rw [List.mem_singleton.mp he]; exact hd) hself
    have hsub : [d].Sublist r := List.singleton_sublist.mpr hdr
    have e1 := anti_eq g.anti ht hr (h2.trans hsub)
    subst e1
    exact sub_same h2 hsub.length_le
  obtain ⟨t, ht, _⟩ := g.cover [d] (fun e he => by rw [List.mem_singleton.mp he]; exact hd) hself
  have nd := anti_nd g.anti
  cases hL : L with
  | nil => rw [hL] at ht; cases ht
  | cons a l =>
    rw [hL] at key nd
    have ea := key a List.mem_cons_self
    cases l with
    | nil => rw [ea]
    | cons b l =>
      have eb := key b (List.mem_cons_of_mem _ List.mem_cons_self)
      rw [ea, eb] at nd
      exact absurd List.mem_cons_self (List.nodup_cons.mp nd).1
/-- not so if it has none -/
theorem good_bare {d : α} (hns : ∀ e, e ∈ m.map (·.1) → e ∈ ns) (hb : ∀ x, ¬ Own m d x) (g : Good m ns (look m d) L) : L ≠ [[d]] := by
  intro e
  subst e
  have hcov : ∀ s : List α, (∀ x ∈ s, ∃ f ∈ m.map (·.1), f ≠ d ∧ x ∈ look m f) → ∃ q : List α, (∀ f ∈ q, f ∈ m.map (·.1) ∧ f ≠ d) ∧ s.Sublist (mad m q) := by
    intro s
    induction s with
    | nil => intro _; exact ⟨[], (fun f hf => nomatch hf), List.nil_sublist _⟩
    | cons x s ih =>
      intro h
      obtain ⟨q, hq, hsq⟩ := ih fun y hy => h y (List.mem_cons_of_mem _ hy)
      obtain ⟨f, hf, hne, hx⟩ := h x List.mem_cons_self
      refine ⟨f :: q, fun y hy => ?_, ?_⟩
      · rcases List.mem_cons.mp hy with e | e
        · rw [e]; exact ⟨hf, hne⟩
        · exact hq y e
      · rw [mad_cons]
        exact (List.singleton_sublist.mpr hx).append hsq
  obtain ⟨q, hq, hsq⟩ := hcov (look m d) fun x hx => Classical.byContradiction fun z => hb x ⟨hx, fun f hf hne hxf => z ⟨f, hf, hne, hxf⟩⟩
  obtain ⟨r, hr, h2⟩ := g.cover q (fun f hf => hns f (hq f hf).1) (lies_iff.mpr hsq)
  rw [List.mem_singleton.mp hr] at h2
  exact (hq d (h2.subset List.mem_cons_self)).2 rfl
end
/-! ### rows that are made -/
theorem made_uniq {m : List (α × List α)} (hx : Exact m) {u v : List α} (hu : ∀ d ∈ u, d ∈ m.map (·.1)) (hv : ∀ d ∈ v, d ∈ m.map (·.1)) (e : mad m u = mad m v) : u = v := by
  have h1 := exact_back hx hu hv (e ▸ List.Sublist.refl _)
  have h2 := exact_back hx hv hu (e ▸ List.Sublist.refl _)
  exact sub_same h1 h2.length_le
end Kg
namespace Kb
open PySem PySem.Spec PyProof.Rows L2 PySem.W
/-! ### the order of rows -/
theorem le_total : TotalLe Ka.rowLe := sortLe_total (listOrd itemOrd) false fun b => keyToks (Ka.keyOf b)
theorem toks_inj : ∀ {a b : List Str}, keyToksAll (a.map PyData.str) = keyToksAll (b.map PyData.str) → a = b
  | [], [], _ => rfl
  | [], y :: b, h => by
    rw [List.map_nil, List.map_cons, keyToksAll, keyToksAll] at h
    simp at h
  | x :: a, [], h => by
    rw [List.map_nil, List.map_cons, keyToksAll, keyToksAll] at h
    simp at h
  | x :: a, y :: b, h => by
    rw [List.map_cons, List.map_cons, keyToksAll, keyToksAll, keyToks, keyToks] at h
    simp only [List.cons_append, List.nil_append, List.cons.injEq, Sum.inr.injEq, true_and] at h
    obtain ⟨h1, h2⟩ := h
    have e : x = y := by
      obtain ⟨x⟩ := x
      obtain ⟨y⟩ := y
      exact congrArg Str.mk (Array.toList_inj.mp h1)
    rw [e, toks_inj h2]
theorem le_anti {a b : List Str} (h1 : Ka.rowLe a b = true) (h2 : Ka.rowLe b a = true) : a = b := by
  have h1' : (!(listOrd itemOrd).blt (keyToks (Ka.keyOf b)) (keyToks (Ka.keyOf a))) = true := h1
  have h2' : (!(listOrd itemOrd).blt (keyToks (Ka.keyOf a)) (keyToks (Ka.keyOf b))) = true := h2
  rw [Bool.not_eq_true'] at h1' h2'
  have e := (listOrd itemOrd).total _ _ h2' h1'
  unfold Ka.keyOf Ka.rowD at e
  simp only [keyToks, keyToksAll, List.cons_append, List.nil_append, List.cons.injEq, true_and, Sum.inl.injEq] at e
  exact toks_inj (List.append_cancel_right e.2)
theorem le_len {a b : List Str} (h : a.length < b.length) : Ka.rowLe b a = false := by
  show (!dataLt (Ka.keyOf a) (Ka.keyOf b)) = false
  unfold Ka.keyOf
  rw [dataLt_pair (by simp [alike]) (by simp [alike, Ka.rowD, Ka.alike_strs]), dataLt_int]
  have hne : ¬ ((a.length : Int) = (b.length : Int)) := by omega
  have hlt : (a.length : Int) < (b.length : Int) := by omega
  simp [PyData.eqv, hne, hlt]
/-- in order, without duplicates: there is one such list -/
theorem ord_one {α : Type} {le : α → α → Bool} (anti : ∀ a b, le a b = true → le b a = true → a = b) : ∀ {l m : List α}, l.Pairwise (fun a b => le a b = true) → m.Pairwise (fun a b => le a b = true) → l.Nodup → m.Nodup → (∀ x, x ∈ l ↔ x ∈ m) → l = m
  | [], [], _, _, _, _, _ => rfl
  | [], y :: m, _, _, _, _, h => absurd ((h y).mpr List.mem_cons_self) (by simp)
  | x :: l, [], _, _, _, _, h => absurd ((h x).mp List.mem_cons_self) (by simp)
  | x :: l, y :: m, h1, h2, n1, n2, h => by
    rw [List.pairwise_cons] at h1 h2
    rw [List.nodup_cons] at n1 n2
    have e : x = y := by
      rcases List.mem_cons.mp ((h x).mp List.mem_cons_self) with e | hx
      · exact e
      · rcases List.mem_cons.mp ((h y).mpr List.mem_cons_self) with e | hy
        · exact e.symm
        · exact anti _ _ (h1.1 y hy) (h2.1 x hx)
    subst e
    have e2 : l = m := ord_one anti h1.2 h2.2 n1.2 n2.2 fun z => by
      have hz := h z
      rw [List.mem_cons, List.mem_cons] at hz
      constructor
      · intro w
        rcases hz.mp (.inr w) with e | q
        · exact absurd (e ▸ w) n1.1
        · exact q
      · intro w
        rcases hz.mpr (.inr w) with e | q
        · exact absurd (e ▸ w) n2.1
        · exact q
    rw [e2]
/-- without the later ones of each -/
def nub {α : Type} [DecidableEq α] (l : List α) : List α := l.foldl (fun acc x => if x ∈ acc then acc else acc ++ [x]) []
theorem nub_snoc {α : Type} [DecidableEq α] (l : List α) (x : α) : nub (l ++ [x]) = if x ∈ nub l then nub l else nub l ++ [x] := by
  unfold nub
  rw [List.foldl_append]
  rfl
theorem mem_nub {α : Type} [DecidableEq α] {x : α} (l : List α) : x ∈ nub l ↔ x ∈ l := by
  refine Ka.snoc_ind (P := fun l => x ∈ nub l ↔ x ∈ l) ?_ ?_ l
  · exact Iff.rfl
  · intro l y ih
    rw [nub_snoc, List.mem_append, List.mem_singleton]
    split
    · rename_i h
      constructor
      · exact fun w => .inl (ih.mp w)
      · rintro (w | rfl)
        · exact ih.mpr w
        · exact h
    · rw [List.mem_append, List.mem_singleton, ih]
theorem nub_nodup {α : Type} [DecidableEq α] (l : List α) : (nub l).Nodup := by
  refine Ka.snoc_ind (P := fun l => (nub l).Nodup) ?_ ?_ l
  · exact List.nodup_nil
  · intro l y ih
    rw [nub_snoc]
    split
    · exact ih
    · rename_i h
      rw [List.nodup_append]
      refine ⟨ih, by simp, fun a ha b hb => ?_⟩
      rw [List.mem_singleton.mp hb]
      intro e
      exact h (e ▸ ha)
/-- the rows in order, without duplicates -/
def ordR (l : List (List Str)) : List (List Str) := (nub l).mergeSort Ka.rowLe
theorem mem_ordR {x : List Str} {l : List (List Str)} : x ∈ ordR l ↔ x ∈ l := by
  unfold ordR
  rw [List.mem_mergeSort, mem_nub]
theorem ordR_ord (l : List (List Str)) : (ordR l).Pairwise (fun a b => Ka.rowLe a b = true) := sort_pairwise le_total _
theorem ordR_nodup (l : List (List Str)) : (ordR l).Nodup := (List.mergeSort_perm _ _).nodup_iff.mpr (nub_nodup l)
theorem ordR_is {l m : List (List Str)} (h1 : m.Pairwise (fun a b => Ka.rowLe a b = true)) (h2 : m.Nodup) (h3 : ∀ x, x ∈ m ↔ x ∈ l) : m = ordR l :=
  ord_one (fun _ _ => le_anti) h1 (ordR_ord l) h2 (ordR_nodup l) fun x => by rw [h3, mem_ordR]
theorem nub_ord {l : List (List Str)} (h : l.Pairwise (fun a b => Ka.rowLe a b = true)) : (nub l).Pairwise (fun a b => Ka.rowLe a b = true) := by
  revert h
  refine Ka.snoc_ind (P := fun l => l.Pairwise (fun a b => Ka.rowLe a b = true) → (nub l).Pairwise (fun a b => Ka.rowLe a b = true)) ?_ ?_ l
  · exact fun h => h
  · intro l y ih h
    rw [List.pairwise_append] at h
    rw [nub_snoc]
    split
    · exact ih h.1
    · rw [List.pairwise_append]
      exact ⟨ih h.1, List.pairwise_singleton _ _, fun a ha b hb => h.2.2 a ((mem_nub l).mp ha) b hb⟩
/-- sorted, then each once: the same -/
theorem nub_sort (l : List (List Str)) : nub (l.mergeSort Ka.rowLe) = ordR l :=
  ordR_is (nub_ord (sort_pairwise le_total _)) (nub_nodup _) fun x => by rw [mem_nub, List.mem_mergeSort]
/-! ### within, as lists -/
theorem sub_iff {α : Type} [DecidableEq α] : ∀ {u z : List α}, sub u z = true ↔ u.Sublist z
  | [], z => by
    rw [sub]
    exact ⟨fun _ => List.nil_sublist _, fun _ => rfl⟩
  | d :: u, [] => by
    rw [sub]
    exact ⟨fun h => (Bool.noConfusion h), fun h => by cases h⟩
  | d :: u, e :: z => by
    rw [sub]
    split
    · rename_i h
      subst h
      rw [List.cons_sublist_cons]
      exact sub_iff
    · rename_i h
      rw [sub_iff]
      constructor
      · exact fun w => List.Sublist.cons _ w
      · intro w
        cases w with
        | cons _ w => exact w
        | cons_cons _ w => exact absurd rfl h
theorem sub_refl {α : Type} [DecidableEq α] (u : List α) : sub u u = true := sub_iff.mpr (List.Sublist.refl u)
theorem sub_trans {α : Type} [DecidableEq α] {u v w : List α} (h1 : sub u v = true) (h2 : sub v w = true) : sub u w = true := sub_iff.mpr ((sub_iff.mp h1).trans (sub_iff.mp h2))
theorem sub_len {α : Type} [DecidableEq α] {u v : List α} (h : sub u v = true) (hn : u ≠ v) : u.length < v.length := by
  have h1 := sub_iff.mp h
  have h2 := h1.length_le
  by_cases e : u.length = v.length
  · exact absurd (h1.eq_of_length e) hn
  · omega
/-- lies within no other one -/
def great (L : List (List Str)) (r : List Str) : Bool := L.all fun o => decide (o = r) || !sub r o
def topR (l : List (List Str)) : List (List Str) := (ordR l).filter (great (ordR l))
theorem great_iff {L : List (List Str)} {r : List Str} : great L r = true ↔ ∀ o ∈ L, o ≠ r → sub r o = false := by
  unfold great
  rw [List.all_eq_true]
  constructor
  · intro h o ho hn
    have := h o ho
    rw [decide_eq_false hn, Bool.false_or] at this
    simpa using this
  · intro h o ho
    by_cases e : o = r
    · rw [decide_eq_true e]; rfl
    · rw [h o ho e, Bool.not_false, Bool.or_true]
/-- each row lies within a great one -/
theorem some_great (L : List (List Str)) (M : Nat) (hM : ∀ o ∈ L, o.length ≤ M) : ∀ (n : Nat) (r : List Str), M - r.length ≤ n → r ∈ L → ∃ g ∈ L, great L g = true ∧ sub r g = true
  | n, r, hn, hr => by
    by_cases h : great L r = true
    · exact ⟨r, hr, h, sub_refl r⟩
    · have : ∃ o ∈ L, o ≠ r ∧ sub r o = true := by
        apply Classical.byContradiction
        intro w
        refine h (great_iff.mpr fun o ho hne => ?_)
        cases e : sub r o with
        | false => rfl
        | true => exact absurd ⟨o, ho, hne, e⟩ w
      obtain ⟨o, ho, hne, hs⟩ := this
      have hl := sub_len hs (Ne.symm hne)
      have hM' := hM o ho
      cases n with
      | zero => omega
      | succ n =>
        obtain ⟨g, hg, h1, h2⟩ := some_great L M hM n o (by omega) ho
        exact ⟨g, hg, h1, sub_trans hs h2⟩
theorem all_le : ∀ L : List (List Str), ∃ M, ∀ o ∈ L, o.length ≤ M
  | [] => ⟨0, fun o h => by cases h⟩
  | x :: L => by
    obtain ⟨M, hM⟩ := all_le L
    refine ⟨x.length + M, fun o h => ?_⟩
    rcases List.mem_cons.mp h with rfl | h
    · omega
    · have := hM o h
      omega
/-- the turn of greatest_rows: behind i rows from the end -/
theorem great_turn {l : List (List Str)} {i : Nat} {r : List Str} (hi : i < (ordR l).length) (hr : (ordR l)[(ordR l).length - 1 - i]? = some r) :
    (((ordR l).drop ((ordR l).length - i)).filter (great (ordR l))).any (fun g => sub r g) = !great (ordR l) r := by
  have hrm : r ∈ ordR l := List.mem_of_getElem? hr
  have hdrop : (ordR l).drop ((ordR l).length - 1 - i) = r :: (ordR l).drop ((ordR l).length - i) := by
    rw [drop_of_get hr]
    congr 2
    omega
  have hnd : r ∉ (ordR l).drop ((ordR l).length - i) := by
    have := (ordR_nodup l).sublist (List.drop_sublist ((ordR l).length - 1 - i) _)
    rw [hdrop, List.nodup_cons] at this
    exact this.1
  cases hg : great (ordR l) r with
  | true =>
    rw [Bool.not_true, List.any_eq_false]
    intro g hgm
    rw [List.mem_filter] at hgm
    have hne : g ≠ r := fun e => hnd (e ▸ hgm.1)
    have := great_iff.mp hg g (List.mem_of_mem_drop hgm.1) hne
    rw [this]
    exact Bool.false_ne_true
  | false =>
    rw [Bool.not_false, List.any_eq_true]
    obtain ⟨M, hM⟩ := all_le (ordR l)
    obtain ⟨g, hgm, h1, h2⟩ := some_great (ordR l) M hM _ r (Nat.le_refl _) hrm
    have hne : g ≠ r := fun e => by
      rw [e] at h1
      rw [h1] at hg
      cases hg
    have hl := sub_len h2 (Ne.symm hne)
    refine ⟨g, List.mem_filter.mpr ⟨?_, h1⟩, h2⟩
    -- g stands behind r, being longer
    have hsplit : ordR l = (ordR l).take ((ordR l).length - 1 - i) ++ r :: (ordR l).drop ((ordR l).length - i) := by
      rw [← hdrop, List.take_append_drop]
    have hmem := hgm
    rw [hsplit, List.mem_append, List.mem_cons] at hmem
    rcases hmem with h | h | h
    · have hp := ordR_ord l
      rw [hsplit, List.pairwise_append] at hp
      have := hp.2.2 g h r List.mem_cons_self
      rw [le_len hl] at this
      cases this
    · exact absurd h hne
    · exact h
end Kb
namespace Kb
open PySem PySem.Spec PyProof.Rows L2
/-! ### two ways to walk -/
theorem pi_or {X : Cx} {tg e : Expr} {t u : TI} (h1 : PI X tg e t) (h2 : PI X tg e u) : PI X tg e (fun σ H R => t σ H R ∨ u σ H R) :=
  ⟨fun pins s σ H R I h => h.elim (fun w => h1.run pins s σ H R I w) fun w => h2.run pins s σ H R I w⟩
/-- a dict comprehension over a walk -/
theorem dc_it {J : It} {n : Nat} {G : Hp → Prop} {Y : Nat → Hp → V → Hp → Prop} (w : Walk J n G Y) {g : TG} {tk tv : TE} {vs : List Nat} {σ : L2.St} {H1 : Hp} {D : Addr} {Qd : Hp → Prop} (Pv : Nat → Hp → Prop) (h0 : Pv 0 (upd H1 D (.dT []))) (hG : ∀ i H, i ≤ n → Pv i H → G H)
    (hs : ∀ i x H H', i < n → Pv i H → Y i H x H' → g x (wipe σ vs) H' fun σ2 H2 => wipe σ2 vs = wipe σ vs ∧ tk σ2 H2 fun y H4 => tv σ2 H4 fun z H5 => ∃ kvs k b, y = .ref b ∧ H5 b = some (.tup (k.map kV)) ∧ H5 D = some (.dT kvs) ∧ kvs.length < sizeLine ∧ Pv (i + 1) (upd H5 D (.dT (putK kvs k z))))
    (hd : ∀ H, Pv n H → Qd H) : ∃ W : Nat → Nat → Hp → Prop, (∃ m, W 0 m (upd H1 D (.dT []))) ∧ ∀ i m H, W i m H →
      (J.stop i H ∧ Qd H) ∨ (J.go i H ∧ ∃ Nx : Hp → Prop, (∀ H', Nx H' → ∃ m', m' < m ∧ W (i + 1) m' H') ∧ ∀ x H', J.yld i H x H' → g x (wipe σ vs) H' fun σ2 H2 => wipe σ2 vs = wipe σ vs ∧
        tk σ2 H2 fun y H4 => tv σ2 H4 fun z H5 => ∃ kvs k b, y = .ref b ∧ H5 b = some (.tup (k.map kV)) ∧ H5 D = some (.dT kvs) ∧ kvs.length < sizeLine ∧ Nx (upd H5 D (.dT (putK kvs k z)))) := by
  refine ⟨fun i m H => m = n - i ∧ i ≤ n ∧ Pv i H, ⟨n, rfl, Nat.zero_le _, h0⟩, fun i m H ⟨em, hi, p⟩ => ?_⟩
  by_cases hlt : i < n
  · refine .inr ⟨w.goes i H hlt (hG i H hi p), Pv (i + 1), fun H' p' => ⟨n - (i + 1), by omega, rfl, hlt, p'⟩, fun x H' y => ?_⟩
    exact hs i x H H' hlt p (w.yields i H x H' hlt (hG i H hi p) y)
  · obtain rfl : i = n := by omega
    exact .inl ⟨w.stops H (hG i H hi p), hd H p⟩
/-! ### in_order -/
/-- rows of texts at their addresses -/
def Rows (H : Hp) (rs : List Ka.Row) : Prop := ∀ r ∈ rs, H r.1 = some (.tup (r.2.map V.str))
theorem Rows.mono {H H' : Hp} {rs : List Ka.Row} (h : Rows H rs) (s : Same H H') : Rows H' rs := fun r hr => s _ _ (h r hr)
def adV (rs : List Ka.Row) : List V := rs.map fun r => V.ref r.1
/-- the dict of the first i rows -/
def kvsN (ls : List (List Str)) : List (List L2.Key × V) := ls.map fun r => (r.map Sum.inr, V.bl true)
theorem inr_inj : ∀ {a b : List Str}, (a.map (Sum.inr : Str → L2.Key)) = b.map Sum.inr ↔ a = b
  | [], [] => by simp
  | [], _ :: _ => by simp
  | _ :: _, [] => by simp
  | x :: a, y :: b => by
    rw [List.map_cons, List.map_cons, List.cons.injEq, List.cons.injEq, inr_inj (a := a) (b := b)]
    constructor
    · rintro ⟨h1, h2⟩
      exact ⟨Sum.inr.inj h1, h2⟩
    · rintro ⟨rfl, h2⟩
      exact ⟨rfl, h2⟩
theorem kvs_put (ls : List (List Str)) (r : List Str) : putK (kvsN (nub ls)) (r.map Sum.inr) (.bl true) = kvsN (nub (ls ++ [r])) := by
  rw [nub_snoc]
  unfold putK
  have e : ((kvsN (nub ls)).any fun kv => decide (kv.1 = r.map Sum.inr)) = decide (r ∈ nub ls) := by
    unfold kvsN
    rw [List.any_map]
    by_cases h : r ∈ nub ls
    · rw [decide_eq_true h, List.any_eq_true]
      exact ⟨r, h, decide_eq_true rfl⟩
    · rw [decide_eq_false h, List.any_eq_false]
      intro x hx hc
      have hc := of_decide_eq_true hc
      exact h (inr_inj.mp hc ▸ hx)
  rw [e]
  by_cases h : r ∈ nub ls
  · rw [decide_eq_true h, if_pos rfl, if_pos h]
    unfold kvsN
    rw [List.map_map]
    apply List.map_congr_left
    intro x hx
    show (if x.map Sum.inr = r.map Sum.inr then ((x.map Sum.inr : List L2.Key), V.bl true) else (x.map Sum.inr, V.bl true)) = _
    split <;> rfl
  · rw [decide_eq_false h, if_neg Bool.false_ne_true, if_neg h]
    unfold kvsN
    rw [List.map_append]
    rfl
theorem kV_rows (r : List Str) : (r.map (Sum.inr : Str → L2.Key)).map kV = r.map V.str := by
  rw [List.map_map]
  rfl
theorem nub_len {α : Type} [DecidableEq α] (l : List α) : (nub l).length ≤ l.length := by
  refine Ka.snoc_ind (P := fun l => (nub l).length ≤ l.length) (Nat.le_refl _) (fun l x ih => ?_) l
  rw [nub_snoc, List.length_append, List.length_singleton]
  split
  · omega
  · rw [List.length_append, List.length_singleton]
    omega
/-- {row: True for row in rows} over a walk -/
theorem dc_rows {J : It} {G : Hp → Prop} {H : Hp} {rs : List Ka.Row} {x0 : V} {Q : VK} (w : Walk J (adV rs).length G (YAt (adV rs))) (hG : ∀ H', Same H H' → G H') (hR : Rows H rs) (hz : rs.length ≤ 1000)
    (q : ∀ D H2, Same H H2 → H D = none → H2 D = some (.dT (kvsN (nub (rs.map (·.2))))) → Q (.ref D) H2) : Ka.tDcT (fun _ H R => R J H) (gName 1) (tVar 1) (tC (.bl true)) [1] [some x0, none] H Q := by
  refine fun D nD => dc_it w (fun i H2 => Same H H2 ∧ H2 D = some (.dT (kvsN (nub ((rs.map (·.2)).take i))))) ⟨same_new nD, upd_same⟩ (fun i H2 _ h => hG H2 h.1) (fun i x H2 H3 hi h y => ?_) (fun H2 h => ?_)
  · obtain ⟨rfl, hx⟩ := y
    obtain ⟨sm, eD⟩ := h
    obtain ⟨r, hr, rfl⟩ := get_map hx
    have er := sm _ _ (hR r (List.mem_of_getElem? hr))
    refine ⟨rfl, .ref r.1, rfl, _, r.2.map Sum.inr, r.1, rfl, ?_, eD, ?_, fun c o e => ?_, ?_⟩
    · rw [kV_rows]
      exact er
    · unfold kvsN
      rw [List.length_map]
      refine small (Nat.le_trans (nub_len _) (Nat.le_trans (List.length_take_le _ _) ?_))
      unfold adV at hi
      rw [List.length_map] at hi
      omega
    · rw [upd_ne (ne_of_none e nD)]
      exact sm c o e
    · have hg : (rs.map (·.2))[i]? = some r.2 := by
        rw [List.getElem?_map, hr]
        rfl
      rw [upd_same, kvs_put, take_of_get hg]
  · refine q D H2 h.1 nD ?_
    have e : (rs.map (·.2)).take (adV rs).length = rs.map (·.2) := List.take_of_length_le (by unfold adV; rw [List.length_map, List.length_map]; exact Nat.le_refl _)
    have h2 := h.2
    rw [e] at h2
    exact h2
section
variable {P : Program} {w : World} {K : PySem.W.Frag} {mg : Str → Option Value} {base : Heap}
theorem scInO : FnScope ["rows", "row"] ["rows"] (defScope sInOrder) := ⟨rfl, rfl, rfl, by decide +kernel, rfl, by decide +kernel, by decide +kernel⟩
def spInO (K : PySem.W.Frag) : Sp := fun vs H Q _ => ∃ (a : Addr) (rs : List Ka.Row), vs = [.ref a] ∧ (SqL K H a (adV rs) ∨ SqT K H a (adV rs)) ∧ Rows H rs ∧ rs.length ≤ 1000 ∧
  ∀ (H' : Hp) (p : Addr) (ts : List Ka.Row), Same H H' → H p = none → H' p = some (.tup (adV ts)) → ts.map (·.2) = ordR (rs.map (·.2)) → Rows H' ts → Q (.ref p) H'
theorem inO_end {H H2 : Hp} {D fO : Addr} {rs : List Ka.Row} {Q : VK} (s2 : Same H H2) (eD : H2 D = some (.dT (kvsN (nub (rs.map (·.2))))))
    (q : ∀ (H' : Hp) (p : Addr) (ts : List Ka.Row), Same H H' → H p = none → H' p = some (.tup (adV ts)) → ts.map (·.2) = ordR (rs.map (·.2)) → Rows H' ts → Q (.ref p) H') :
    Ka.rSortK K fO [.ref D] [.ref fO] H2 fun v H3 => ∃ p ys, [v] = [V.ref p] ∧ ((SqL K H3 p ys ∧ ∀ l, H3 l = none → Q (.ref l) (upd H3 l (.tup ys))) ∨ SqT K H3 p ys ∧ Q (.ref p) H3) := by
  refine ⟨rfl, .inr ⟨D, _, nub (rs.map (·.2)), rfl, eD, ?_, fun ts p h1 h2 np => ?_⟩⟩
  · unfold kvsN
    rw [List.map_map]
    rfl
  · refine ⟨p, adV ts, rfl, .inl ⟨sqL_new upd_same, fun l nl => ?_⟩⟩
    have s3 := same_new (o := .lst (adV ts)) np
    have s4 := same_new (o := .tup (adV ts)) nl
    have sA := (s2.trans s3).trans s4
    exact q _ l ts sA ((s2.trans s3).free nl) upd_same h1 (fun r hr => (s3.trans s4) _ _ (h2 r hr))
theorem ok_inO {f fO : Addr} {fd fdO : FuncData} (F : Fun K "in_order" "in_order" sInOrder f fd) (FO : Fun K "row_order" "row_order" sOrder fO fdO) (gO : mg "row_order" = some (.ref fO)) (ml : mg "len" = none) (mt : mg "tuple" = none) (ms : mg "sorted" = none) : FnOk P w K mg base CX0 1 f fd ["rows"] (spInO K) := by
  refine F.ok scInO (fun vs H Q E h => ?_) (fun cdv A outer s H vs Q E hr h => ?_)
  · obtain ⟨a, rs, rfl, _⟩ := h
    rfl
  · obtain ⟨a, rs, rfl, hA, hR, hz, q⟩ := h
    refine ⟨_, pss_one (ps_ret (pe_callTy call_tuple_of (by rfl) mt (by decide +kernel) (pa_cons
      (pe_callBK (Ka.cr_sortRows (f := fO) rfl hr.units (fun pins s σ H I => ?_)) (by rfl) ms (by decide +kernel)
        (pa_cons (Ka.pe_dcT (own := [("row", 1)]) (g := gName 1) rfl ?_ scInO.nd (pi_or (pi_list (pv 0)) (pi_tup (pv 0))) (blkOk_by (own := [("row", 1)]) (N := ["rows", "row"]) (sc := defScope sInOrder) (by decide +kernel)) (fun _ _ _ _ _ => pg_name (i := 1) scInO.nd rfl (Or.inl rfl)) (fun _ _ _ _ _ => pv 1) (fun _ _ _ _ _ => pe_bl)) pa_nil)
        (pk_cons (pe_glob (v := .ref fO) rfl gO rfl) pk_nil)) pa_nil))), ?_⟩
    · obtain ⟨oc, od, kV, doc, pm, an, cdv2, ct, osl, rfl, lk, hcd⟩ := FO.ex
      exact Ka.keyAt_def (x := "row") (scope := defScope sOrder) (params := defArgs sOrder) I hr lk hcd ml (fun v => rfl) rfl rfl rfl (by decide +kernel) (by rfl) (by rfl) (by decide)
    · exact hu_of hr
    · rcases hA with hA | hA
      · refine .inl ⟨.ref a, rfl, a, rfl, ⟨_, hA⟩, ?_⟩
        exact dc_rows (x0 := .ref a) (Q := fun v H1 => Ka.rSortK K fO [v] [.ref fO] H1 fun v2 H3 => ∃ p ys, [v2] = [V.ref p] ∧ ((SqL K H3 p ys ∧ ∀ l, H3 l = none → Q (.ref l) (upd H3 l (.tup ys))) ∨ SqT K H3 p ys ∧ Q (.ref p) H3)) walk_list (fun H' sm => sm.seq hA) hR hz fun D H2 s2 nD eD => inO_end s2 eD q
      · refine .inr ⟨.ref a, rfl, a, rfl, ⟨_, hA⟩, ?_⟩
        exact dc_rows (x0 := .ref a) (Q := fun v H1 => Ka.rSortK K fO [v] [.ref fO] H1 fun v2 H3 => ∃ p ys, [v2] = [V.ref p] ∧ ((SqL K H3 p ys ∧ ∀ l, H3 l = none → Q (.ref l) (upd H3 l (.tup ys))) ∨ SqT K H3 p ys ∧ Q (.ref p) H3)) walk_tup (fun H' sm => Same.sqT sm hA) hR hz fun D H2 s2 nD eD => inO_end s2 eD q
end
end Kb
namespace Kg
theorem keep_more {α : Type} [DecidableEq α] (A : List (List α)) : ∀ B : List (List α), (keep A).length ≤ (keep (A ++ B)).length := by
  intro B
  induction B using rev_ind with
  | h0 => rw [List.append_nil]; exact Nat.le_refl _
  | h1 B x ih =>
    rw [← List.append_assoc, keep_snoc]
    unfold keep1
    split
    · exact ih
    · rw [List.length_append]
      omega
end Kg
namespace Kb
open PySem PySem.Spec PyProof.Rows L2
theorem adV_len (rs : List Ka.Row) : (adV rs).length = rs.length := List.length_map _
section
variable {P : Program} {w : World} {K : PySem.W.Frag} {mg : Str → Option Value} {base : Heap}
theorem scFew : FnScope ["rows", "most", "kept", "row", "shorter"] ["rows", "most"] (defScope sFew) := ⟨rfl, rfl, rfl, by decide +kernel, rfl, by decide +kernel, by decide +kernel⟩
def spFew (K : PySem.W.Frag) (C : Addr) : Sp := fun vs H Q E => ∃ (a : Addr) (m : Nat) (rs : List Ka.Row), vs = [.ref a, .int (m : Nat)] ∧ (SqL K H a (adV rs) ∨ SqT K H a (adV rs)) ∧ Rows H rs ∧ rs.length ≤ 1000 ∧
  (m < (Kg.keep (ordR (rs.map (·.2)))).length → RefuseW C E H "wide") ∧
  ((Kg.keep (ordR (rs.map (·.2)))).length ≤ m → ∀ (H' : Hp) (p : Addr) (ts : List Ka.Row), Same H H' → H p = none → H' p = some (.tup (adV ts)) → ts.map (·.2) = Kg.keep (ordR (rs.map (·.2))) → Rows H' ts → Q (.ref p) H')
theorem ok_few {f fI fO fW : Addr} {fd fdI fdO fdW : FuncData} {C fE : Addr} {fdE : FuncData} (R : RefC K mg C fE fdE) (F : Fun K "few_least_rows" "few_least_rows" sFew f fd) (FI : Fun K "in_order" "in_order" sInOrder fI fdI) (bI : Binds K fdI ["rows"] []) (gI : mg "in_order" = some (.ref fI)) (FO : Fun K "row_order" "row_order" sOrder fO fdO) (gO : mg "row_order" = some (.ref fO))
    (FW : Fun K "within" "within" sWithin fW fdW) (bW : Binds K fdW ["u", "v"] []) (gW : mg "within" = some (.ref fW)) (N : Nones mg) : FnOk P w K mg base (L2.CX P w) 3 f fd ["rows", "most"] (spFew K C) := by
  have GE : FnOk P w K mg base CX0 1 fE fdE ["self", "word"] (spRInit C) := ok_rinit R
  have GI : FnOk P w K mg base CX0 1 fI fdI ["rows"] (spInO K) := ok_inO FI FO gO N.len N.tuple N.sorted
  have GW : FnOk P w K mg base CX0 1 fW fdW ["u", "v"] (spWithin K) := ok_within FW N.iter
  refine F.okX scFew (fun vs H Q E h => ?_) (fun cdv A outer s H vs Q E hr h => ?_)
  · obtain ⟨a, m, rs, rfl, _⟩ := h
    rfl
  · obtain ⟨a, m, rs, rfl, hA, hR, hz, hwide, q⟩ := h
    have hr1 := hr.mono (show 1 ≤ 2 by decide)
    refine ⟨_, pss_cons (ps_set (i := 2) scFew.nd rfl (.inl rfl) (pe_lst pa_nil))
      (pss_cons (ps_for (passes_of rfl) rfl (pi_tup (pe_call GI hr1 (by rfl) gI FI.kp bI .nil pass0 (pa_cons (pv 0) pa_nil))) (pg_name (i := 3) scFew.nd rfl (.inr rfl))
        (pss_one (ps_if (pt_not (pt_val (pe_callB (cr_any rfl) (by rfl) N.any (by decide +kernel) (pa_cons
          (pe_lc (own := [("shorter", 4)]) (g := gName 4) (tt := tYes) rfl scFew.nd (pi_list (pv 2)) (blkOk_by (own := [("shorter", 4)]) (N := ["rows", "most", "kept", "row", "shorter"]) (sc := defScope sFew) (by decide +kernel)) (fun _ _ _ _ _ => pg_name (i := 4) scFew.nd rfl (Or.inl rfl)) (fun _ _ _ _ _ => pts_nil)
            (fun _ _ _ _ _ => pe_call GW hr1 (by rfl) gW FW.kp bW .nil pass0 (pa_cons (pv 4) (pa_cons (pv 3) pa_nil)))) pa_nil))))
          (pss_cons (ps_expr (pe_bm PySem.F.plainAttrs_list PySem.F.slot_list_append PySem.F.type_list_append mt_append (pv 2) (pa_cons (pv 3) pa_nil)))
            (pss_one (ps_if (pt_cmpR op_gt (pe_callB call_len_seq (by rfl) N.len PySem.boot_len (pa_cons (pv 2) pa_nil)) (pv 1) (nomark _))
              (pss_one (ps_raise rfl (takes_of rfl rfl rfl rfl) (pmk_oex R.oex R.iC R.tI GE hr R.b .nil pass0 (by rfl) R.gC (pa_cons pe_str pa_nil)))) pss_nil))) pss_nil)))
      (pss_one (ps_ret (pe_callTy call_tuple_of (by rfl) N.tuple (by decide +kernel) (pa_cons (pv 2) pa_nil))))), ?_⟩
    refine ⟨Nat.zero_le _, fun o no => ?_⟩
    have s0 := same_new (o := .lst []) no
    refine ⟨.ref a, rfl, a, rs, rfl, hA.imp (fun h => s0.seq h) (fun h => Same.sqT s0 h), hR.mono s0, hz, fun H1 p ts s1 np ep et hT => ?_⟩
    have eo1 : H1 o = some (.lst []) := s1 _ _ upd_same
    have hno : ∀ r ∈ ts, r.1 ≠ o := fun r hr w => by
      have := hT r hr
      rw [w, eo1] at this
      cases this
    have hpo : p ≠ o := fun w => by
      rw [w, eo1] at ep
      cases ep
    have hzt : ts.length ≤ rs.length := by
      have e1 := congrArg List.length et
      rw [List.length_map] at e1
      rw [e1]
      unfold ordR
      rw [List.length_mergeSort]
      have := nub_len (rs.map (·.2))
      rw [List.length_map] at this
      exact this
    have eL : (adV ts).length = ts.length := List.length_map _
    have up : ∀ {Z : Hp}, (∀ c u, c ≠ o → H1 c = some u → Z c = some u) → Same H Z := fun sk c u e => sk c u (ne_of_none e no) (s1 _ _ (s0 _ _ e))
    rw [← et] at hwide q
    have hmono : ∀ i, (Kg.keep ((ts.map (·.2)).take i)).length ≤ (Kg.keep (ts.map (·.2))).length := fun i => by
      have := Kg.keep_more ((ts.map (·.2)).take i) ((ts.map (·.2)).drop i)
      rwa [List.take_append_drop] at this
    refine ⟨p, rfl, ⟨_, sqT_new ep⟩, for_tup (K := K) (a := p) (xs := adV ts) (fun i σ H' => ∃ d3 ks, σ = [some (.ref a), some (.int (m : Nat)), some (.ref o), d3, none] ∧ (∀ c u, c ≠ o → H1 c = some u → H' c = some u) ∧ H' o = some (.lst (adV ks)) ∧ (∀ r ∈ ks, r ∈ ts) ∧ ks.map (·.2) = Kg.keep ((ts.map (·.2)).take i) ∧ ks.length ≤ i ∧ ks.length ≤ m)
      ⟨none, [], rfl, fun c u _ e => e, eo1, (fun r hr => by cases hr), rfl, Nat.le_refl _, Nat.zero_le _⟩ (fun i σ H' _ ⟨_, _, _, sk, _⟩ => sqT_new (sk p _ hpo ep)) (fun i x σ H3 hx h => ?_) (fun σ H' h => ?_)⟩
    · obtain ⟨d3, ks, rfl, sk, eo, hks, ek, hkl, hkm⟩ := h
      obtain ⟨r, hr, rfl⟩ := get_map hx
      have hil := lt_of_get hr
      have hrm := List.mem_of_getElem? hr
      have eR : ∀ g ∈ ts, H3 g.1 = some (.tup (g.2.map V.str)) := fun g hg => sk _ _ (hno g hg) (hT g hg)
      have hr2 : (ts.map (·.2))[i]? = some r.2 := by
        rw [List.getElem?_map, hr]
        rfl
      refine ⟨.ref o, rfl, o, rfl, ⟨_, sqL_new eo⟩, fun D nD => ?_⟩
      refine lc_list (K := K) (a := o) (xs := adV ks) (fun j H2 => Same H3 H2 ∧ H2 D = some (.lst ((ks.take j).map fun g => V.bl (sub g.2 r.2)))) ⟨same_new nD, upd_same⟩ (fun j H2 _ h2 => sqL_new (h2.1 _ _ eo)) (fun j x H2 hj h2 => ?_) (fun H2 h2 => ?_)
      · obtain ⟨g, hg, rfl⟩ := get_map hj
        obtain ⟨s2, eD⟩ := h2
        have hgm := hks g (List.mem_of_getElem? hg)
        refine ⟨rfl, ?_⟩
        refine ⟨.ref g.1, rfl, .ref r.1, rfl, g.1, r.1, g.2, r.2, rfl, sqT_new (s2 _ _ (eR g hgm)), sqT_new (s2 _ _ (eR r hrm)), fun H4 s4 => ?_⟩
        refine ⟨_, s4 _ _ eD, ?_, fun c u e => ?_, ?_⟩
        · rw [List.length_map]
          exact small (Nat.le_trans (List.length_take_le _ _) (by have := lt_of_get hg; omega))
        · rw [upd_ne (ne_of_none e nD)]
          exact s4 _ _ (s2 _ _ e)
        · rw [upd_same, take_of_get hg, List.map_append]
          rfl
      · obtain ⟨s2, eD⟩ := h2
        have e1 : ks.take (adV ks).length = ks := List.take_of_length_le (by unfold adV; rw [List.length_map]; exact Nat.le_refl _)
        rw [e1] at eD
        have eD' : H2 D = some (.lst ((ks.map fun g => sub g.2 r.2).map V.bl)) := by
          rw [eD, List.map_map]
          rfl
        have any : (ks.map fun g => sub g.2 r.2).any id = (Kg.keep ((ts.map (·.2)).take i)).any fun s => Kf.lies s r.2 := by
          rw [← ek, List.any_map, List.any_map]
          congr 1
          funext g
          exact sub_lies g.2 r.2
        refine ⟨D, _, rfl, sqL_new eD', ?_⟩
        rw [any]
        have eK := Kg.keep_snoc ((ts.map (·.2)).take i) r.2
        rw [← take_of_get hr2] at eK
        unfold Kg.keep1 at eK
        cases eg : (Kg.keep ((ts.map (·.2)).take i)).any fun s => Kf.lies s r.2 with
        | true =>
          rw [eg, if_pos rfl] at eK
          exact ⟨_, rfl, iteF ⟨_, ks, rfl, fun c u hc e => s2 _ _ (sk c u hc e), s2 _ _ eo, hks, by rw [eK]; exact ek, by omega, hkm⟩⟩
        | false =>
          rw [eg, if_neg Bool.false_ne_true] at eK
          refine ⟨_, rfl, iteT ?_⟩
          refine ⟨.ref o, rfl, .inl ⟨rfl, _, sqL_new (s2 _ _ eo)⟩, .ref r.1, rfl, o, _, _, rfl, rfl, s2 _ _ eo, ?_, ?_⟩
          · unfold adV
            rw [List.length_map]
            exact small (by omega)
          have eks : (ks ++ [r]).map (·.2) = Kg.keep ((ts.map (·.2)).take (i + 1)) := by
            rw [eK, List.map_append, ek]
            rfl
          have eo5 : upd H2 o (.lst (adV ks ++ [V.ref r.1])) o = some (.lst (adV (ks ++ [r]))) := by
            rw [upd_same]
            unfold adV
            rw [List.map_append]
            rfl
          have sk5 : ∀ c u, c ≠ o → H1 c = some u → upd H2 o (.lst (adV ks ++ [V.ref r.1])) c = some u := fun c u hc e => by rw [upd_ne hc]; exact s2 _ _ (sk c u hc e)
          generalize upd H2 o (.lst (adV ks ++ [V.ref r.1])) = H5 at eo5 sk5
          refine ⟨.ref o, rfl, o, _, rfl, .inl (sqL_new eo5), .int (m : Nat), rfl, _, _, rfl, rfl, _, rfl, ite2 (fun c => ?_) (fun c => ?_)⟩
          · have c := of_decide_eq_true c
            rw [adV_len] at c
            refine refuseW_mk ((hwide ?_).mono (up sk5))
            have h1 := hmono (i + 1)
            rw [← eks, List.length_map] at h1
            omega
          · refine ⟨_, ks ++ [r], rfl, sk5, eo5, fun g hg => ?_, eks, by rw [List.length_append, List.length_singleton]; omega, ?_⟩
            rotate_left
            · have c : ¬ ((m : Int) < ((adV (ks ++ [r])).length : Nat)) := fun z => c (decide_eq_true z)
              rw [adV_len] at c
              omega
            rcases List.mem_append.mp hg with h | h
            · exact hks g h
            · rw [List.mem_singleton.mp h]
              exact hrm
    · obtain ⟨d3, ks, rfl, sk, eo, hks, ek, hkl, hkm⟩ := h
      rw [eL, List.take_of_length_le (by rw [List.length_map]; exact Nat.le_refl _)] at ek
      have hm : (Kg.keep (ts.map (·.2))).length ≤ m := by rw [← ek, List.length_map]; exact hkm
      refine ⟨.ref o, rfl, o, _, rfl, .inl ⟨sqL_new eo, fun t nt => ?_⟩⟩
      have st := same_new (o := .tup (adV ks)) nt
      refine q hm _ t ks ((up sk).trans st) ((up sk).free nt) upd_same ek fun g hg => ?_
      have hg := hks g hg
      exact st _ _ (sk _ _ (hno g hg) (hT g hg))
end
end Kb
/-! {k: v for t0 in i0 if .. for t1 in i1 if ..}, whatever the keys are. -/
namespace Ka
open PySem PySem.Spec PyProof.Rows L2
section
variable {P : Program} {w : World} {A : Around} {R : Result → Shared → Prop} {s : Shared} {kx vx t0 i0 t1 i1 : Expr} {f0 f1 : List Expr} {sc : Scope} {ps : Pos} {it : Value} {D : Addr} {ev : Env}
/-- the expression -/
abbrev dcE (kx vx t0 i0 : Expr) (f0 : List Expr) (t1 i1 : Expr) (f1 : List Expr) (sc : Scope) (ps : Pos) : Expr :=
  .DictComp kx vx [⟨t0, i0, f0, 0⟩, ⟨t1, i1, f1, 0⟩] sc ps
/-- whether a clause's tests hold -/
abbrev testsOf (fs : List Expr) (ev : Env) : Sem Bool :=
  forIn fs true fun c r => if r = true then do let ok ← isTrue c ev (eval c ev); pure (ForInStep.yield ok) else pure (ForInStep.yield r)
abbrev Raised (P : Program) (w : World) (A : Around) (ev : Env) (R : Result → Shared → Prop) : Value → Shared → Prop :=
  notedBy (model P w) A ev fun e s' => R (.error e) s'
theorem outer_eq : compTurn (dcE kx vx t0 i0 f0 t1 i1 f1 sc ps) 0 it (.ref D) ev = (do
    standAt i0.pos
    match ← pyNext it with
    | none => pure (.done .next)
    | some v =>
      letOwnedTupleGo t0 it v
      assign t0 ev v
      let ok ← testsOf f0 ev
      if ok then
        let z ← eval i1 ev
        standAt i1.pos
        let z ← foldedSetIterable i1 ev z
        let _ ← runOwn (.compStart (dcE kx vx t0 i0 f0 t1 i1 f1 sc ps) 1 (← holding [z] (pyIter z)) (.ref D) ev) ev
      again (.compLoop (dcE kx vx t0 i0 f0 t1 i1 f1 sc ps) 0 it (.ref D) ev)) := by rfl
theorem inner_eq : compTurn (dcE kx vx t0 i0 f0 t1 i1 f1 sc ps) 1 it (.ref D) ev = (do
    standAt i1.pos
    match ← pyNext it with
    | none => pure (.done .next)
    | some v =>
      letOwnedTupleGo t1 it v
      assign t1 ev v
      let ok ← testsOf f1 ev
      if ok then
        (do
          let y ← eval kx ev
          let z ← holding [y] (eval vx ev)
          standAt { kx.pos with endLine := vx.pos.endLine, endCol := vx.pos.endCol }
          holding [y, z] (dictSet D y z))
      again (.compLoop (dcE kx vx t0 i0 f0 t1 i1 f1 sc ps) 1 it (.ref D) ev)) := by rfl
/-- a turn of the first clause -/
def OutTurn (P : Program) (w : World) (A : Around) (R : Result → Shared → Prop) (kx vx t0 i0 : Expr) (f0 : List Expr) (t1 i1 : Expr) (f1 : List Expr) (sc : Scope) (ps : Pos) (it : Value) (D : Addr) (ev : Env) (go : Shared → Prop) (s : Shared) : Prop :=
  wpAny (model P w) A (pyNext it) (fun r s1 => match r with
    | none => R (.ok .next) s1
    | some v => wpAny (model P w) A (letOwnedTupleGo t0 it v) (fun _ s2 => wpAny (model P w) A (assign t0 ev v) (fun _ s3 => wpAny (model P w) A (testsOf f0 ev) (fun ok s4 =>
        if ok = true then wpAny (model P w) A (eval i1 ev) (fun z s5 => wpAny (model P w) A (pyIter z) (fun it1 s6 => codeAny (model P w) A (.compStart (dcE kx vx t0 i0 f0 t1 i1 f1 sc ps) 1 it1 (.ref D) ev) (fun r s' => match r with
            | .ok _ => go s'
            | .error _ => False) s6) (Raised P w A ev R) s5) (Raised P w A ev R) s4
        else go s4) (Raised P w A ev R) s3) (Raised P w A ev R) s2) (Raised P w A ev R) s1) (Raised P w A ev R) s
theorem outer_loop (hs : ∀ x, foldedSetIterable i1 ev x = pure x) (I : Nat → Shared → Prop) (turn : ∀ n s, I n s → OutTurn P w A R kx vx t0 i0 f0 t1 i1 f1 sc ps it D ev (fun s' => ∃ m, m < n ∧ I m s') s) (n : Nat) (h : I n s) :
    codeAny (model P w) A (.compLoop (dcE kx vx t0 i0 f0 t1 i1 f1 sc ps) 0 it (.ref D) ev) R s := by
  refine codeAny_loop rfl I (fun n s hI => ?_) n h
  have T := turn n s hI
  show wpAny _ A ((compTurn (dcE kx vx t0 i0 f0 t1 i1 f1 sc ps) 0 it (.ref D) ev).onRaise (fun x => do noteFrame x ev; theTreesLotGoes x)) _ _ s
  refine wpAny_noted ?_
  rw [outer_eq]
  refine wpAny_bind (wpAny_standAt (wpAny_bind (wpAny_mono T (fun r a1 b1 => ?_) fun _ _ z => z)))
  cases r with
  | none => exact wpAny_pure b1
  | some v =>
    refine wpAny_bind (wpAny_mono b1 (fun _ a2 b2 => wpAny_bind (wpAny_mono b2 (fun _ a3 b3 => wpAny_bind (wpAny_mono b3 (fun ok a4 b4 => ?_) fun _ _ z => z)) fun _ _ z => z)) fun _ _ z => z)
    cases ok with
    | false => exact wpAny_pure ⟨rfl, b4⟩
    | true =>
      refine wpAny_bind (wpAny_mono b4 (fun z a5 b5 => wpAny_bind (wpAny_standAt (wpAny_bind (wpAny_of_eq (hs z) (wpAny_bind (wpAny_holding (wpAny_mono b5 (fun it1 a6 b6 => ?_) fun _ _ z => z))))))) fun _ _ z => z)
      refine wpAny_bind (wpAny_runOwn ?_)
      rw [Around.mark_none]
      refine codeAny_mono b6 fun r s' hr => ?_
      cases r with
      | error e => exact hr.elim
      | ok f => first | exact wpAny_pure ⟨rfl, hr⟩ | exact wpAny_bind (wpAny_pure (wpAny_pure ⟨rfl, hr⟩))
/-- a turn of the second -/
def InTurn (P : Program) (w : World) (A : Around) (R : Result → Shared → Prop) (kx vx t1 : Expr) (f1 : List Expr) (it : Value) (D : Addr) (ev : Env) (go : Shared → Prop) (s : Shared) : Prop :=
  wpAny (model P w) A (pyNext it) (fun r s1 => match r with
    | none => R (.ok .next) s1
    | some v => wpAny (model P w) A (letOwnedTupleGo t1 it v) (fun _ s2 => wpAny (model P w) A (assign t1 ev v) (fun _ s3 => wpAny (model P w) A (testsOf f1 ev) (fun ok s4 =>
        if ok = true then wpAny (model P w) A (eval kx ev) (fun y s5 => wpAny (model P w) A (eval vx ev) (fun z s6 => wpAny (model P w) A (dictSet D y z) (fun _ s7 => go s7) (Raised P w A ev R) s6) (Raised P w A ev R) s5) (Raised P w A ev R) s4
        else go s4) (Raised P w A ev R) s3) (Raised P w A ev R) s2) (Raised P w A ev R) s1) (Raised P w A ev R) s
theorem inner_loop (I : Nat → Shared → Prop) (turn : ∀ n s, I n s → InTurn P w A R kx vx t1 f1 it D ev (fun s' => ∃ m, m < n ∧ I m s') s) (n : Nat) (h : I n s) :
    codeAny (model P w) A (.compLoop (dcE kx vx t0 i0 f0 t1 i1 f1 sc ps) 1 it (.ref D) ev) R s := by
  refine codeAny_loop rfl I (fun n s hI => ?_) n h
  have T := turn n s hI
  show wpAny _ A ((compTurn (dcE kx vx t0 i0 f0 t1 i1 f1 sc ps) 1 it (.ref D) ev).onRaise (fun x => do noteFrame x ev; theTreesLotGoes x)) _ _ s
  refine wpAny_noted ?_
  rw [inner_eq]
  refine wpAny_bind (wpAny_standAt (wpAny_bind (wpAny_mono T (fun r a1 b1 => ?_) fun _ _ z => z)))
  cases r with
  | none => exact wpAny_pure b1
  | some v =>
    refine wpAny_bind (wpAny_mono b1 (fun _ a2 b2 => wpAny_bind (wpAny_mono b2 (fun _ a3 b3 => wpAny_bind (wpAny_mono b3 (fun ok a4 b4 => ?_) fun _ _ z => z)) fun _ _ z => z)) fun _ _ z => z)
    cases ok with
    | false => exact wpAny_pure ⟨rfl, b4⟩
    | true =>
      exact wpAny_bind (wpAny_bind (wpAny_mono b4 (fun y a5 b5 => wpAny_bind (wpAny_holding (wpAny_mono b5 (fun z a6 b6 => wpAny_bind (wpAny_standAt (wpAny_holding (wpAny_mono b6 (fun _ a7 b7 => wpAny_pure ⟨rfl, b7⟩) fun _ _ z => z)))) fun _ _ z => z))) fun _ _ z => z))
/-- the second clause begins -/
theorem inner_start (h0 : codeAny (model P w) A (.compLoop (dcE kx vx t0 i0 f0 t1 i1 f1 sc ps) 1 it (.ref D) ev) R s)
    (h : wpAny (model P w) A (pyIter it) (fun j s' => codeAny (model P w) A (.compLoop (dcE kx vx t0 i0 f0 t1 i1 f1 sc ps) 1 j (.ref D) ev) R s') (Raised P w A ev R) s) :
    codeAny (model P w) A (.compStart (dcE kx vx t0 i0 f0 t1 i1 f1 sc ps) 1 it (.ref D) ev) R s := by
  refine codeAny_of_tree ?_
  show wpAny _ _ ((compStart (dcE kx vx t0 i0 f0 t1 i1 f1 sc ps) 1 it (.ref D) ev).onRaise (fun x => do noteFrame x ev; standAt theWindowsPlace)) _ _ s
  refine wpAny_notedAt ?_
  unfold compStart
  show wpAny _ _ (ask >>= _) _ _ s
  refine wpAny_bind (wpAny_askSetting (wpAny_ite ?_))
  have l1 : ∀ (j : Value) (s' : Shared), codeAny (model P w) A (.compLoop (dcE kx vx t0 i0 f0 t1 i1 f1 sc ps) 1 j (.ref D) ev) R s' → codeAny (model P w) A (.compLoop (dcE kx vx t0 i0 f0 t1 i1 f1 sc ps) 1 j (.ref D) ev) R s' := fun _ _ z => z
  split
  · first | exact wpAny_pure ⟨rfl, h0⟩ | exact wpAny_bind (wpAny_pure (wpAny_pure ⟨rfl, h0⟩))
  · refine wpAny_bind (wpAny_rule ?_)
    first
      | exact wpAny_bind (wpAny_standAt (wpAny_bind (wpAny_mono h (fun j s' z => wpAny_pure ⟨rfl, z⟩) fun _ _ z => z)))
      | (show wpAny _ _ (standAt i1.pos >>= _) _ _ s; exact wpAny_bind (wpAny_standAt (wpAny_bind (wpAny_mono h (fun j s' z => wpAny_pure ⟨rfl, z⟩) fun _ _ z => z))))
end
/-- what is stored: o0 an empty dict, up what it takes to put a key and a value into the dict at an address -/
structure Store (X : Cx) (o0 : HO) (up : Addr → V → V → Hp → (Hp → Prop) → Prop) : Prop where
  fresh : ∀ {pins : List (Addr × Obj)} {σ : L2.St} {H : Hp} {s : Shared}, Inv X pins σ H s → Inv X pins σ (upd H s.heap.objs.size o0) { s with heap := s.heap.push { cls := .type "dict", data := .dict #[] } }
  put : ∀ {Z : Cx} {pins : List (Addr × Obj)} {σ : L2.St} {H : Hp} {s : Shared} {E : Value → Shared → Prop} {D : Addr} {y z : V} {u r : Value} {Nx : Hp → Prop} {Q : Unit → Shared → Prop}, Z.A = X.A → Inv Z pins σ H s → RelV y u → RelV z r → up D y z H Nx →
    (∀ H' s', Inv Z pins σ H' s' → Nx H' → Q () s') → wpAny (model Z.prog Z.w) Z.A (dictSet D u r) Q E s
/-- keys numbers or texts -/
def upK : Addr → V → V → Hp → (Hp → Prop) → Prop := fun D y z H Nx => ∃ kvs k, y = kV k ∧ H D = some (.dK kvs) ∧ kvs.length < sizeLine ∧ Nx (upd H D (.dK (putK kvs k z)))
/-- keys tuples of them -/
def upT : Addr → V → V → Hp → (Hp → Prop) → Prop := fun D y z H Nx => ∃ kvs k b, y = .ref b ∧ H b = some (.tup (k.map kV)) ∧ H D = some (.dT kvs) ∧ kvs.length < sizeLine ∧ Nx (upd H D (.dT (putK kvs k z)))
theorem storeK {X : Cx} : Store X (.dK []) upK where
  fresh := fun {pins σ H s} I => I.laid (t' := s.toks) (fun b o z => Heap.get?_push_of_some _ z) (Nat.le_refl _) (dk_empty s.heap I.big)
  put := fun _ I ry rz ⟨kvs, k, ey, hD, hz, nx⟩ q => by
    subst ey
    exact d_dictSet I hD hz ry rz fun s' I' => q _ s' I' nx
theorem storeT {X : Cx} (hu : X.A.units + 1 < cLine) : Store X (.dT []) upT where
  fresh := fun {pins σ H s} I => I.laid (t' := s.toks) (fun b o z => Heap.get?_push_of_some _ z) (Nat.le_refl _) (dt_empty s.heap I.big)
  put := fun e I ry rz ⟨kvs, k, b, ey, hb, hD, hz, nx⟩ q => by
    subst ey
    exact dT_set (by rw [e]; exact hu) I hD hz hb ry rz fun s' I' => q _ s' I' nx
/-- the turns of the second clause, from which Nx is reached -/
def InP (up : Addr → V → V → Hp → (Hp → Prop) → Prop) (D : Addr) (g1 : TG) (tt1 : TT) (tk tv : TE) (vs1 : List Nat) (τ : L2.St) (Nx : Hp → Prop) (J : It) (H0 : Hp) : Prop :=
  ∃ W : Nat → Nat → Hp → Prop, (∃ m, W 0 m H0) ∧ ∀ j k H, W j k H → (J.stop j H ∧ Nx H) ∨ (J.go j H ∧ ∃ N1 : Hp → Prop, (∀ H', N1 H' → ∃ k', k' < k ∧ W (j + 1) k' H') ∧
    ∀ x H', J.yld j H x H' → g1 x (wipe τ vs1) H' fun τ2 H5 => wipe τ2 vs1 = wipe τ vs1 ∧ tt1 τ2 H5 fun b H6 => if b = true then tk τ2 H6 fun y H7 => tv τ2 H7 fun z H8 => up D y z H8 N1 else N1 H6)
/-- {k: v for target in iter if .. for target in iter if ..} -/
def tDc2 (o0 : HO) (up : Addr → V → V → Hp → (Hp → Prop) → Prop) (wi : TI) (g : TG) (tt : TT) (wi1 : TI) (g1 : TG) (tt1 : TT) (tk tv : TE) (vs vs1 : List Nat) : TE := fun σ H Q => wi σ H fun J H1 => ∀ D, H1 D = none →
  ∃ W : Nat → Nat → Hp → Prop, (∃ m, W 0 m (upd H1 D o0)) ∧ ∀ i m H, W i m H → (J.stop i H ∧ Q (.ref D) H) ∨ (J.go i H ∧ ∃ Nx : Hp → Prop, (∀ H', Nx H' → ∃ m', m' < m ∧ W (i + 1) m' H') ∧
    ∀ x H', J.yld i H x H' → g x (wipe σ vs) H' fun τ H2 => wipe τ vs = wipe σ vs ∧ tt τ H2 fun b H3 => if b = true then wi1 τ H3 fun J1 H4 => InP up D g1 tt1 tk tv vs1 τ Nx J1 H4 else Nx H3)
section
variable {X : Cx}
/-- a block's part, for any frame that it may get -/
abbrev inB (X : Cx) (sc : Scope) (s : Shared) (H : Hp) (C : Addr) (cl : List (Str × Addr)) (fp : List Addr) : Cx := X.blk s H sc (compEnvC sc cl C X.env) fp
theorem keep_out {σ τ : L2.St} {vs vs1 : List Nat} (hv : ∀ i ∈ vs1, i ∈ vs) (e : wipe τ vs = wipe σ vs) {j : Nat} {v : V} (h : (wipe σ vs)[j]? = some (some v)) : (wipe τ vs1)[j]? = some (some v) := by
  rw [← e] at h
  have h2 := wipe_some h
  rw [wipe_out fun z => h2.2 (hv j z)]
  exact h2.1
/-- what stands between two turns of a clause -/
def Btw (Z : Cx) (pins : List (Addr × Obj)) (fp : List Addr) (tn : Nat → Heap → Prop) (τ : L2.St) (W : Nat → Nat → Hp → Prop) (n : Nat) (s : Shared) : Prop :=
  ∃ i H, Inv Z pins τ H s ∧ tn i s.heap ∧ (∀ b ∈ fp, H b = none) ∧ W i n H
/-- from a turn to the next -/
theorem btw_next {Z : Cx} {pins : List (Addr × Obj)} {t : Expr} {J : It} {fp : List Addr} {it : Addr} {tn : Nat → Heap → Prop} {h : Heap} (T : Turn Z.prog Z.w Z.K t J fp it tn) {τ τ2 : L2.St} {W : Nat → Nat → Hp → Prop} {i n m : Nat} {H : Hp} {s : Shared} (sth : tn (i + 1) h)
    (I : Inv Z (pins ++ pinsAt fp h) τ2 H s) (hl : τ.length = τ2.length) (hk : ∀ (j : Nat) v, τ[j]? = some (some v) → τ2[j]? = some (some v)) (hm : m < n) (w : W (i + 1) m H) : ∃ m, m < n ∧ Btw Z pins fp tn τ W m s := by
  have pin : ∀ b ∈ fp, ∀ o, h.get? b = some o → s.heap.get? b = some o ∧ H b = none := fun b hb o e =>
    let z := I.pin (b, o) (List.mem_append_right _ (List.mem_append_right _ (mem_pinsAt hb e)))
    ⟨z.1, z.2.1⟩
  refine ⟨m, hm, i + 1, H, (I.unpinned (pins := pins)).weak hl hk, T.keep _ _ _ sth fun b hb o e => (pin b hb o e).1, fun b hb => ?_, w⟩
  obtain ⟨o, e, _⟩ := T.obj _ _ sth b hb
  exact (pin b hb o e).2
theorem len_of {τ τ2 : L2.St} {vs : List Nat} (e : wipe τ2 vs = wipe τ vs) : (wipe τ vs).length = τ2.length := by rw [← e, wipe_length]
theorem knows_of {τ τ2 : L2.St} {vs : List Nat} (e : wipe τ2 vs = wipe τ vs) (j : Nat) (v : V) (h : (wipe τ vs)[j]? = some (some v)) : τ2[j]? = some (some v) := by
  rw [← e] at h
  exact (wipe_some h).1
theorem in_turn {Z : Cx} {R : Result → Shared → Prop} {kx vx t1 : Expr} {f1 : List Expr} {o0 : HO} {up : Addr → V → V → Hp → (Hp → Prop) → Prop} (st : Store X o0 up) (zA : Z.A = X.A) (hE : Z.xe = fun _ _ => False) (hc : Z.calm = true) {D : Addr} {J1 : It} {fp1 : List Addr} {it1 : Addr} {tn1 : Nat → Heap → Prop} (T1 : Turn Z.prog Z.w Z.K t1 J1 fp1 it1 tn1)
    {τ : L2.St} {vs1 : List Nat} {pins : List (Addr × Obj)} {Nx : Hp → Prop} {W1 : Nat → Nat → Hp → Prop} {g1 : TG} {tt1 : TT} {tk tv : TE} (pg1 : PG Z t1 g1) (pt1 : PTs Z f1 tt1) (pk : PE Z kx tk) (px : PE Z vx tv) (far : ∀ {H' : Hp}, (∀ b ∈ fp1, H' b = none) → ∀ b ∈ fp1, FpOk Z pins H' b)
    (turn : ∀ j k H, W1 j k H → (J1.stop j H ∧ Nx H) ∨ (J1.go j H ∧ ∃ N1 : Hp → Prop, (∀ H', N1 H' → ∃ k', k' < k ∧ W1 (j + 1) k' H') ∧
      ∀ x H', J1.yld j H x H' → g1 x (wipe τ vs1) H' fun τ2 H5 => wipe τ2 vs1 = wipe τ vs1 ∧ tt1 τ2 H5 fun b H6 => if b = true then tk τ2 H6 fun y H7 => tv τ2 H7 fun z H8 => up D y z H8 N1 else N1 H6))
    (fin : ∀ {H' : Hp} {s' : Shared}, Inv Z pins (wipe τ vs1) H' s' → Nx H' → R (.ok .next) s') (k : Nat) (s : Shared) (h : Btw Z pins fp1 tn1 (wipe τ vs1) W1 k s) :
    InTurn Z.prog Z.w Z.A R kx vx t1 f1 (.ref it1) D Z.env (fun s' => ∃ m, m < k ∧ Btw Z pins fp1 tn1 (wipe τ vs1) W1 m s') s := by
  obtain ⟨j, H, I, stj, no, w⟩ := h
  rcases turn j k H w with ⟨stop, nx⟩ | ⟨go, N1, hN, step⟩
  · refine thnF (T1.done Z rfl rfl rfl hc j _ s _ H (fun _ _ => False) I (far no) stj stop) fun r a1 ⟨hr, I1⟩ => ?_
    subst hr
    exact fin I1 nx
  · refine thnF (T1.item Z rfl rfl rfl hc j _ s _ H (fun _ _ => False) I (far no) stj go) fun r a1 ⟨u, hr, h1⟩ => ?_
    subst hr
    refine thnF h1 fun _ a2 ⟨x, H2, I2, r2, y2, st2, n2⟩ => ?_
    have I2' := I2.pinned (far n2) (T1.obj _ _ st2)
    have b3 := pg1.run _ a2 _ H2 x u _ I2' r2 (step x H2 y2)
    rw [hE] at b3
    refine thnF b3 fun _ a3 ⟨τ2, H3, I3, e3, q3⟩ => ?_
    have b4 := pt1.run _ a3 τ2 H3 _ I3 q3
    rw [hE] at b4
    refine thnF b4 fun b a4 ⟨H4, I4, q4⟩ => ?_
    have next : ∀ {H' : Hp} {s' : Shared}, Inv Z (pins ++ pinsAt fp1 a2.heap) τ2 H' s' → N1 H' → ∃ m, m < k ∧ Btw Z pins fp1 tn1 (wipe τ vs1) W1 m s' := fun I' n' => by
      obtain ⟨m, hm, w'⟩ := hN _ n'
      exact btw_next T1 st2 I' (len_of e3) (knows_of e3) hm w'
    cases b with
    | false =>
      rw [if_neg Bool.false_ne_true] at q4 ⊢
      exact next I4 q4
    | true =>
      rw [if_pos rfl] at q4 ⊢
      have b5 := pk.run _ a4 τ2 H4 _ I4 q4
      rw [hE] at b5
      refine thnF b5 fun v5 a5 ⟨y, H5, I5, r5, q5⟩ => ?_
      have b6 := px.run _ a5 τ2 H5 _ I5 q5
      rw [hE] at b6
      refine thnF b6 fun v6 a6 ⟨z, H6, I6, r6, q6⟩ => ?_
      exact st.put zA I6 r5 r6 q6 fun H' s' I' n' => next I' n'
theorem out_turn {Z : Cx} {R : Result → Shared → Prop} {kx vx t0 i0 t1 i1 : Expr} {f0 f1 : List Expr} {sc : Scope} {ps : Pos} {o0 : HO} {up : Addr → V → V → Hp → (Hp → Prop) → Prop} (st : Store X o0 up) (zA : Z.A = X.A) (hE : Z.xe = fun _ _ => False) (hc : Z.calm = true) {D : Addr} {J : It} {fp : List Addr} {it : Addr} {tn : Nat → Heap → Prop} (T : Turn Z.prog Z.w Z.K t0 J fp it tn)
    {σ : L2.St} {vs vs1 : List Nat} (hv : ∀ i ∈ vs1, i ∈ vs) {Qd : Hp → Prop} {W : Nat → Nat → Hp → Prop} {wi1 : TI} {g g1 : TG} {tt tt1 : TT} {tk tv : TE} (pg : PG Z t0 g) (pt : PTs Z f0 tt) (pi1 : PI Z t1 i1 wi1) (pg1 : PG Z t1 g1) (pt1 : PTs Z f1 tt1) (pk : PE Z kx tk) (px : PE Z vx tv)
    (far : ∀ {τ' : L2.St} {H' : Hp} {s' : Shared}, Inv Z [] τ' H' s' → (∀ b ∈ fp, H' b = none) → ∀ b ∈ fp, FpOk Z [] H' b)
    (turn : ∀ i m H, W i m H → (J.stop i H ∧ Qd H) ∨ (J.go i H ∧ ∃ Nx : Hp → Prop, (∀ H', Nx H' → ∃ m', m' < m ∧ W (i + 1) m' H') ∧
      ∀ x H', J.yld i H x H' → g x (wipe σ vs) H' fun τ H2 => wipe τ vs = wipe σ vs ∧ tt τ H2 fun b H3 => if b = true then wi1 τ H3 fun J1 H4 => InP up D g1 tt1 tk tv vs1 τ Nx J1 H4 else Nx H3))
    (fin : ∀ {H' : Hp} {s' : Shared}, Inv Z [] (wipe σ vs) H' s' → Qd H' → R (.ok .next) s') (n : Nat) (s : Shared) (h : Btw Z [] fp tn (wipe σ vs) W n s) :
    OutTurn Z.prog Z.w Z.A R kx vx t0 i0 f0 t1 i1 f1 sc ps (.ref it) D Z.env (fun s' => ∃ m, m < n ∧ Btw Z [] fp tn (wipe σ vs) W m s') s := by
  obtain ⟨i, H, I, sti, no, w⟩ := h
  rcases turn i n H w with ⟨stop, qd⟩ | ⟨go, Nx, hN, step⟩
  · refine thnF (T.done Z rfl rfl rfl hc i _ s _ H (fun _ _ => False) I (far I no) sti stop) fun r a1 ⟨hr, I1⟩ => ?_
    subst hr
    exact fin I1 qd
  · refine thnF (T.item Z rfl rfl rfl hc i _ s _ H (fun _ _ => False) I (far I no) sti go) fun r a1 ⟨u, hr, h1⟩ => ?_
    subst hr
    refine thnF h1 fun _ a2 ⟨x, H2, I2, r2, y2, st2, n2⟩ => ?_
    have I2' := I2.pinned (far I2 n2) (T.obj _ _ st2)
    have b3 := pg.run _ a2 _ H2 x u _ I2' r2 (step x H2 y2)
    rw [hE] at b3
    refine thnF b3 fun _ a3 ⟨τ, H3, I3, e3, q3⟩ => ?_
    have b4 := pt.run _ a3 τ H3 _ I3 q3
    rw [hE] at b4
    refine thnF b4 fun b a4 ⟨H4, I4, q4⟩ => ?_
    have next : ∀ {τ2 : L2.St} {H' : Hp} {s' : Shared}, Inv Z ([] ++ pinsAt fp a2.heap) τ2 H' s' → (wipe σ vs).length = τ2.length → (∀ (j : Nat) v, (wipe σ vs)[j]? = some (some v) → τ2[j]? = some (some v)) → Nx H' → ∃ m, m < n ∧ Btw Z [] fp tn (wipe σ vs) W m s' := fun I' hl hk n' => by
      obtain ⟨m, hm, w'⟩ := hN _ n'
      exact btw_next T st2 I' hl hk hm w'
    cases b with
    | false =>
      rw [if_neg Bool.false_ne_true] at q4 ⊢
      exact next I4 (len_of e3) (knows_of e3) q4
    | true =>
      rw [if_pos rfl] at q4 ⊢
      have b5 := pi1.run _ a4 τ H4 _ I4 q4
      rw [hE] at b5
      refine thnF b5 fun xv a5 h5 => thnF h5 fun itv a6 ⟨it1, fp1, tn1, J1, H6, e6, I6, T1, st6, f6, W1, ⟨m1, w1⟩, turn1⟩ => ?_
      subst e6
      have loop := inner_loop (t0 := t0) (i0 := i0) (i1 := i1) (f0 := f0) (sc := sc) (ps := ps) (P := Z.prog) (w := Z.w) (A := Z.A) (kx := kx) (vx := vx) (t1 := t1) (f1 := f1) (it := .ref it1) (D := D) (ev := Z.env)
        (R := fun r s' => match r with
          | .ok _ => ∃ m, m < n ∧ Btw Z [] fp tn (wipe σ vs) W m s'
          | .error _ => False)
        (Btw Z ([] ++ pinsAt fp a2.heap) fp1 tn1 (wipe τ vs1) W1)
        (in_turn st zA hE hc T1 (Nx := Nx) pg1 pt1 pk px (fun hn b hb => ⟨hn b hb, (f6 b hb).2⟩) turn1 (fun I' nx => next I' ((len_of e3).trans (wipe_length τ vs1).symm) (fun j v z => keep_out hv e3 z) nx))
        m1 (s := a6) ⟨0, H6, I6.weak (wipe_length _ _) (fun j v z => (wipe_some z).1), st6, fun b hb => (f6 b hb).1, w1⟩
      exact inner_start loop (T1.self _ _ _ _ _ st6 loop)
theorem pe_dc2 {kx vx t0 i0 t1 i1 : Expr} {f0 f1 : List Expr} {sc : Scope} {own : List (Str × Nat)} {vs1 : List Nat} {ps : Pos} {o0 : HO} {up : Addr → V → V → Hp → (Hp → Prop) → Prop} {wi wi1 : TI} {g g1 : TG} {tt tt1 : TT} {tk tv : TE} (st : Store X o0 up) (hc : X.calm = true) (hN : X.N.Nodup) (hi : PI X t0 i0 wi) (ok : BlkOk X.N X.env.scope sc own) (hv : ∀ i ∈ vs1, i ∈ own.map (·.2))
    (hg : ∀ s H C cl fp, PG (inB X sc s H C cl fp) t0 g) (ht : ∀ s H C cl fp, PTs (inB X sc s H C cl fp) f0 tt) (hi1 : ∀ s H C cl fp, PI (inB X sc s H C cl fp) t1 i1 wi1) (hg1 : ∀ s H C cl fp, PG (inB X sc s H C cl fp) t1 g1) (ht1 : ∀ s H C cl fp, PTs (inB X sc s H C cl fp) f1 tt1) (hk : ∀ s H C cl fp, PE (inB X sc s H C cl fp) kx tk) (hx : ∀ s H C cl fp, PE (inB X sc s H C cl fp) vx tv)
    (hs : ∀ x, foldedSetIterable i0 X.env x = pure x := by intro _; rfl) (hs1 : ∀ ev x, foldedSetIterable i1 ev x = pure x := by intro _ _; rfl) : PE X (dcE kx vx t0 i0 f0 t1 i1 f1 sc ps) (tDc2 o0 up wi g tt wi1 g1 tt1 tk tv (own.map (·.2)) vs1) := by
  refine ⟨fun pins s σ H Q I h => ?_⟩
  rw [arm_eval_DictComp]
  have free : ∀ y ∈ sc.names, y.2 = .free → ∃ c, X.env.cells.lookup y.1 = some c := fun y hy e => (ok.free y hy e).elim (fun k => I.ok.has _ (.inl k)) (fun k => I.ok.has _ (.inr k))
  refine wpAny_comprehension_free rfl hs (closure_ok free) ok.kind (fun y hy e => by rw [ok.uniq y hy, e]) (thn (hi.run pins s σ H _ I h) fun _ s1 hx1 => thn hx1 fun _ s2 ⟨it, fp, tn, J, H2, e, I2, T, st2, f2, q⟩ => ?_)
  subst e
  refine wpAny_newObj_type (newEnv_comp ?_)
  have I3 := st.fresh I2
  generalize hD : s2.heap.objs.size = D at I3
  have nD : H2 D = none := I2.hok.fresh (Nat.le_of_eq hD)
  obtain ⟨W, ⟨m0, w0⟩, turn⟩ := q D nD
  generalize hs3 : ({ s2 with heap := s2.heap.push { cls := .type "dict", data := .dict #[] } } : Shared) = s3 at I3
  have h3 : s3.heap = s2.heap.push { cls := .type "dict", data := .dict #[] } := by rw [← hs3]
  have f3 : ∀ b ∈ fp, FpOk X pins (upd H2 D o0) b ∧ b < s3.heap.objs.size := fun b hb => by
    obtain ⟨o, e, _⟩ := T.obj _ _ st2 b hb
    have lt : b < s2.heap.objs.size := Heap.lt_size e
    exact ⟨⟨by rw [upd_ne (by rw [← hD]; exact Nat.ne_of_lt lt)]; exact (f2 b hb).1, (f2 b hb).2⟩, by rw [h3, Heap.size_push]; exact Nat.lt_succ_of_lt lt⟩
  have I4 := block_start I3 ok hN f3
  generalize hcl : cellsFrom (s3.heap.objs.size + 1) sc.names (cloFrom X.env.cells sc.names []) = cl at I4
  have pg := hg s3 (upd H2 D o0) s3.heap.objs.size cl fp
  have pt := ht s3 (upd H2 D o0) s3.heap.objs.size cl fp
  have pi1 := hi1 s3 (upd H2 D o0) s3.heap.objs.size cl fp
  have pg1 := hg1 s3 (upd H2 D o0) s3.heap.objs.size cl fp
  have pt1 := ht1 s3 (upd H2 D o0) s3.heap.objs.size cl fp
  have pk := hk s3 (upd H2 D o0) s3.heap.objs.size cl fp
  have px := hx s3 (upd H2 D o0) s3.heap.objs.size cl fp
  dsimp only [inB] at pg pt pi1 pg1 pt1 pk px
  show codeAny _ _ (.compStart (dcE kx vx t0 i0 f0 t1 i1 f1 sc ps) 0 (.ref it) (.ref D) (compEnvC sc cl s3.heap.objs.size X.env)) (compPost (model X.prog X.w) X.A X.xe none (EP X pins σ Q) (.ref D) s3.heap.objs.size) { s3 with heap := pushCells (s3.heap.push { cls := .type "dict", data := .dict #[] }) sc.names }
  generalize hce : compEnvC sc cl s3.heap.objs.size X.env = ce at I4 pg pt pi1 pg1 pt1 pk px ⊢
  have cL : ce.locals = s3.heap.objs.size := by subst hce; rfl
  generalize hH3 : upd H2 D o0 = H3 at I3 I4 pg pt pi1 pg1 pt1 pk px w0 f3
  generalize hs4 : ({ s3 with heap := pushCells (s3.heap.push { cls := .type "dict", data := .dict #[] }) sc.names } : Shared) = s4 at I4 ⊢
  have st4 : tn 0 s4.heap := T.keep _ _ _ st2 fun b _ o z => by
    rw [← hs4]
    exact pushCells_keeps _ _ _ _ (Heap.get?_push_of_some _ (by rw [h3]; exact Heap.get?_push_of_some _ z))
  have far : ∀ {τ : L2.St} {H' : Hp} {s' : Shared}, Inv (X.blk s3 H3 sc ce fp) [] τ H' s' → (∀ b ∈ fp, H' b = none) → ∀ b ∈ fp, FpOk (X.blk s3 H3 sc ce fp) [] H' b := fun J' hn b hb =>
    ⟨hn b hb, (J'.ok.exf b hb).1, J'.ok.exfs b hb, .inl hb, fun x c z => (J'.ok.exf b hb).2 x c z, fun p hp => absurd (show p ∈ ([] : List (Addr × Obj)) ++ [] from hp) (by simp)⟩
  have loop : codeAny (model X.prog X.w) X.A (.compLoop (dcE kx vx t0 i0 f0 t1 i1 f1 sc ps) 0 (.ref it) (.ref D) ce) (compPost (model X.prog X.w) X.A X.xe none (EP X pins σ Q) (.ref D) s3.heap.objs.size) s4 := by
    refine outer_loop (hs1 ce) (Btw (X.blk s3 H3 sc ce fp) [] fp tn (wipe σ (own.map (·.2))) W) (fun n s' b => ?_) m0 ⟨0, H3, I4, st4, fun b hb => (f3 b hb).1.1, w0⟩
    refine out_turn (Z := X.blk s3 H3 sc ce fp) st rfl rfl hc T hv (Qd := fun H => Q (.ref D) H) pg pt pi1 pg1 pt1 pk px far turn (fun {H' s'} I' qq => ?_) n s' b
    have I7 : Inv X pins σ H' s' := I3.call' (ch := fp) I'.os I'.base I'.hok I'.bare fun b hb => ⟨(f3 b hb).1.2.2.2.1, (f3 b hb).1.2.1, (f3 b hb).1.2.2.2.2.1, (f3 b hb).1.2.2.2.2.2⟩
    have nC : H' s3.heap.objs.size = none := by
      have z : H' ce.locals = none := I'.free
      rwa [cL] at z
    obtain ⟨m, hn, _⟩ := I'.loc
    have hn : s'.heap.Ns ce.locals m := hn
    rw [cL] at hn
    obtain ⟨z0, z1, z2, z4, z5, z6⟩ := I3.fpOk (Nat.le_refl _) nC
    exact ⟨m, hn, fun h'' sb => ⟨.ref D, H', I7.turned (t' := s'.toks) (fun b o hb z => (sb.2 b hb).trans z) z0 z1 z4 z5 z6, rfl, qq⟩⟩
  exact codeAny_compStart_dict loop (T.self X.A 0 _ _ _ st4 loop)
end
end Ka
namespace Kb
open PySem PySem.Spec PyProof.Rows L2
/-! ### dict comprehensions over walks -/
/-- keys numbers or texts, with tests -/
theorem dcK_it {J : It} {n : Nat} {G : Hp → Prop} {Y : Nat → Hp → V → Hp → Prop} (w : Walk J n G Y) {g : TG} {tt : TT} {tk tv : TE} {vs : List Nat} {σ : L2.St} {H1 : Hp} {D : Addr} {Qd : Hp → Prop} (Pv : Nat → Hp → Prop) (h0 : Pv 0 (upd H1 D (.dK []))) (hG : ∀ i H, i ≤ n → Pv i H → G H)
    (hs : ∀ i x H H', i < n → Pv i H → Y i H x H' → g x (wipe σ vs) H' fun σ2 H2 => wipe σ2 vs = wipe σ vs ∧ tt σ2 H2 fun b H3 => if b = true then tk σ2 H3 fun y H4 => tv σ2 H4 fun z H5 => ∃ kvs k, y = kV k ∧ H5 D = some (.dK kvs) ∧ kvs.length < sizeLine ∧ Pv (i + 1) (upd H5 D (.dK (putK kvs k z))) else Pv (i + 1) H3)
    (hd : ∀ H, Pv n H → Qd H) : ∃ W : Nat → Nat → Hp → Prop, (∃ m, W 0 m (upd H1 D (.dK []))) ∧ ∀ i m H, W i m H →
      (J.stop i H ∧ Qd H) ∨ (J.go i H ∧ ∃ Nx : Hp → Prop, (∀ H', Nx H' → ∃ m', m' < m ∧ W (i + 1) m' H') ∧ ∀ x H', J.yld i H x H' → g x (wipe σ vs) H' fun σ2 H2 => wipe σ2 vs = wipe σ vs ∧ tt σ2 H2 fun b H3 =>
        if b = true then tk σ2 H3 fun y H4 => tv σ2 H4 fun z H5 => ∃ kvs k, y = kV k ∧ H5 D = some (.dK kvs) ∧ kvs.length < sizeLine ∧ Nx (upd H5 D (.dK (putK kvs k z))) else Nx H3) := by
  refine ⟨fun i m H => m = n - i ∧ i ≤ n ∧ Pv i H, ⟨n, rfl, Nat.zero_le _, h0⟩, fun i m H ⟨em, hi, p⟩ => ?_⟩
  by_cases hlt : i < n
  · refine .inr ⟨w.goes i H hlt (hG i H hi p), Pv (i + 1), fun H' p' => ⟨n - (i + 1), by omega, rfl, hlt, p'⟩, fun x H' y => ?_⟩
    exact hs i x H H' hlt p (w.yields i H x H' hlt (hG i H hi p) y)
  · obtain rfl : i = n := by omega
    exact .inl ⟨w.stops H (hG i H hi p), hd H p⟩
/-- the second clause of two -/
theorem in_it {J : It} {n : Nat} {G : Hp → Prop} {Y : Nat → Hp → V → Hp → Prop} (w : Walk J n G Y) {up : Addr → V → V → Hp → (Hp → Prop) → Prop} {D : Addr} {g1 : TG} {tt1 : TT} {tk tv : TE} {vs1 : List Nat} {τ : L2.St} {H0 : Hp} {Nx : Hp → Prop} (Pv : Nat → Hp → Prop) (h0 : Pv 0 H0) (hG : ∀ i H, i ≤ n → Pv i H → G H)
    (hs : ∀ j x H H', j < n → Pv j H → Y j H x H' → g1 x (wipe τ vs1) H' fun τ2 H5 => wipe τ2 vs1 = wipe τ vs1 ∧ tt1 τ2 H5 fun b H6 => if b = true then tk τ2 H6 fun y H7 => tv τ2 H7 fun z H8 => up D y z H8 (Pv (j + 1)) else Pv (j + 1) H6)
    (hd : ∀ H, Pv n H → Nx H) : Ka.InP up D g1 tt1 tk tv vs1 τ Nx J H0 := by
  refine ⟨fun i m H => m = n - i ∧ i ≤ n ∧ Pv i H, ⟨n, rfl, Nat.zero_le _, h0⟩, fun i m H ⟨em, hi, p⟩ => ?_⟩
  by_cases hlt : i < n
  · refine .inr ⟨w.goes i H hlt (hG i H hi p), Pv (i + 1), fun H' p' => ⟨n - (i + 1), by omega, rfl, hlt, p'⟩, fun x H' y => ?_⟩
    exact hs i x H H' hlt p (w.yields i H x H' hlt (hG i H hi p) y)
  · obtain rfl : i = n := by omega
    exact .inl ⟨w.stops H (hG i H hi p), hd H p⟩
/-- the first -/
theorem out_it {J : It} {n : Nat} {G : Hp → Prop} {Y : Nat → Hp → V → Hp → Prop} (w : Walk J n G Y) {o0 : HO} {up : Addr → V → V → Hp → (Hp → Prop) → Prop} {g g1 : TG} {tt tt1 : TT} {wi1 : TI} {tk tv : TE} {vs vs1 : List Nat} {σ : L2.St} {H1 : Hp} {D : Addr} {Qd : Hp → Prop} (Pv : Nat → Hp → Prop) (h0 : Pv 0 (upd H1 D o0)) (hG : ∀ i H, i ≤ n → Pv i H → G H)
    (hs : ∀ i x H H', i < n → Pv i H → Y i H x H' → g x (wipe σ vs) H' fun τ H2 => wipe τ vs = wipe σ vs ∧ tt τ H2 fun b H3 => if b = true then wi1 τ H3 fun J1 H4 => Ka.InP up D g1 tt1 tk tv vs1 τ (Pv (i + 1)) J1 H4 else Pv (i + 1) H3)
    (hd : ∀ H, Pv n H → Qd H) : ∃ W : Nat → Nat → Hp → Prop, (∃ m, W 0 m (upd H1 D o0)) ∧ ∀ i m H, W i m H → (J.stop i H ∧ Qd H) ∨ (J.go i H ∧ ∃ Nx : Hp → Prop, (∀ H', Nx H' → ∃ m', m' < m ∧ W (i + 1) m' H') ∧
      ∀ x H', J.yld i H x H' → g x (wipe σ vs) H' fun τ H2 => wipe τ vs = wipe σ vs ∧ tt τ H2 fun b H3 => if b = true then wi1 τ H3 fun J1 H4 => Ka.InP up D g1 tt1 tk tv vs1 τ Nx J1 H4 else Nx H3) := by
  refine ⟨fun i m H => m = n - i ∧ i ≤ n ∧ Pv i H, ⟨n, rfl, Nat.zero_le _, h0⟩, fun i m H ⟨em, hi, p⟩ => ?_⟩
  by_cases hlt : i < n
  · refine .inr ⟨w.goes i H hlt (hG i H hi p), Pv (i + 1), fun H' p' => ⟨n - (i + 1), by omega, rfl, hlt, p'⟩, fun x H' y => ?_⟩
    exact hs i x H H' hlt p (w.yields i H x H' hlt (hG i H hi p) y)
  · obtain rfl : i = n := by omega
    exact .inl ⟨w.stops H (hG i H hi p), hd H p⟩
theorem piT_at {X : Cx} {K : PySem.W.Frag} {tg l : Expr} {t : TE} (h : X.K = K) (hl : PE X l t) : PI X tg l (iTup K t) := by
  subst h
  exact pi_tup hl
theorem piL_at {X : Cx} {K : PySem.W.Frag} {tg l : Expr} {t : TE} (h : X.K = K) (hl : PE X l t) : PI X tg l (iList K t) := by
  subst h
  exact pi_list hl
/-! ### ascending -/
theorem putK_new {κ : Type} [DecidableEq κ] : ∀ {kvs : List (κ × V)} {k : κ} {v : V}, k ∉ kvs.map (·.1) → putK kvs k v = kvs ++ [(k, v)] := by
  intro kvs k v h
  unfold putK
  rw [if_neg]
  rw [List.any_eq_true]
  rintro ⟨x, hx, e⟩
  exact h (List.mem_map.mpr ⟨x, hx, of_decide_eq_true e⟩)
def pickM (M : MK) (y : Str) : Str × Addr × List Str := (M.find? fun t => decide (t.1 = y)).getD ("", 0, [])
theorem pickM_of : ∀ {M : MK}, (M.map (·.1)).Nodup → ∀ {t : Str × Addr × List Str}, t ∈ M → pickM M t.1 = t
  | [], _, _, h => nomatch h
  | t0 :: M, nd, t, h => by
    rw [List.map_cons, List.nodup_cons] at nd
    unfold pickM
    rw [List.find?_cons]
    rcases List.mem_cons.mp h with e | e
    · subst e
      rw [decide_eq_true rfl]
      rfl
    · have : t0.1 ≠ t.1 := fun z => nd.1 (z ▸ List.mem_map.mpr ⟨_, e, rfl⟩)
      rw [decide_eq_false this]
      exact pickM_of nd.2 e
theorem pick_all {M : MK} (nd : (M.map (·.1)).Nodup) : (M.map (·.1)).map (pickM M) = M := by
  rw [List.map_map]
  have : M.map (pickM M ∘ fun t => t.1) = M.map id := List.map_congr_left fun t ht => pickM_of nd ht
  rw [this, List.map_id]
theorem pick_perm {M : MK} {ys : List Str} (nd : (M.map (·.1)).Nodup) (p : ys.Perm (M.map (·.1))) : (ys.map (pickM M)).Perm M := by
  have := p.map (pickM M)
  rwa [pick_all nd] at this
theorem pick_name {M : MK} {y : Str} (nd : (M.map (·.1)).Nodup) (h : y ∈ M.map (·.1)) : (pickM M y).1 = y ∧ pickM M y ∈ M := by
  obtain ⟨t, ht, rfl⟩ := name_M h
  rw [pickM_of nd ht]
  exact ⟨rfl, ht⟩
theorem pick_names {M : MK} {ys : List Str} (nd : (M.map (·.1)).Nodup) (h : ∀ y ∈ ys, y ∈ M.map (·.1)) : (ys.map (pickM M)).map (·.1) = ys := by
  rw [List.map_map]
  have : ys.map ((fun t => t.1) ∘ pickM M) = ys.map id := List.map_congr_left fun t ht => (pick_name nd (h t ht)).1
  rw [this, List.map_id]
section
variable {P : Program} {w : World} {K : PySem.W.Frag} {mg : Str → Option Value} {base : Heap}
theorem scAsc : FnScope ["table", "key"] ["table"] (defScope sAsc) := ⟨rfl, rfl, rfl, by decide +kernel, rfl, by decide +kernel, by decide +kernel⟩
def spAsc : Sp := fun vs H Q _ => ∃ (d : Addr) (M : MK), vs = [.ref d] ∧ Rd H d (.dK (kvM M)) ∧ (M.map (·.1)).Nodup ∧ M.length < 64 ∧
  ∀ (H' : Hp) (p : Addr) (N : MK), Same H H' → H p = none → H' p = some (.dK (kvM N)) → N.Perm M → sortedS (N.map (·.1)) = true → Q (.ref p) H'
theorem ok_asc {f : Addr} {fd : FuncData} (F : Fun K "ascending" "ascending" sAsc f fd) (ms : mg "sorted" = none) : FnOk P w K mg base CX0 1 f fd ["table"] spAsc := by
  refine F.ok scAsc (fun vs H Q E h => ?_) (fun cdv A outer s H vs Q E hr h => ?_)
  · obtain ⟨d, M, rfl, _⟩ := h
    rfl
  · obtain ⟨d, M, rfl, hd, nd, hz, q⟩ := h
    refine ⟨_, pss_one (ps_ret (pe_dc (own := [("key", 1)]) (g := gName 1) (tt := tYes) rfl scAsc.nd (pi_list (pe_callB (call_sortedD rfl) (by rfl) ms (by decide +kernel) (pa_cons (pv 0) pa_nil))) (blkOk_by (own := [("key", 1)]) (N := ["table", "key"]) (sc := defScope sAsc) (by decide +kernel)) (fun _ _ _ _ _ => pg_name (i := 1) scAsc.nd rfl (Or.inl rfl)) (fun _ _ _ _ _ => pts_nil)
        (fun _ _ _ _ _ => pv 1) (fun _ _ _ _ _ => pe_dget (hu_of hr) (pv 0) (pv 1) (fun _ _ => rfl)))), ?_⟩
    refine ⟨.ref d, rfl, d, _, M.map (·.1), rfl, hd, kvM_keys M, by rw [List.length_map]; exact hz, fun ys p hp hs np => ?_⟩
    have ndy : ys.Nodup := hp.nodup_iff.mpr nd
    have iny : ∀ y ∈ ys, y ∈ M.map (·.1) := fun y hy => hp.mem_iff.mp hy
    have hlen : ys.length = M.length := by rw [hp.length_eq, List.length_map]
    refine ⟨p, rfl, ⟨_, sqL_new upd_same⟩, fun D nD => ?_⟩
    have s1 : Same H (upd H p (.lst (ys.map V.str))) := same_new np
    refine dcK_it (walk_list (K := K) (a := p) (xs := ys.map V.str)) (fun i H2 => Same (upd H p (.lst (ys.map V.str))) H2 ∧ H2 D = some (.dK (kvM ((ys.map (pickM M)).take i)))) ⟨same_new nD, upd_same⟩ (fun i H2 _ h => (h.1.seq (sqL_new upd_same))) (fun i x H2 H3 hi h y => ?_) (fun H2 h => ?_)
    · obtain ⟨rfl, hx⟩ := y
      obtain ⟨sm, eD⟩ := h
      obtain ⟨z, hz2, rfl⟩ := get_map hx
      have hzM := pick_name nd (iny z (List.mem_of_getElem? hz2))
      have hg : (ys.map (pickM M))[i]? = some (pickM M z) := by rw [List.getElem?_map, hz2]; rfl
      have gd := get_M (Rd.mono hd (s1.trans sm)) nd hzM.2
      rw [hzM.1] at gd
      refine ⟨rfl, .str z, rfl, .ref d, rfl, .str z, rfl, d, _, rfl, gd, _, Sum.inr z, rfl, eD, ?_, fun c o e => ?_, ?_⟩
      · rw [kvM_len, List.length_take, List.length_map]
        exact small (by omega)
      · rw [upd_ne (ne_of_none e nD)]
        exact sm c o e
      · rw [upd_same, putK_new, take_of_get hg]
        · unfold kvM
          rw [List.map_append, List.map_singleton, hzM.1]
        · rw [kvM_keys, List.map_take, pick_names nd iny]
          intro z2
          obtain ⟨y2, h2, e2⟩ := List.mem_map.mp z2
          have e2 := Sum.inr.inj e2
          subst e2
          obtain ⟨j, hj⟩ := List.getElem?_of_mem h2
          rw [List.getElem?_take] at hj
          split at hj
          · rename_i hlt
            have := (List.getElem?_inj (by have := lt_of_get hj; omega) ndy).mp (hj.trans hz2.symm)
            omega
          · cases hj
    · obtain ⟨sm, eD⟩ := h
      rw [List.take_of_length_le (by rw [List.length_map, List.length_map]; exact Nat.le_refl _)] at eD
      refine q H2 D _ (s1.trans sm) (s1.free nD) eD (pick_perm nd hp) ?_
      rw [pick_names nd iny]
      exact hs
end
end Kb
namespace Kb
open PySem PySem.Spec PyProof.Rows L2
/-! ### own deeds -/
def trueKV (xs : List Str) : List (L2.Key × V) := xs.map fun x => (Sum.inr x, V.bl true)
def addS (xs : List Str) (x : Str) : List Str := if x ∈ xs then xs else xs ++ [x]
theorem mem_addS {xs : List Str} {x y : Str} : y ∈ addS xs x ↔ y ∈ xs ∨ y = x := by
  unfold addS
  by_cases h : x ∈ xs
  · rw [if_pos h]
    exact ⟨.inl, fun e => e.elim id fun e => e ▸ h⟩
  · rw [if_neg h, List.mem_append, List.mem_singleton]
theorem nd_addS {xs : List Str} {x : Str} (h : xs.Nodup) : (addS xs x).Nodup := by
  unfold addS
  by_cases e : x ∈ xs
  · rw [if_pos e]
    exact h
  · rw [if_neg e, List.nodup_append]
    refine ⟨h, List.nodup_cons.mpr ⟨by simp, List.nodup_nil⟩, fun a ha b hb => ?_⟩
    rw [List.mem_singleton.mp hb]
    exact fun z => e (z ▸ ha)
theorem len_addS (xs : List Str) (x : Str) : (addS xs x).length ≤ xs.length + 1 := by
  unfold addS
  split
  · omega
  · rw [List.length_append]
    exact Nat.le_refl _
theorem trueKV_add (xs : List Str) (x : Str) : putK (trueKV xs) (Sum.inr x : L2.Key) (.bl true) = trueKV (addS xs x) := by
  unfold addS
  by_cases h : x ∈ xs
  · rw [if_pos h]
    unfold putK
    rw [if_pos]
    · unfold trueKV
      rw [List.map_map]
      apply List.map_congr_left
      intro y hy
      show (if (Sum.inr y : L2.Key) = Sum.inr x then ((Sum.inr y : L2.Key), V.bl true) else (Sum.inr y, V.bl true)) = _
      split <;> rfl
    · rw [List.any_eq_true]
      exact ⟨_, List.mem_map.mpr ⟨x, h, rfl⟩, decide_eq_true rfl⟩
  · rw [if_neg h, putK_new]
    · unfold trueKV
      rw [List.map_append]
      rfl
    · unfold trueKV
      rw [List.map_map]
      intro z
      obtain ⟨y, hy, e⟩ := List.mem_map.mp z
      exact h (Sum.inr.inj e ▸ hy)
theorem valV_true {xs : List Str} {x : Str} : valV (trueKV xs) (Sum.inr x : L2.Key) = if x ∈ xs then some (V.bl true) else none := by
  unfold valV trueKV
  induction xs with
  | nil => simp
  | cons y xs ih =>
    rw [List.map_cons, List.find?_cons]
    by_cases h : y = x
    · subst h
      simp
    · rw [decide_eq_false (fun z => h (Sum.inr.inj z))]
      simp only [List.mem_cons]
      rw [ih]
      have : (x = y ∨ x ∈ xs) ↔ x ∈ xs := ⟨fun z => z.resolve_left fun e => h e.symm, .inr⟩
      simp only [this]
/-- the own deeds of d, in order -/
structure IsLot (m : List (Str × List Str)) (d : Str) (L : List Str) : Prop where
  srt : sortedS L = true
  nd : L.Nodup
  mem : ∀ x, x ∈ L ↔ Kf.Own m d x
theorem own_iff {M : MK} (nd : (M.map (·.1)).Nodup) {t : Str × Addr × List Str} (ht : t ∈ M) (x : Str) : Kf.Own (pm M) t.1 x ↔ x ∈ t.2.2 ∧ ¬ ∃ t' ∈ M, t'.1 ≠ t.1 ∧ x ∈ t'.2.2 := by
  unfold Kf.Own
  rw [look_M nd ht, pm_names]
  refine and_congr_right fun _ => ⟨fun h => ?_, fun h e he ne hx => ?_⟩
  · rintro ⟨t', ht', ne, hx⟩
    refine h t'.1 (List.mem_map.mpr ⟨t', ht', rfl⟩) ne ?_
    rw [look_M nd ht']
    exact hx
  · obtain ⟨t', ht', rfl⟩ := name_M he
    rw [look_M nd ht'] at hx
    exact h ⟨t', ht', ne, hx⟩
section
variable {P : Program} {w : World} {K : PySem.W.Frag} {mg : Str → Option Value} {base : Heap}
theorem scOwnD : FnScope ["making", "found", "deed", "others", "other", "one"] ["making"] (defScope sOwnD) := ⟨rfl, rfl, rfl, by decide +kernel, rfl, by decide +kernel, by decide +kernel⟩
def spOwnD : Sp := fun vs H Q _ => ∃ (d : Addr) (M : MK), vs = [.ref d] ∧ H d = some (.dK (kvM M)) ∧ Stand H M ∧ Fit M ∧
  ∀ (H' : Hp) (p : Addr) (N : MK), Same H H' → H p = none → H' p = some (.dK (kvM N)) → Stand H' N → sortedS (N.map (·.1)) = true → (N.map (·.1)).Perm (M.map (·.1)) → (∀ t ∈ N, IsLot (pm M) t.1 t.2.2) → (∀ t ∈ N, t.2.2.length ≤ 5) → Q (.ref p) H'
theorem ok_ownD {f fA : Addr} {fd fdA : FuncData} (F : Fun K "own_deeds" "own_deeds" sOwnD f fd) (FA : Fun K "ascending" "ascending" sAsc fA fdA) (bA : Binds K fdA ["table"] []) (gA : mg "ascending" = some (.ref fA)) (ms : mg "sorted" = none) (mt : mg "tuple" = none) : FnOk P w K mg base CX0 2 f fd ["making"] spOwnD := by
  have GA : FnOk P w K mg base CX0 1 fA fdA ["table"] spAsc := ok_asc FA ms
  refine F.ok scOwnD (fun vs H Q E h => ?_) (fun cdv A outer s H vs Q E hr h => ?_)
  · obtain ⟨d, M, rfl, _⟩ := h
    rfl
  · obtain ⟨d, M, rfl, hd, hM, ft, q⟩ := h
    refine ⟨_, pss_cons (ps_set (i := 1) scOwnD.nd rfl (.inl rfl) pe_dnewK)
      (pss_cons (ps_lock (ps_for PassesOwn.never rfl (pi_keys (pv 0)) (pg_name (i := 2) scOwnD.nd rfl (.inr rfl))
        (pss_cons (ps_set (i := 3) scOwnD.nd rfl (.inr rfl) (Ka.pe_dc2 (own := [("other", 4), ("one", 5)]) (vs1 := [5]) (g := gName 4) (g1 := gName 5) (tt1 := tYes) Ka.storeK rfl scOwnD.nd (pi_keys (pv 0)) (blkOk_by (own := [("other", 4), ("one", 5)]) (N := ["making", "found", "deed", "others", "other", "one"]) (sc := defScope sOwnD) (by decide +kernel)) (by decide)
            (fun _ _ _ _ _ => pg_name (i := 4) scOwnD.nd rfl (Or.inl rfl)) (fun _ _ _ _ _ => pts_one (pt_cmpR op_ne (pv 4) (pv 2) (nomark _))) (fun _ _ _ _ _ => piT_at (K := K) rfl (pe_dget (hu_of hr) (pv 0) (pv 4) (fun _ _ => rfl))) (fun _ _ _ _ _ => pg_name (i := 5) scOwnD.nd rfl (Or.inl rfl)) (fun _ _ _ _ _ => pts_nil) (fun _ _ _ _ _ => pv 5) (fun _ _ _ _ _ => pe_bl)))
        (pss_one (ps_dput (hu_of hr) (pv 1) (pv 2) (pe_callTy call_tuple_of (by rfl) mt (by decide +kernel) (pa_cons (pe_callB (call_sortedD rfl) (by rfl) ms (by decide +kernel) (pa_cons
          (pe_dc (own := [("one", 5)]) (g := gName 5) rfl scOwnD.nd (pi_tup (pe_dget (hu_of hr) (pv 0) (pv 2) (fun _ _ => rfl))) (blkOk_by (own := [("one", 5)]) (N := ["making", "found", "deed", "others", "other", "one"]) (sc := defScope sOwnD) (by decide +kernel)) (fun _ _ _ _ _ => pg_name (i := 5) scOwnD.nd rfl (Or.inl rfl)) (fun _ _ _ _ _ => pts_one (pt_cmp (pc_dnotin (hu_of hr) (pv 5) (pv 3))))
            (fun _ _ _ _ _ => pv 5) (fun _ _ _ _ _ => pe_bl)) pa_nil)) pa_nil)) rfl)))))
      (pss_one (ps_ret (pe_call GA hr (by rfl) gA FA.kp bA .nil pass0 (pa_cons (pv 1) pa_nil))))), ?_⟩
    refine fun o no => ?_
    have s0 : Same H (upd H o (.dK [])) := same_new no
    have hdo : d ≠ o := ne_of_none hd no
    refine ⟨d, .dK (kvM M), s0 _ _ hd, True.intro, fun od => ?_⟩
    generalize hH1 : upd (upd H o (.dK [])) d (.frz od (.dK (kvM M))) = H1
    have b1 : But d (upd H o (.dK [])) H1 := by rw [← hH1]; exact But.upd
    have f1 : H1 d = some (.frz od (.dK (kvM M))) := by rw [← hH1]; exact upd_same
    have o1 : H1 o = some (.dK []) := by rw [← hH1, upd_ne (Ne.symm hdo)]; exact upd_same
    have M1 : Stand H1 M := fun t ht => b1 _ _ (fun e => by
      have := hM t ht
      rw [e, hd] at this
      cases this) (s0 _ _ (hM t ht))
    have free1 : ∀ c, H1 c = none → H c = none := fun c e => by
      cases hc : H c with
      | none => rfl
      | some u =>
        by_cases q : c = d
        · rw [q, f1] at e
          cases e
        · rw [b1 c u q (s0 _ _ hc)] at e
          cases e
    refine ⟨.ref d, rfl, d, od, rfl, .inl ⟨kvM M, f1, ?_⟩⟩
    refine for_it (walk_keys (d := d) (o := od) (kvs := kvM M)) (fun i σ H' => ∃ (x2 x3 : Option V) (N : MK), σ = [some (.ref d), some (.ref o), x2, x3, none, none] ∧ But o H1 H' ∧ H' o = some (.dK (kvM N)) ∧ N.map (·.1) = (M.map (·.1)).take i ∧ Stand H' N ∧ (∀ t ∈ N, IsLot (pm M) t.1 t.2.2) ∧ ∀ t ∈ N, t.2.2.length ≤ 5)
      ⟨none, none, [], rfl, But.refl, o1, rfl, (fun t ht => nomatch ht), (fun t ht => nomatch ht), (fun t ht => nomatch ht)⟩ (fun i σ H' _ ⟨_, _, _, _, k, _⟩ => k _ _ hdo f1) (fun i x σ H2 H3 hi h y => ?_) (fun σ H2 h => ?_)
    · obtain ⟨rfl, ky, va, hkv, rfl⟩ := y
      obtain ⟨x2, x3, N, rfl, k3, eo, hN, sN, lN, rN⟩ := h
      obtain ⟨t, ht, ekv⟩ := get_map hkv
      cases ekv
      have htM := List.mem_of_getElem? ht
      have f3 := k3 _ _ hdo f1
      have M3 : Stand H3 M := fun t ht => k3 _ _ (fun e => by
        have := M1 t ht
        rw [e, o1] at this
        cases this) (M1 t ht)
      refine ⟨.ref d, rfl, d, od, rfl, .inl ⟨kvM M, f3, fun D nD => ?_⟩⟩
      refine out_it (walk_keys (d := d) (o := od) (kvs := kvM M)) (fun i2 G => Same H3 G ∧ ∃ xs : List Str, G D = some (.dK (trueKV xs)) ∧ xs.length ≤ 5 * i2 ∧ ∀ x, x ∈ xs ↔ ∃ t' ∈ M.take i2, t'.1 ≠ t.1 ∧ x ∈ t'.2.2)
        ⟨same_new nD, [], upd_same, Nat.le_refl _, fun x => ⟨fun h => (nomatch h), fun ⟨t', h, _⟩ => (nomatch h)⟩⟩ (fun i2 G _ h => h.1 _ _ f3) (fun i2 x2' G G' hi2 h y => ?_) (fun G h => ?_)
      · obtain ⟨rfl, ky2, va2, hkv2, rfl⟩ := y
        obtain ⟨t', ht', ekv2⟩ := get_map hkv2
        cases ekv2
        have htM' := List.mem_of_getElem? ht'
        have hi4 : i2 < 12 := by
          have := ft.few
          have := lt_of_get ht'
          omega
        obtain ⟨sG, xs, eD, hl, hx⟩ := h
        refine ⟨rfl, .str t'.1, rfl, .str t.1, rfl, rfl, _, rfl, ?_⟩
        have stepM : ∀ x, (∃ t2 ∈ M.take (i2 + 1), t2.1 ≠ t.1 ∧ x ∈ t2.2.2) ↔ (∃ t2 ∈ M.take i2, t2.1 ≠ t.1 ∧ x ∈ t2.2.2) ∨ (t'.1 ≠ t.1 ∧ x ∈ t'.2.2) := fun x => by
          rw [take_of_get ht']
          constructor
          · rintro ⟨t2, h2, r⟩
            rcases List.mem_append.mp h2 with z | z
            · exact .inl ⟨t2, z, r⟩
            · rw [List.mem_singleton.mp z] at r
              exact .inr r
          · rintro (⟨t2, h2, r⟩ | r)
            · exact ⟨t2, List.mem_append_left _ h2, r⟩
            · exact ⟨t', List.mem_append_right _ (List.mem_singleton.mpr rfl), r⟩
        refine ite2 (fun c => ?_) (fun c => ?_)
        · have c : t'.1 ≠ t.1 := by
            intro e
            rw [e] at c
            simp at c
          refine ⟨.ref d, rfl, .str t'.1, rfl, d, _, rfl, get_M (.inr ⟨od, sG _ _ f3⟩) ft.nd htM', t'.2.1, rfl, ⟨_, sqT_new (sG _ _ (M3 t' htM'))⟩, ?_⟩
          refine in_it (walk_tup (K := K) (a := t'.2.1) (xs := t'.2.2.map V.str)) (fun j Z => Same H3 Z ∧ ∃ xs : List Str, Z D = some (.dK (trueKV xs)) ∧ xs.length ≤ 5 * i2 + j ∧ ∀ x, x ∈ xs ↔ (∃ t2 ∈ M.take i2, t2.1 ≠ t.1 ∧ x ∈ t2.2.2) ∨ x ∈ t'.2.2.take j)
            ⟨sG, xs, eD, hl, fun x => by rw [hx, List.take_zero]; exact ⟨.inl, fun z => z.elim id fun z => nomatch z⟩⟩ (fun j Z _ h => sqT_new (h.1 _ _ (M3 t' htM'))) (fun j y Z Z' hj h yy => ?_) (fun Z h => ?_)
          · obtain ⟨rfl, hy⟩ := yy
            obtain ⟨z, hz, rfl⟩ := get_map hy
            obtain ⟨sZ, xs, eD, hl, hx⟩ := h
            have hj5 : j < 5 := by
              have := ft.rows t' htM'
              have := lt_of_get hz
              omega
            refine ⟨rfl, .str z, rfl, trueKV xs, Sum.inr z, rfl, eD, ?_, fun c u e => ?_, addS xs z, ?_, ?_, fun x => ?_⟩
            · unfold trueKV
              rw [List.length_map]
              exact small (by omega)
            · rw [upd_ne (ne_of_none e nD)]
              exact sZ c u e
            · rw [upd_same, trueKV_add]
            · have := len_addS xs z
              omega
            · rw [mem_addS, hx, take_of_get hz, List.mem_append, List.mem_singleton, or_assoc]
          · obtain ⟨sZ, xs, eD, hl, hx⟩ := h
            rw [List.length_map] at hl hx
            rw [List.take_length] at hx
            refine ⟨sZ, xs, eD, ?_, fun x => ?_⟩
            · have := ft.rows t' htM'
              omega
            · rw [hx, stepM]
              exact or_congr_right ⟨fun z => ⟨c, z⟩, fun z => z.2⟩
        · have c : t'.1 = t.1 := by
            apply Decidable.byContradiction
            intro e
            apply c
            simp [e]
          refine ⟨sG, xs, eD, by omega, fun x => ?_⟩
          rw [hx, stepM]
          exact ⟨.inl, fun z => z.elim id fun z => absurd c z.1⟩
      · obtain ⟨sG, xs, eD, hl, hx⟩ := h
        rw [kvM_len] at hl hx
        rw [List.take_length] at hx
        have xl : xs.length ≤ 60 := by
          have := ft.few
          omega
        have f4 := sG _ _ f3
        have nt : t.1 ∉ N.map (·.1) := by
          rw [hN]
          intro z
          obtain ⟨j, hj⟩ := List.getElem?_of_mem z
          rw [List.getElem?_take] at hj
          split at hj
          · rename_i hlt
            have e2 : (M.map (·.1))[i]? = some t.1 := by rw [List.getElem?_map, ht]; rfl
            have := (List.getElem?_inj (lt_of_get hj) ft.nd).mp (hj.trans e2.symm)
            omega
          · cases hj
        refine ⟨.ref d, rfl, .str t.1, rfl, d, _, rfl, get_M (.inr ⟨od, f4⟩) ft.nd htM, t.2.1, rfl, ⟨_, sqT_new (sG _ _ (M3 t htM))⟩, fun D2 nD2 => ?_⟩
        refine dcK_it (walk_tup (K := K) (a := t.2.1) (xs := t.2.2.map V.str)) (fun j Z => Same G Z ∧ ∃ ys : List Str, Z D2 = some (.dK (trueKV ys)) ∧ ys.Nodup ∧ ys.length ≤ j ∧ ∀ x, x ∈ ys ↔ x ∈ t.2.2.take j ∧ x ∉ xs)
          ⟨same_new nD2, [], upd_same, List.nodup_nil, Nat.le_refl _, fun x => ⟨fun h => (nomatch h), fun h => (nomatch h.1)⟩⟩ (fun j Z _ h => sqT_new (h.1 _ _ (sG _ _ (M3 t htM)))) (fun j y Z Z' hj h yy => ?_) (fun Z h => ?_)
        · obtain ⟨rfl, hy⟩ := yy
          obtain ⟨z, hz, rfl⟩ := get_map hy
          obtain ⟨sZ, ys, eD2, ndy, yl, hy2⟩ := h
          have hj5 : j < 5 := by
            have := ft.rows t htM
            have := lt_of_get hz
            omega
          refine ⟨rfl, .str z, rfl, .ref D, rfl, D, _, rfl, DGet.k (k := Sum.inr z) (sZ _ _ eD), ?_⟩
          rw [valV_true]
          by_cases c : z ∈ xs
          · rw [if_pos c]
            refine ⟨false, rfl, ?_⟩
            refine ⟨sZ, ys, eD2, ndy, by omega, fun x => ?_⟩
            rw [hy2, take_of_get hz, List.mem_append, List.mem_singleton]
            exact ⟨fun h => ⟨.inl h.1, h.2⟩, fun h => ⟨h.1.resolve_right fun e => h.2 (e ▸ c), h.2⟩⟩
          · rw [if_neg c]
            refine ⟨true, rfl, ?_⟩
            refine iteT ?_
            refine ⟨.str z, rfl, trueKV ys, Sum.inr z, rfl, eD2, ?_, fun c u e => ?_, addS ys z, ?_, nd_addS ndy, ?_, fun x => ?_⟩
            · unfold trueKV
              rw [List.length_map]
              exact small (by omega)
            · rw [upd_ne (ne_of_none e nD2)]
              exact sZ c u e
            · rw [upd_same, trueKV_add]
            · have := len_addS ys z
              omega
            · rw [mem_addS, hy2, take_of_get hz, List.mem_append, List.mem_singleton]
              constructor
              · rintro (h | rfl)
                · exact ⟨.inl h.1, h.2⟩
                · exact ⟨.inr rfl, c⟩
              · rintro ⟨h | rfl, h2⟩
                · exact .inl ⟨h, h2⟩
                · exact .inr rfl
        · obtain ⟨sZ, ys, eD2, ndy, yl, hy2⟩ := h
          rw [List.length_map] at yl hy2
          rw [List.take_length] at hy2
          have r5 := ft.rows t htM
          refine ⟨D2, _, ys, rfl, .inl eD2, ?_, by omega, fun zs p hp hs np => ?_⟩
          · unfold trueKV
            rw [List.map_map]
            rfl
          · refine ⟨p, _, rfl, .inl ⟨sqL_new upd_same, fun l nl => ?_⟩⟩
            generalize hZ2 : upd (upd Z p (.lst (zs.map V.str))) l (.tup (zs.map V.str)) = Z2
            have s5 : Same H3 Z2 := by
              rw [← hZ2]
              exact (sG.trans sZ).trans ((same_new np).trans (same_new nl))
            have el : Z2 l = some (.tup (zs.map V.str)) := by rw [← hZ2]; exact upd_same
            have nlo : l ≠ o := fun e => by
              have q1 := (sG.trans sZ) _ _ eo
              have q2 := (same_new (o := .lst (zs.map V.str)) np) _ _ q1
              rw [e, q2] at nl
              cases nl
            have N4 : N.length = i := by
              have := congrArg List.length hN
              rw [List.length_map, List.length_take, List.length_map] at this
              have := lt_of_get ht
              omega
            refine ⟨.ref o, rfl, .str t.1, rfl, o, _, rfl, DPut.k (k := Sum.inr t.1) (s5 _ _ eo) ?_, ?_⟩
            · rw [kvM_len]
              have := ft.few
              have := lt_of_get ht
              exact small (by omega)
            · refine ⟨_, _, N ++ [(t.1, l, zs)], rfl, fun c u hc e => ?_, ?_, ?_, fun t2 h2 => ?_, fun t2 h2 => ?_, fun t2 h2 => ?_⟩
              · rw [upd_ne hc]
                exact s5 _ _ (k3 c u hc e)
              · rw [upd_same, putK_new]
                · unfold kvM
                  rw [List.map_append]
                  rfl
                · rw [kvM_keys]
                  intro z
                  obtain ⟨y, hy, e⟩ := List.mem_map.mp z
                  exact nt (Sum.inr.inj e ▸ hy)
              · rw [List.map_append, hN, take_of_get (l := M.map (·.1)) (i := i) (x := t.1) (by rw [List.getElem?_map, ht]; rfl)]
                rfl
              · rcases List.mem_append.mp h2 with z | z
                · have q1 := sN t2 z
                  rw [upd_ne (fun e => by rw [e, eo] at q1; cases q1)]
                  exact s5 _ _ q1
                · rw [List.mem_singleton.mp z, upd_ne nlo]
                  exact el
              · rcases List.mem_append.mp h2 with z | z
                · exact lN t2 z
                · rw [List.mem_singleton.mp z]
                  refine ⟨hs, hp.nodup_iff.mpr ndy, fun x => ?_⟩
                  rw [own_iff ft.nd htM, hp.mem_iff, hy2, hx]
              · rcases List.mem_append.mp h2 with z | z
                · exact rN t2 z
                · rw [List.mem_singleton.mp z]
                  show zs.length ≤ 5
                  rw [hp.length_eq]
                  omega
    · obtain ⟨x2, x3, N, rfl, k, eo, hN, sN, lN, rN⟩ := h
      rw [kvM_len, List.take_of_length_le (by rw [List.length_map]; exact Nat.le_refl _)] at hN
      refine ⟨k _ _ hdo f1, ?_⟩
      have hoD : o ≠ d := Ne.symm hdo
      have sU : Same H (upd H2 d (.dK (kvM M))) := fun c u e => by
        by_cases q : c = d
        · rw [q, upd_same, ← hd, ← q]
          exact e
        · rw [upd_ne q]
          exact k _ _ (ne_of_none e no) (b1 _ _ q (s0 _ _ e))
      have nl : N.length = M.length := by
        have := congrArg List.length hN
        rw [List.length_map, List.length_map] at this
        exact this
      have few := ft.few
      refine ⟨.ref o, rfl, o, N, rfl, .inl (by rw [upd_ne hoD]; exact eo), by rw [hN]; exact ft.nd, by omega, fun H5 p N2 s5 np ep perm srt => ?_⟩
      have sN2 : Stand H5 N2 := fun t ht => by
        have q1 := sN t (perm.mem_iff.mp ht)
        refine s5 _ _ ?_
        rw [upd_ne (fun e => by
          rw [e, k _ _ hdo f1] at q1
          cases q1)]
        exact q1
      refine q H5 p N2 (sU.trans s5) (sU.free np) ep sN2 srt ?_ (fun t ht => lN t (perm.mem_iff.mp ht)) (fun t ht => rN t (perm.mem_iff.mp ht))
      rw [← hN]
      exact perm.map _
end
end Kb
namespace Kb
open PySem PySem.Spec PyProof.Rows L2
/-! ### the order of texts -/
abbrev leS (a b : Str) : Prop := a.cps.toList ≤ b.cps.toList
theorem leS_anti {a b : Str} (h1 : leS a b) (h2 : leS b a) : a = b := by
  have e : a.cps.toList = b.cps.toList := List.le_antisymm h1 h2
  cases a
  cases b
  rename_i x y
  have : x = y := Array.toList_inj.mp e
  rw [this]
theorem rising_pw : ∀ (l : List Str) (p : Str), risingS p l = true → (p :: l).Pairwise leS
  | [], p, _ => List.pairwise_singleton _ _
  | x :: r, p, h => by
    have h : (!ltCps x.cps.toList p.cps.toList && risingS x r) = true := h
    rw [Bool.and_eq_true, ltCps_eq, Bool.not_eq_true', decide_eq_false_iff_not] at h
    have ih := rising_pw r x h.2
    have hpx : leS p x := h.1
    refine List.pairwise_cons.mpr ⟨fun y hy => ?_, ih⟩
    rcases List.mem_cons.mp hy with e | e
    · rw [e]
      exact hpx
    · exact List.le_trans hpx ((List.pairwise_cons.mp ih).1 y e)
theorem sorted_pw {l : List Str} (h : sortedS l = true) : l.Pairwise leS := by
  cases l with
  | nil => exact List.Pairwise.nil
  | cons x r => exact rising_pw r x h
theorem sorted_of {l : List Str} (h : l.Pairwise leS) : sortedS l = true := by
  refine sortedS_of_pairwise l (h.imp fun {a b} hab => ?_)
  rw [ltCps_eq, decide_eq_false_iff_not]
  exact hab
theorem pw_uniq : ∀ {a b : List Str}, a.Pairwise leS → b.Pairwise leS → a.Perm b → a = b
  | [], b, _, _, p => (List.nil_perm.mp p).symm
  | x :: a, [], _, _, p => absurd p.length_eq (by simp)
  | x :: a, y :: b, ha, hb, p => by
    have ha2 := List.pairwise_cons.mp ha
    have hb2 := List.pairwise_cons.mp hb
    have exy : x = y := by
      rcases List.mem_cons.mp (p.mem_iff.mp List.mem_cons_self : x ∈ y :: b) with e | e
      · exact e
      · rcases List.mem_cons.mp (p.mem_iff.mpr List.mem_cons_self : y ∈ x :: a) with e2 | e2
        · exact e2.symm
        · exact leS_anti (ha2.1 y e2) (hb2.1 x e)
    subst exy
    rw [pw_uniq ha2.2 hb2.2 (List.Perm.cons_inv p)]
theorem sorted_uniq {a b : List Str} (ha : sortedS a = true) (hb : sortedS b = true) (p : a.Perm b) : a = b := pw_uniq (sorted_pw ha) (sorted_pw hb) p
theorem perm_of_mem : ∀ {a b : List Str}, a.Nodup → b.Nodup → (∀ x, x ∈ a ↔ x ∈ b) → a.Perm b := fun ha hb h => (List.perm_ext_iff_of_nodup ha hb).mpr h
theorem sorted_filter {l : List Str} (p : Str → Bool) (h : sortedS l = true) : sortedS (l.filter p) = true := sorted_of ((sorted_pw h).filter p)
theorem lot_uniq {m : List (Str × List Str)} {d : Str} {a b : List Str} (ha : IsLot m d a) (hb : IsLot m d b) : a = b :=
  sorted_uniq ha.srt hb.srt (perm_of_mem ha.nd hb.nd fun x => (ha.mem x).trans (hb.mem x).symm)
/-- no own deed -/
def Bare (m : List (Str × List Str)) (d : Str) : Prop := ∀ x, ¬ Kf.Own m d x
theorem lot_bare {m : List (Str × List Str)} {d : Str} {L : List Str} (h : IsLot m d L) : L = [] ↔ Bare m d := by
  constructor
  · rintro rfl x hx
    exact nomatch (h.mem x).mpr hx
  · intro hb
    cases L with
    | nil => rfl
    | cons x r => exact absurd ((h.mem x).mp List.mem_cons_self) (hb x)
theorem exact_iff {m : List (Str × List Str)} : Kf.Exact m ↔ ∀ d ∈ m.map (·.1), ¬ Bare m d := by
  unfold Kf.Exact Bare
  refine ⟨fun h d hd hb => ?_, fun h d hd => Classical.byContradiction fun z => h d hd fun x hx => z ⟨x, hx⟩⟩
  obtain ⟨x, hx⟩ := h d hd
  exact hb x hx
section
variable {P : Program} {w : World} {K : PySem.W.Frag} {mg : Str → Option Value} {base : Heap}
theorem scExact : FnScope ["making", "own", "deed"] ["making"] (defScope sExact) := ⟨rfl, rfl, rfl, by decide +kernel, rfl, by decide +kernel, by decide +kernel⟩
def spExact : Sp := fun vs H Q _ => ∃ (d : Addr) (M : MK), vs = [.ref d] ∧ H d = some (.dK (kvM M)) ∧ Stand H M ∧ Fit M ∧ ∀ (H' : Hp) (b : Bool), Same H H' → (b = true ↔ Kf.Exact (pm M)) → Q (.bl b) H'
theorem ok_exact {f fO fA : Addr} {fd fdO fdA : FuncData} (F : Fun K "is_exact" "is_exact" sExact f fd) (FO : Fun K "own_deeds" "own_deeds" sOwnD fO fdO) (bO : Binds K fdO ["making"] []) (gO : mg "own_deeds" = some (.ref fO)) (FA : Fun K "ascending" "ascending" sAsc fA fdA) (bA : Binds K fdA ["table"] []) (gA : mg "ascending" = some (.ref fA))
    (ms : mg "sorted" = none) (mt : mg "tuple" = none) (ma : mg "all" = none) (ml : mg "len" = none) : FnOk P w K mg base CX0 3 f fd ["making"] spExact := by
  have GO : FnOk P w K mg base CX0 2 fO fdO ["making"] spOwnD := ok_ownD FO FA bA gA ms mt
  refine F.ok scExact (fun vs H Q E h => ?_) (fun cdv A outer s H vs Q E hr h => ?_)
  · obtain ⟨d, M, rfl, _⟩ := h
    rfl
  · obtain ⟨d, M, rfl, hd, hM, ft, q⟩ := h
    refine ⟨_, pss_cons (ps_set (i := 1) scExact.nd rfl (.inr rfl) (pe_call GO hr (by rfl) gO FO.kp bO .nil pass0 (pa_cons (pv 0) pa_nil)))
      (pss_one (ps_ret (pe_callB (cr_all rfl) (by rfl) ma (by decide +kernel) (pa_cons (pe_lock (pe_lc (own := [("deed", 2)]) (g := gName 2) (tt := tYes) rfl scExact.nd (pi_keys (pv 1)) (blkOk_by (own := [("deed", 2)]) (N := ["making", "own", "deed"]) (sc := defScope sExact) (by decide +kernel)) (fun _ _ _ _ _ => pg_name (i := 2) scExact.nd rfl (Or.inl rfl)) (fun _ _ _ _ _ => pts_nil)
        (fun _ _ _ _ _ => pe_cmpR op_gt (pe_callB (len_at (K := K) rfl) (by rfl) ml PySem.boot_len (pa_cons (pe_dget (hu_of hr) (pv 1) (pv 2) (fun _ _ => rfl)) pa_nil)) pe_int (nomark _)))) pa_nil)))), ?_⟩
    refine ⟨.ref d, rfl, d, M, rfl, hd, hM, ft, fun H1 p N s1 np ep sN srt perm lots rows => ?_⟩
    refine ⟨p, _, ep, True.intro, fun od => ?_⟩
    have ndN : (N.map (·.1)).Nodup := perm.nodup_iff.mpr ft.nd
    have lenN : N.length ≤ 12 := by
      have := perm.length_eq
      rw [List.length_map, List.length_map] at this
      rw [this]
      exact ft.few
    generalize hH2 : upd H1 p (.frz od (.dK (kvM N))) = H2
    have f2 : H2 p = some (.frz od (.dK (kvM N))) := by rw [← hH2]; exact upd_same
    have k2 : But p H1 H2 := by rw [← hH2]; exact But.upd
    have sN2 : Stand H2 N := fun t ht => k2 _ _ (fun e => by
      have := sN t ht
      rw [e, ep] at this
      cases this) (sN t ht)
    refine ⟨.ref p, rfl, p, od, rfl, .inl ⟨kvM N, f2, fun D nD => ?_⟩⟩
    refine lc_it (walk_keys (d := p) (o := od) (kvs := kvM N)) (fun i G => Same H2 G ∧ G D = some (.lst (((N.take i).map fun t => decide (0 < t.2.2.length)).map V.bl))) ⟨same_new nD, upd_same⟩ (fun i G _ h => h.1 _ _ f2) (fun i x G G' hi h y => ?_) (fun G h => ?_)
    · obtain ⟨rfl, ky, va, hkv, rfl⟩ := y
      obtain ⟨t, ht, ekv⟩ := get_map hkv
      cases ekv
      have htN := List.mem_of_getElem? ht
      obtain ⟨sG, eD⟩ := h
      refine ⟨rfl, .ref p, rfl, .str t.1, rfl, p, _, rfl, get_M (.inr ⟨od, sG _ _ f2⟩) ndN htN, t.2.1, _, rfl, .inr (sqT_new (sG _ _ (sN2 t htN))), _, 0, rfl, rfl, _, eD, ?_, fun c u e => ?_, ?_⟩
      · rw [List.length_map, List.length_map, List.length_take]
        exact small (by omega)
      · rw [upd_ne (ne_of_none e nD)]
        exact sG c u e
      · rw [upd_same, take_of_get ht, List.map_append, List.map_append]
        simp only [List.map_cons, List.map_nil, List.length_map]
        congr 5
        first | rfl | (apply propext; omega) | simp
    · obtain ⟨sG, eD⟩ := h
      rw [kvM_len, List.take_length] at eD
      refine ⟨sG _ _ f2, ?_⟩
      have hDp : D ≠ p := fun e => by rw [e, f2] at nD; cases nD
      refine ⟨D, _, rfl, sqL_new (by rw [upd_ne hDp]; exact eD), ?_⟩
      refine q _ _ (s1.trans (unlock ep (k2.trans (But.of sG)))) ?_
      rw [exact_iff, pm_names, List.all_eq_true]
      constructor
      · intro h dd hdd
        obtain ⟨t, ht, rfl⟩ := name_M (perm.mem_iff.mpr hdd)
        have := h _ (List.mem_map.mpr ⟨t, ht, rfl⟩)
        rw [← lot_bare (lots t ht)]
        intro e
        rw [e] at this
        simp at this
      · intro h b hb
        obtain ⟨t, ht, rfl⟩ := List.mem_map.mp hb
        have := h t.1 (perm.mem_iff.mp (List.mem_map.mpr ⟨t, ht, rfl⟩))
        rw [← lot_bare (lots t ht)] at this
        refine decide_eq_true ?_
        exact List.length_pos_iff.mpr this
end
end Kb
namespace Kb
open PySem PySem.Spec PyProof.Rows L2
theorem filt_yes {α : Type} {p : α → Bool} {l : List α} {x : α} (h : p x = true) : (l ++ [x]).filter p = l.filter p ++ [x] := by
  rw [List.filter_append, List.filter_cons_of_pos h, List.filter_nil]
theorem filt_no {α : Type} {p : α → Bool} {l : List α} {x : α} (h : p x = false) : (l ++ [x]).filter p = l.filter p := by
  rw [List.filter_append, List.filter_cons_of_neg (by rw [h]; exact Bool.false_ne_true), List.filter_nil, List.append_nil]
theorem natV_int (l : List Nat) : natV l = (l.map fun (i : Nat) => (i : Int)).map V.int := by
  unfold natV
  rw [List.map_map]
  rfl
/-- a dict by a function of its keys -/
def fnKV (g : Str → V) (l : List Str) : List (L2.Key × V) := l.map fun y => (Sum.inr y, g y)
theorem valV_fn {g : Str → V} {y : Str} : ∀ {l : List Str}, y ∈ l → valV (fnKV g l) (Sum.inr y : L2.Key) = some (g y)
  | [], h => nomatch h
  | x :: l, h => by
    show ((((Sum.inr x : L2.Key), g x) :: fnKV g l).find? fun kv => decide (kv.1 = (Sum.inr y : L2.Key))).map (·.2) = _
    rw [List.find?_cons]
    by_cases e : x = y
    · subst e
      rw [decide_eq_true rfl]
      rfl
    · rw [decide_eq_false (fun z => e (Sum.inr.inj z))]
      exact valV_fn ((List.mem_cons.mp h).resolve_left fun z => e z.symm)
theorem fnKV_add {g : Str → V} {l : List Str} {y : Str} (h : y ∉ l) : putK (fnKV g l) (Sum.inr y : L2.Key) (g y) = fnKV g (l ++ [y]) := by
  rw [putK_new]
  · unfold fnKV
    rw [List.map_append]
    rfl
  · unfold fnKV
    rw [List.map_map]
    intro z
    obtain ⟨x, hx, e⟩ := List.mem_map.mp z
    exact h (Sum.inr.inj e ▸ hx)
theorem not_before {α : Type} {l : List α} {i : Nat} {x : α} (nd : l.Nodup) (h : l[i]? = some x) : x ∉ l.take i := by
  intro z
  obtain ⟨j, hj⟩ := List.getElem?_of_mem z
  rw [List.getElem?_take] at hj
  split at hj
  · have := (List.getElem?_inj (lt_of_get hj) nd).mp (hj.trans h.symm)
    omega
  · cases hj
end Kb
namespace Kb
open PySem PySem.Spec PyProof.Rows L2
theorem But.free {x p : Addr} {H H1 : Hp} (k : But x H H1) (b : Box H1 x) (h : H1 p = none) : H p = none := by
  cases e : H p with
  | none => rfl
  | some u =>
    by_cases w : p = x
    · obtain ⟨b0, b1, b2, hb⟩ := b
      rw [← w, h] at hb
      cases hb
    · rw [k p u w e] at h
      cases h
theorem Box.ne {x p : Addr} {H : Hp} (b : Box H x) (h : H p = none) : p ≠ x := fun w => by
  obtain ⟨b0, b1, b2, hb⟩ := b
  rw [← w, h] at hb
  cases hb
theorem Box.upd {x p : Addr} {H : Hp} {o : HO} (b : Box H x) (h : p ≠ x) : Box (upd H p o) x := by
  obtain ⟨b0, b1, b2, hb⟩ := b
  exact ⟨b0, b1, b2, by rw [upd_ne (Ne.symm h)]; exact hb⟩
section
variable {P : Program} {w : World} {K : PySem.W.Frag} {mg : Str → Option Value} {base : Heap}
theorem scPick : FnScope ["box", "some"] ["box", "some"] (defScope sPick) := ⟨rfl, rfl, rfl, by decide +kernel, rfl, by decide +kernel, by decide +kernel⟩
def spPick : Sp := fun vs H Q _ => ∃ (x a : Addr) (xs : List V), vs = [.ref x, .ref a] ∧ Box H x ∧ a ≠ x ∧ H a = some (.lst xs) ∧ 0 < xs.length ∧ xs.length < 1000000 ∧ ∀ (i : Nat) (v : V) H', xs[i]? = some v → But x H H' → Box H' x → Q v H'
theorem ok_pick {f fT : Addr} {fd fdT : FuncData} (F : Fun K "_law_pick" "_law_pick" sPick f fd) (FT : Fun K "_law_take" "_law_take" sTake fT fdT) (bT : Binds K fdT ["box", "many"] []) (gT : mg "_law_take" = some (.ref fT)) (mi : mg "int" = none) (ml : mg "len" = none) : FnOk P w K mg base CX0 2 f fd ["box", "some"] spPick := by
  have GT : FnOk P w K mg base CX0 1 fT fdT ["box", "many"] spTake := ok_take FT mi
  refine F.ok scPick (fun vs H Q E h => ?_) (fun cdv A outer s H vs Q E hr h => ?_)
  · obtain ⟨x, a, xs, rfl, _⟩ := h
    rfl
  · obtain ⟨x, a, xs, rfl, hx, hax, ha, h0, h1, q⟩ := h
    refine ⟨_, pss_one (ps_ret (pe_ix ix_list (pv 1) (pe_call GT hr (by rfl) gT FT.kp bT .nil pass0 (pa_cons (pv 0) (pa_cons (pe_callB call_len_seq (by rfl) ml PySem.boot_len (pa_cons (pv 1) pa_nil)) pa_nil))) (fun _ _ => rfl))), ?_⟩
    refine ⟨.ref a, rfl, .ref x, rfl, .ref a, rfl, a, xs, rfl, .inl (sqL_new ha), x, xs.length, rfl, hx, h0, h1, fun r H' hr k b => ?_⟩
    have hg : xs[r]? = some (xs[r]'hr) := List.getElem?_eq_getElem hr
    exact ⟨a, xs, _, _, rfl, rfl, sqL_new (k _ _ hax ha), atI_nat hg, q r _ H' hg k b⟩
end
end Kb
namespace Kb
open PySem PySem.Spec PyProof.Rows L2
/-! ### values as data: places, rows, lists of them -/
def natD (g : List Nat) : PyData := .tuple (g.map fun (i : Nat) => .int (i : Int))
/-- the lists of codes are the same: the texts are -/
theorem str_beq (x y : Str) : (x == y) = decide (x = y) := by
  by_cases h : x = y
  · subst h
    simp
  · rw [decide_eq_false h]
    exact beq_eq_false_iff_ne.mpr h
theorem eqvAll_map {α : Type} [DecidableEq α] {f : α → PyData} (h : ∀ a b, PyData.eqv (f a) (f b) = decide (a = b)) : ∀ l m : List α, PyData.eqvAll (l.map f) (m.map f) = decide (l = m)
  | [], [] => by simp [PyData.eqvAll]
  | [], _ :: _ => by simp [PyData.eqvAll]
  | _ :: _, [] => by simp [PyData.eqvAll]
  | x :: l, y :: m => by
    rw [List.map_cons, List.map_cons, PyData.eqvAll, h, eqvAll_map h l m]
    by_cases h1 : x = y <;> by_cases h2 : l = m <;> simp [h1, h2]
theorem eq_int (a b : Nat) : PyData.eqv (.int (a : Int)) (.int (b : Int)) = decide (a = b) := by
  rw [PyData.eqv]
  by_cases h : a = b
  · subst h
    simp
  · rw [decide_eq_false h]
    exact beq_eq_false_iff_ne.mpr (by omega)
theorem eq_str (a b : Str) : PyData.eqv (.str a) (.str b) = decide (a = b) := by
  rw [PyData.eqv, str_beq]
theorem eqN (g g' : List Nat) : PyData.eqv (natD g) (natD g') = decide (g = g') := by
  unfold natD
  rw [PyData.eqv, eqvAll_map (f := fun (i : Nat) => PyData.int (i : Int)) eq_int]
theorem eqR (r r' : List Str) : PyData.eqv (Ka.rowD r) (Ka.rowD r') = decide (r = r') := by
  unfold Ka.rowD
  rw [PyData.eqv, eqvAll_map eq_str]
theorem eqRows (l m : List (List Str)) : PyData.eqvAll (l.map Ka.rowD) (m.map Ka.rowD) = decide (l = m) := eqvAll_map eqR l m
theorem dep_le {α : Type} {f : α → PyData} {n : Nat} (h : ∀ a, (f a).depth ≤ n) : ∀ l : List α, PyData.depthAll (l.map f) ≤ n
  | [] => by simp [PyData.depthAll]
  | x :: l => by
    have h1 := h x
    have h2 := dep_le h l
    rw [List.map_cons]
    simp only [PyData.depthAll]
    omega
theorem lay_all {α : Type} {f : α → PyData} : ∀ l : List α, (∀ a ∈ l, (f a).canLay0 = true) → PyData.canLayAll0 (l.map f) = true
  | [], _ => by simp [PyData.canLayAll0]
  | x :: l, h => by
    rw [List.map_cons, PyData.canLayAll0, h x List.mem_cons_self, lay_all l fun a ha => h a (List.mem_cons_of_mem _ ha)]
    rfl
theorem shaped_of {d : PyData} (h1 : d.canLay0 = true) (h2 : d.depth ≤ 64) : SeqAt.shaped d = true := by
  unfold SeqAt.shaped
  rw [h1, decide_eq_true h2]
  rfl
theorem depN (g : List Nat) : (natD g).depth ≤ 2 := by
  unfold natD
  have := dep_le (f := fun (i : Nat) => PyData.int (i : Int)) (n := 1) (fun a => by simp [PyData.depth]) g
  simp only [PyData.depth]
  omega
theorem layN (g : List Nat) : (natD g).canLay0 = true := by
  unfold natD
  rw [PyData.canLay0]
  exact lay_all g fun a _ => by rw [PyData.canLay0]
theorem shN (g : List Nat) : SeqAt.shaped (natD g) = true := shaped_of (layN g) (Nat.le_trans (depN g) (by decide))
theorem depR (r : List Str) : (Ka.rowD r).depth ≤ 2 := by
  unfold Ka.rowD
  have := dep_le (f := PyData.str) (n := 1) (fun a => by simp [PyData.depth]) r
  simp only [PyData.depth]
  omega
theorem name_ok {z : Str} (h : isName z = true) : PyData.strOk z = true := by
  unfold isName at h
  rw [Bool.and_eq_true] at h
  unfold PyData.strOk
  rw [← Array.all_toList, List.all_eq_true]
  intro c hc
  have := List.all_eq_true.mp h.2 c hc
  unfold lowC at this
  rw [Bool.and_eq_true] at this
  have := of_decide_eq_true this.2
  exact decide_eq_true (by omega)
theorem layR {r : List Str} (h : ∀ z ∈ r, isName z = true) : (Ka.rowD r).canLay0 = true := by
  unfold Ka.rowD
  rw [PyData.canLay0]
  exact lay_all r fun a ha => by rw [PyData.canLay0]; exact name_ok (h a ha)
theorem shR {r : List Str} (h : ∀ z ∈ r, isName z = true) : SeqAt.shaped (Ka.rowD r) = true := shaped_of (layR h) (Nat.le_trans (depR r) (by decide))
theorem shRows {l : List (List Str)} (h : ∀ r ∈ l, ∀ z ∈ r, isName z = true) : SeqAt.shaped (.list (l.map Ka.rowD)) = true ∧ SeqAt.shaped (.tuple (l.map Ka.rowD)) = true := by
  have h1 := dep_le (f := Ka.rowD) (n := 2) depR l
  have h2 := lay_all (f := Ka.rowD) l fun r hr => layR (h r hr)
  exact ⟨shaped_of (by rw [PyData.canLay0]; exact h2) (by simp only [PyData.depth]; omega), shaped_of (by rw [PyData.canLay0]; exact h2) (by simp only [PyData.depth]; omega)⟩
section
variable {K : PySem.W.Frag} {H : Hp}
theorem dpNs : ∀ g : List Nat, DpAll K H (natV g) (g.map fun (i : Nat) => .int (i : Int))
  | [] => .nil
  | i :: g => .cons (.int _) (dpNs g)
theorem dpN {p : Addr} {g : List Nat} (h : H p = some (.tup (natV g))) : Dp K H (.ref p) (natD g) := .tup (sqT_new h) (dpNs g)
theorem dpRs : ∀ r : List Str, DpAll K H (r.map V.str) (r.map .str)
  | [] => .nil
  | i :: g => .cons (.str _) (dpRs g)
theorem dpR {p : Addr} {r : List Str} (h : H p = some (.tup (r.map V.str))) : Dp K H (.ref p) (Ka.rowD r) := .tup (sqT_new h) (dpRs r)
end
end Kb
namespace Kb
open PySem PySem.Spec PyProof.Rows L2
/-! ### texts as lists of signs -/
def ls (z : Str) : List Nat := z.cps.toList
theorem ls_len (z : Str) : z.length = (ls z).length := by
  unfold ls
  rw [Array.length_toList]
  rfl
theorem ls_inj {a b : Str} (h : ls a = ls b) : a = b := by
  obtain ⟨a⟩ := a
  obtain ⟨b⟩ := b
  exact congrArg Str.mk (Array.toList_inj.mp h)
theorem ls_add (a b : Str) : ls (a ++ b) = ls a ++ ls b := TL.tl_append a b
theorem ls_cutTo (z : Str) (k : Nat) : ls (cutS z none (some (k : Int))) = (ls z).take k := by
  unfold cutS ls
  rw [HT.sIx_nat, HT.sIx_none, List.drop_zero, Nat.sub_zero]
  show ((z.cps.toList.take _).toArray).toList = _
  rw [List.toList_toArray, ls_len]
  unfold ls
  by_cases h : k ≤ z.cps.toList.length
  · rw [Nat.min_eq_left h]
  · rw [Nat.min_eq_right (by omega), List.take_length, List.take_of_length_le (by omega)]
theorem ls_cutFrom (z : Str) (k : Nat) : ls (cutS z (some (k : Int)) none) = (ls z).drop k := by
  unfold cutS ls
  rw [HT.sIx_nat, HT.sIx_none]
  show (((z.cps.toList.drop _).take _).toArray).toList = _
  rw [List.toList_toArray, ls_len]
  unfold ls
  by_cases h : k ≤ z.cps.toList.length
  · rw [Nat.min_eq_left h, List.take_of_length_le (by rw [List.length_drop]; exact Nat.le_refl _)]
  · rw [Nat.min_eq_right (by omega), List.drop_length, List.drop_eq_nil_of_le (by omega), List.take_nil]
theorem joinL_nil : ∀ parts : List (List Nat), TL.joinL [] parts = parts.flatten
  | [] => rfl
  | [p] => by simp [TL.joinL]
  | p :: q :: r => by
    rw [TL.joinL, joinL_nil (q :: r)]
    rfl
theorem ls_join (ys : List Str) : ls (Txt.join (Str.ofString "") ys) = (ys.map ls).flatten := by
  rw [TL.join_eq]
  show TL.tl (Str.join (Str.ofString "") ys) = _
  rw [TL.tl_join]
  have e : TL.tl (Str.ofString "") = [] := by decide +kernel
  rw [e, joinL_nil]
  rfl
theorem name_iff {z : Str} : isName z = true ↔ 1 ≤ (ls z).length ∧ (ls z).length ≤ 5 ∧ ∀ c ∈ ls z, lowC c = true := by
  unfold isName ls
  rw [Bool.and_eq_true, Bool.and_eq_true, decide_eq_true_eq, decide_eq_true_eq, List.all_eq_true, Array.length_toList, and_assoc]
/-! ### the next letter, and why names end up unlike -/
def abc : Str := Str.ofString "abcdefghijklmnopqrstuvwxyz"
theorem abc_at : ∀ r : Fin 26, (ls abc)[r.1]? = some (97 + r.1) := by decide +kernel
theorem abc_index : ∀ r : Fin 26, Txt.index0 abc ⟨#[97 + r.1]⟩ = some r.1 := by decide +kernel
theorem low_of {c : Nat} (h : lowC c = true) : ∃ r : Fin 26, c = 97 + r.1 := by
  unfold lowC at h
  rw [Bool.and_eq_true, decide_eq_true_eq, decide_eq_true_eq] at h
  exact ⟨⟨c - 97, by omega⟩, by show c = 97 + (c - 97); omega⟩
theorem low_mk (r : Nat) : lowC (97 + r % 26) = true := by
  unfold lowC
  rw [Bool.and_eq_true, decide_eq_true_eq, decide_eq_true_eq]
  omega
theorem nodup_len {α : Type} [DecidableEq α] : ∀ {l m : List α}, l.Nodup → (∀ x ∈ l, x ∈ m) → l.length ≤ m.length
  | [], _, _, _ => Nat.zero_le _
  | x :: l, m, h, s => by
    rw [List.nodup_cons] at h
    have hx := s x List.mem_cons_self
    have h2 := nodup_len (l := l) (m := m.erase x) h.2 fun y hy => by
      have hne : y ≠ x := fun e => h.1 (e ▸ hy)
      exact (List.mem_erase_of_ne hne).mpr (s y (List.mem_cons_of_mem _ hy))
    rw [List.length_erase_of_mem hx] at h2
    have := List.length_pos_of_mem hx
    rw [List.length_cons]
    omega
/-- the name init ++ the letter c0 + k -/
def nm (init : List Nat) (c0 k : Nat) : Str := ⟨(init ++ [97 + (c0 + k) % 26]).toArray⟩
theorem nm_ls (init : List Nat) (c0 k : Nat) : ls (nm init c0 k) = init ++ [97 + (c0 + k) % 26] := by
  unfold ls nm
  simp
theorem nm_few {init : List Nat} {c0 n : Nat} {found : List Str} (hn : n ≤ 26) (h : ∀ k, k < n → nm init c0 k ∈ found) : n ≤ found.length := by
  have h1 : ((List.range n).map (nm init c0)).Nodup := by
    rw [List.nodup_iff_pairwise_ne, List.pairwise_map]
    refine List.Pairwise.imp_of_mem ?_ (List.nodup_iff_pairwise_ne.mp List.nodup_range)
    intro i j hi hj hne e
    have e2 := congrArg ls e
    rw [nm_ls, nm_ls] at e2
    have e3 := List.append_cancel_left e2
    rw [List.cons.injEq] at e3
    rw [List.mem_range] at hi hj
    have e4 := e3.1
    omega
  have h2 := nodup_len h1 (m := found) fun x hx => by
    obtain ⟨k, hk, rfl⟩ := List.mem_map.mp hx
    exact h k (List.mem_range.mp hk)
  rw [List.length_map, List.length_range] at h2
  exact h2
theorem nm_name {init : List Nat} {c0 k : Nat} (h1 : init.length ≤ 4) (h2 : ∀ c ∈ init, lowC c = true) : isName (nm init c0 k) = true := by
  rw [name_iff, nm_ls]
  refine ⟨by simp, by simp; omega, fun c hc => ?_⟩
  rcases List.mem_append.mp hc with h | h
  · exact h2 c h
  · rw [List.mem_singleton.mp h]
    exact low_mk _
/-- a name is of that form -/
theorem nm_of {z : Str} (h : isName z = true) : ∃ init c0, z = nm init c0 0 ∧ init.length ≤ 4 ∧ ∀ c ∈ init, lowC c = true := by
  obtain ⟨h1, h2, h3⟩ := name_iff.mp h
  have hne : ls z ≠ [] := fun e => by
    rw [e] at h1
    simp at h1
  have e := List.dropLast_concat_getLast hne
  obtain ⟨r, hr⟩ := low_of (h3 _ (List.getLast_mem hne))
  refine ⟨(ls z).dropLast, r.1, ls_inj ?_, by rw [List.length_dropLast]; omega, fun c hc => h3 c ((List.dropLast_sublist _).subset hc)⟩
  rw [nm_ls, Nat.add_zero, Nat.mod_eq_of_lt r.2, ← hr]
  exact e.symm
theorem shStrs {l : List Str} (h : ∀ z ∈ l, isName z = true) : SeqAt.shaped (.list (l.map .str)) = true := by
  have h1 := dep_le (f := PyData.str) (n := 1) (fun a => by simp [PyData.depth]) l
  exact shaped_of (by rw [PyData.canLay0]; exact lay_all l fun a ha => by rw [PyData.canLay0]; exact name_ok (h a ha)) (by simp only [PyData.depth]; omega)
theorem inV_str (z : Str) : ∀ ns : List Str, inV (.str z) (ns.map V.str) = decide (z ∈ ns)
  | [] => by simp [inV]
  | y :: ns => by
    have ih := inV_str z ns
    unfold inV at ih ⊢
    rw [List.map_cons, List.any_cons, ih]
    show ((y == z) || _) = _
    rw [str_beq]
    by_cases h1 : y = z
    · subst h1
      simp
    · have h2 : ¬ z = y := fun e => h1 e.symm
      simp [h1, h2]
theorem flat_strs (ns : List Str) : (ns.map V.str).all flatV = true := by
  rw [List.all_map, List.all_eq_true]
  exact fun _ _ => rfl
theorem letters_join {zs : List Str} (h : ∀ z ∈ zs, ∃ c, ls z = [c] ∧ lowC c = true) : (zs.map ls).flatten.length = zs.length ∧ (∀ c ∈ (zs.map ls).flatten, lowC c = true) ∧ (zs.map (·.length)).sum = zs.length := by
  induction zs with
  | nil => exact ⟨rfl, (fun c hc => by cases hc), rfl⟩
  | cons z zs ih =>
    obtain ⟨h1, h2, h3⟩ := ih fun y hy => h y (List.mem_cons_of_mem _ hy)
    obtain ⟨c, e, hc⟩ := h z List.mem_cons_self
    refine ⟨?_, fun d hd => ?_, ?_⟩
    · rw [List.map_cons, List.flatten_cons, List.length_append, h1, e, List.length_singleton, List.length_cons]
      omega
    · rw [List.map_cons, List.flatten_cons, e, List.mem_append, List.mem_singleton] at hd
      rcases hd with rfl | hd
      · exact hc
      · exact h2 d hd
    · rw [List.map_cons, List.sum_cons, h3, List.length_cons, ls_len, e]
      show 1 + zs.length = _
      omega
end Kb
namespace Kb
open PySem PySem.Spec PyProof.Rows L2
/-- the k-th name: the stem with a letter put in, or the letter -/
def NameAt (S : List Nat) (p f k : Nat) (z : Str) : Prop := ls z = S.take p ++ (97 + (f + 7 * k) % 26) :: S.drop p ∨ ls z = [97 + (f + 7 * k) % 26]
theorem name_eq {S : List Nat} {p f k j : Nat} {z : Str} (h1 : NameAt S p f k z) (h2 : NameAt S p f j z) : (f + 7 * k) % 26 = (f + 7 * j) % 26 := by
  have one : ∀ {a b : Nat}, S.take p ++ (97 + a) :: S.drop p = [97 + b] → a = b := fun {a b} e => by
    have hl := congrArg List.length e
    rw [List.length_append, List.length_cons] at hl
    have h0 : (S.take p).length = 0 := by
      rw [List.length_singleton] at hl
      omega
    rw [List.eq_nil_of_length_eq_zero h0, List.nil_append] at e
    have := (List.cons.inj e).1
    omega
  rcases h1 with h1 | h1 <;> rcases h2 with h2 | h2
  · have e := List.append_cancel_left (h1.symm.trans h2)
    have := (List.cons.inj e).1
    omega
  · exact one (h1.symm.trans h2)
  · exact (one (h2.symm.trans h1)).symm
  · have := (List.cons.inj (h1.symm.trans h2)).1
    omega
theorem names_nd {S : List Nat} {p f : Nat} {ns : List Str} (hl : ns.length ≤ 12) (h : ∀ (k : Nat) (z : Str), ns[k]? = some z → NameAt S p f k z) : ns.Nodup := by
  rw [List.nodup_iff_pairwise_ne, List.pairwise_iff_getElem]
  intro i j hi hj hij e
  have h1 := h i ns[i] (List.getElem?_eq_getElem hi)
  have h2 := h j ns[j] (List.getElem?_eq_getElem hj)
  rw [← e] at h2
  have := name_eq h1 h2
  omega
theorem noLetter : ∀ c ∈ ls (Str.ofString ""), lowC c = true := by
  have e : ls (Str.ofString "") = [] := by decide +kernel
  rw [e]
  exact fun c hc => nomatch hc
section
variable {P : Program} {w : World} {K : PySem.W.Frag} {mg : Str → Option Value} {base : Heap}
abbrev nNm : List Str := ["box", "many", "letters", "stem", "turn", "place", "first", "found", "k", "mark"]
theorem scNames : FnScope nNm ["box", "many"] (defScope sNames) := ⟨rfl, rfl, rfl, by decide +kernel, rfl, by decide +kernel, by decide +kernel⟩
def spNames : Sp := fun vs H Q _ => ∃ (x : Addr) (n : Nat), vs = [.ref x, .int (n : Nat)] ∧ Box H x ∧ n ≤ 12 ∧ ∀ (p : Addr) (ns : List Str) H', ns.length = n → ns.Nodup → (∀ z ∈ ns, isName z = true) → But x H H' → Box H' x → H p = none → H' p = some (.lst (ns.map V.str)) → Q (.ref p) H'
theorem ok_names {f fT : Addr} {fd fdT : FuncData} (F : Fun K "_law_names" "_law_names" sNames f fd) (FT : Fun K "_law_take" "_law_take" sTake fT fdT) (bT : Binds K fdT ["box", "many"] []) (gT : mg "_law_take" = some (.ref fT)) (mi : mg "int" = none) (ml : mg "len" = none) (mr : mg "range" = none) : FnOk P w K mg base CX0 2 f fd ["box", "many"] spNames := by
  have GT : FnOk P w K mg base CX0 1 fT fdT ["box", "many"] spTake := ok_take FT mi
  refine F.ok scNames (fun vs H Q E h => ?_) (fun cdv A outer s H vs Q E hr h => ?_)
  · obtain ⟨x, n, rfl, _⟩ := h
    rfl
  · obtain ⟨x, n, rfl, hx, hn, q⟩ := h
    refine ⟨_, pss_cons (ps_set (i := 2) scNames.nd rfl (.inl rfl) pe_str) (pss_cons (ps_set (i := 3) scNames.nd rfl (.inl rfl) pe_str)
      (pss_cons (ps_for PassesOwn.never rfl (pi_range1 (by rfl) mr (pa_cons (pe_call GT hr (by rfl) gT FT.kp bT .nil pass0 (pa_cons (pv 0) (pa_cons pe_int pa_nil))) pa_nil)) (pg_name (i := 4) scNames.nd rfl (.inl rfl))
        (pss_one (ps_set (i := 3) scNames.nd rfl (.inl rfl) (pe_op op_add_str (pv 3) (pe_ix ix_str (pv 2) (pe_call GT hr (by rfl) gT FT.kp bT .nil pass0 (pa_cons (pv 0) (pa_cons pe_int pa_nil))) (fun _ _ => rfl))))))
      (pss_cons (ps_set (i := 5) scNames.nd rfl (.inl rfl) (pe_call GT hr (by rfl) gT FT.kp bT .nil pass0 (pa_cons (pv 0) (pa_cons (pe_op op_add (pe_callB call_len (by rfl) ml PySem.boot_len (pa_cons (pv 3) pa_nil)) pe_int) pa_nil))))
      (pss_cons (ps_set (i := 6) scNames.nd rfl (.inl rfl) (pe_call GT hr (by rfl) gT FT.kp bT .nil pass0 (pa_cons (pv 0) (pa_cons pe_int pa_nil))))
      (pss_cons (ps_set (i := 7) scNames.nd rfl (.inl rfl) (pe_lst pa_nil))
      (pss_cons (ps_for PassesOwn.never rfl (pi_range1 (by rfl) mr (pa_cons (pv 1) pa_nil)) (pg_name (i := 8) scNames.nd rfl (.inl rfl))
        (pss_cons (ps_set (i := 9) scNames.nd rfl (.inl rfl) (pe_ix ix_str (pv 2) (pe_op op_mod (pe_callTy call_int1 (by rfl) mi (by decide +kernel) (pa_cons (pe_op op_add (pv 6) (pe_op op_mul pe_int (pv 8))) pa_nil)) pe_int) (fun _ _ => rfl)))
        (pss_one (ps_expr (pe_bm PySem.F.plainAttrs_list PySem.F.slot_list_append PySem.F.type_list_append mt_append (pv 7) (pa_cons (pe_ix ix_list (pe_lst (pa_cons (pe_op op_add_str (pe_op op_add_str (pe_slice sl_str (pv 3) po_none (po_some (pv 5))) (pv 9)) (pe_slice sl_str (pv 3) (po_some (pv 5)) po_none)) (pa_cons (pv 9) pa_nil)))
          (pe_callTy call_int1 (by rfl) mi (by decide +kernel) (pa_cons (pe_cmpR op_eq (pe_call GT hr (by rfl) gT FT.kp bT .nil pass0 (pa_cons (pv 0) (pa_cons pe_int pa_nil))) pe_int (nomark _)) pa_nil)) (fun _ _ => rfl)) pa_nil))))))
      (pss_one (ps_ret (pv 7))))))))), ?_⟩
    refine ⟨.ref x, rfl, x, 5, rfl, hx, by decide, by decide, fun r H1 hr5 k1 b1 => ?_⟩
    refine ⟨(r : Nat), rfl, by omega, by omega, ?_⟩
    refine for_range (lo := 0) (n := r) (fun i σ H' => ∃ d4 st, σ = [some (.ref x), some (.int (n : Nat)), some (.str abc), some (.str st), d4, none, none, none, none, none] ∧ But x H H' ∧ Box H' x ∧ (ls st).length = i ∧ ∀ c ∈ ls st, lowC c = true)
      ⟨none, Str.ofString "", rfl, k1, b1, by decide +kernel, noLetter⟩ ?_ ?_
    · rintro i σ H' hi ⟨d4, st, rfl, k, b, hl, hlow⟩
      refine ⟨.str st, rfl, .str abc, rfl, .ref x, rfl, x, 26, rfl, b, by decide, by decide, fun r2 H2 h26 k2 b2 => ?_⟩
      refine ⟨_, _, 97 + r2, rfl, rfl, (by decide +kernel), atI_nat (abc_at ⟨r2, h26⟩), _, _, rfl, rfl, ?_, ?_⟩
      · rw [ls_len, hl]
        refine smallE ?_
        show i + 1 ≤ 1000000
        omega
      · refine ⟨_, st ++ ⟨#[97 + r2]⟩, rfl, k.trans k2, b2, ?_, fun c hc => ?_⟩
        · rw [ls_add, List.length_append, hl]
          rfl
        · rw [ls_add] at hc
          rcases List.mem_append.mp hc with h | h
          · exact hlow c h
          · have h : c ∈ [97 + r2] := h
            rw [List.mem_singleton.mp h]
            have := low_mk r2
            rwa [Nat.mod_eq_of_lt h26] at this
    · rintro σ H' ⟨d4, st, rfl, k, b, hl, hlow⟩
      have stsz : st.length ≤ sizeLine := smallE (by rw [ls_len, hl]; omega)
      have el : (st.length : Int) + 1 = ((st.length + 1 : Nat) : Int) := by omega
      refine ⟨.ref x, rfl, .str st, rfl, .str st, _, rfl, ⟨stsz, rfl⟩, _, 1, rfl, rfl, x, st.length + 1, by rw [← el]; rfl, b, by omega, by rw [ls_len, hl]; omega, fun pl H2 hpl k2 b2 => ?_⟩
      refine ⟨.ref x, rfl, x, 26, rfl, b2, by decide, by decide, fun f1 H3 hf k3 b3 => ?_⟩
      refine ⟨Nat.zero_le _, fun o no => ?_⟩
      have k13 := (k.trans k2).trans k3
      have hox : o ≠ x := b3.ne no
      have noH : H o = none := k13.free b3 no
      have k4 : But x H3 (upd H3 o (.lst [])) := But.of (same_new no)
      have eo0 : upd H3 o (.lst []) o = some (.lst (([] : List Str).map V.str)) := upd_same
      have b4 : Box (upd H3 o (.lst [])) x := b3.upd hox
      generalize upd H3 o (.lst []) = H4 at k4 eo0 b4
      refine ⟨.int (n : Nat), rfl, (n : Nat), rfl, by omega, by omega, ?_⟩
      refine for_range (lo := 0) (n := n) (fun i σ H' => ∃ d8 d9 ns, σ = [some (.ref x), some (.int (n : Nat)), some (.str abc), some (.str st), d4, some (.int (pl : Nat)), some (.int (f1 : Nat)), some (.ref o), d8, d9] ∧ But x H3 H' ∧ Box H' x ∧ H' o = some (.lst ((ns : List Str).map V.str)) ∧ ns.length = i ∧ (∀ (j : Nat) (z : Str), ns[j]? = some z → NameAt (ls st) pl f1 j z) ∧ ∀ z ∈ ns, isName z = true)
        ⟨none, none, [], rfl, k4, b4, eo0, rfl, (fun j z h => nomatch h), fun z hz => nomatch hz⟩ ?_ ?_
      · rintro i σ H' hi ⟨d8, d9, ns, rfl, k5, b5, eo, hln, hns, hnm⟩
        have emod : ((f1 : Int) + 7 * (0 + (i : Int))) % 26 = (((f1 + 7 * i) % 26 : Nat) : Int) := by omega
        have h26 : (f1 + 7 * i) % 26 < 26 := Nat.mod_lt _ (by decide)
        refine ⟨.str abc, rfl, .int (f1 : Nat), rfl, .int (0 + (i : Int)), rfl, 7, (0 + (i : Int)), rfl, rfl, .inl (by decide), _, _, rfl, rfl, .inl ⟨_, rfl, _, 26, rfl, rfl, (by show (0 : Int) < 26; decide), ?_⟩⟩
        refine ⟨_, ((((f1 + 7 * i) % 26 : Nat)) : Int), 97 + (f1 + 7 * i) % 26, rfl, congrArg V.int emod, (by decide +kernel), atI_nat (abc_at ⟨_, h26⟩), ?_⟩
        have e3 : (⟨#[97 + (f1 + 7 * i) % 26]⟩ : Str).length = 1 := rfl
        refine ⟨.ref o, rfl, .inl ⟨rfl, _, sqL_new eo⟩, ?_⟩
        refine ⟨.str st, rfl, .int (pl : Nat), rfl, _, rfl, st, rfl, stsz, .str ⟨#[97 + (f1 + 7 * i) % 26]⟩, rfl, _, _, rfl, rfl, ?_, .str st, rfl, .int (pl : Nat), rfl, _, rfl, ?_⟩
        · rw [ls_len, ls_cutTo, List.length_take, e3]
          exact smallE (by omega)
        dsimp only [tNoPart]
        refine ⟨st, rfl, stsz, _, _, rfl, rfl, ?_, .str ⟨#[97 + (f1 + 7 * i) % 26]⟩, rfl, (by show 2 ≤ sizeLine; exact smallE (by decide)), fun l nl => ?_⟩
        · rw [ls_len, ls_len, ls_add, List.length_append, ls_cutTo, ls_cutFrom, List.length_take, List.length_drop]
          show _ + 1 + _ ≤ sizeLine
          exact smallE (by omega)
        have hlx : l ≠ x := b5.ne nl
        have k6 : But x H' (upd H' l (.lst [.str (cutS st none (some ((pl : Nat) : Int)) ++ ⟨#[97 + (f1 + 7 * i) % 26]⟩ ++ cutS st (some ((pl : Nat) : Int)) none), .str ⟨#[97 + (f1 + 7 * i) % 26]⟩])) := But.of (same_new nl)
        refine ⟨.ref x, rfl, x, 6, rfl, b5.upd hlx, by decide, by decide, fun r6 H6 h6 k7 b7 => ?_⟩
        have k67 := k6.trans k7
        have el6 := k7 _ _ hlx upd_same
        refine ⟨rfl, .inr ⟨_, rfl, ?_⟩⟩
        have hat : ∃ z : Str, atI [V.str (cutS st none (some ((pl : Nat) : Int)) ++ ⟨#[97 + (f1 + 7 * i) % 26]⟩ ++ cutS st (some ((pl : Nat) : Int)) none), V.str ⟨#[97 + (f1 + 7 * i) % 26]⟩] (if decide (V.int (r6 : Nat) = V.int 0) = true then 1 else 0) = some (.str z) ∧ NameAt (ls st) pl f1 i z := by
          by_cases h : decide (V.int (r6 : Nat) = V.int 0) = true
          · rw [if_pos h]
            exact ⟨_, rfl, .inr rfl⟩
          · rw [if_neg h]
            refine ⟨_, rfl, .inl ?_⟩
            rw [ls_add, ls_add, ls_cutTo, ls_cutFrom, List.append_assoc]
            rfl
        obtain ⟨z, hz, hzn⟩ := hat
        have eo6 := k67 _ _ hox eo
        refine ⟨l, _, _, .str z, rfl, rfl, sqL_new el6, hz, ?_⟩
        refine ⟨o, _, _, rfl, rfl, eo6, by rw [List.length_map]; exact small (by omega), ?_⟩
        refine ⟨_, _, ns ++ [z], rfl, fun c u hc e => ?_, b7.upd hox, by rw [upd_same, List.map_append]; rfl, by rw [List.length_append, hln]; rfl, fun j y hj => ?_, fun y hy => ?_⟩
        · rw [upd_ne (ne_of_none e no)]
          exact k67 _ _ hc (k5 _ _ hc e)
        · by_cases hjn : j < ns.length
          · rw [List.getElem?_append_left hjn] at hj
            exact hns j y hj
          · have hj2 := lt_of_get hj
            rw [List.length_append, List.length_singleton] at hj2
            obtain rfl : j = i := by omega
            rw [List.getElem?_append_right (by omega), hln, Nat.sub_self] at hj
            cases hj
            exact hzn
        · rcases List.mem_append.mp hy with h | h
          · exact hnm y h
          · rw [List.mem_singleton.mp h, name_iff]
            rcases hzn with e | e
            · rw [e, List.length_append, List.length_cons, List.length_take, List.length_drop]
              refine ⟨by omega, by omega, fun c hc => ?_⟩
              rcases List.mem_append.mp hc with h | h
              · exact hlow c (List.mem_of_mem_take h)
              · rcases List.mem_cons.mp h with h | h
                · rw [h]
                  exact low_mk _
                · exact hlow c (List.mem_of_mem_drop h)
            · rw [e]
              refine ⟨Nat.le_refl _, (by show 1 ≤ 5; decide), fun c hc => ?_⟩
              rw [List.mem_singleton.mp hc]
              exact low_mk _
      · rintro σ H' ⟨d8, d9, ns, rfl, k5, b5, eo, hln, hns, hnm⟩
        refine ⟨.ref o, rfl, ?_⟩
        exact q o ns H' hln (names_nd (by omega) hns) hnm (k13.trans k5) b5 noH eo
end
end Kb
namespace Kb
open PySem PySem.Spec PyProof.Rows L2
section
variable {P : Program} {w : World} {K : PySem.W.Frag} {mg : Str → Option Value} {base : Heap}
theorem scBegun : FnScope ["row", "other", "many", "deed"] ["row", "other"] (defScope sBegun) := ⟨rfl, rfl, rfl, by decide +kernel, rfl, by decide +kernel, by decide +kernel⟩
def spBegun (K : PySem.W.Frag) : Sp := fun vs H Q _ => ∃ (a b : Addr) (us zs : List Str), vs = [.ref a, .ref b] ∧ SqT K H a (us.map V.str) ∧ SqT K H b (zs.map V.str) ∧ Q (.int (Kf.beg us zs : Nat)) H
theorem ok_begun {f : Addr} {fd : FuncData} (F : Fun K "begun" "begun" sBegun f fd) (ml : mg "len" = none) : FnOk P w K mg base CX0 1 f fd ["row", "other"] (spBegun K) := by
  refine F.ok scBegun (fun vs H Q E h => ?_) (fun cdv A outer s H vs Q E hr h => ?_)
  · obtain ⟨a, b, us, zs, rfl, _⟩ := h
    rfl
  · obtain ⟨a, b, us, zs, rfl, hA, hB, q⟩ := h
    refine ⟨_, pss_cons (ps_set (i := 2) scBegun.nd rfl (.inl rfl) pe_int)
      (pss_cons (ps_for PassesOwn.never rfl (pi_tup (pv 1)) (pg_name (i := 3) scBegun.nd rfl (.inl rfl))
        (pss_one (ps_if (PW.pt (pw_and (pt_cmpR op_lt (pv 2) (pe_callB call_len_seq (by rfl) ml PySem.boot_len (pa_cons (pv 0) pa_nil)) (nomark _)) (pw_and1 (pt_cmpR op_eq (pe_ix ix_tup (pv 0) (pv 2) (fun _ _ => rfl)) (pv 3) (nomark _)))))
          (pss_one (ps_aug (i := 2) scBegun.nd rfl (.inl rfl) pe_int ip_add)) pss_nil)))
      (pss_one (ps_ret (pv 2)))), ?_⟩
    refine ⟨.ref b, rfl, b, rfl, ⟨_, hB⟩, ?_⟩
    refine for_tup (K := K) (a := b) (xs := zs.map V.str) (fun i σ H' => ∃ (m : Nat) (d : Option V), σ = [some (.ref a), some (.ref b), some (.int (m : Nat)), d] ∧ H' = H ∧ m + Kf.beg (us.drop m) (zs.drop i) = Kf.beg us zs)
      ⟨0, none, rfl, rfl, by rw [List.drop_zero, List.drop_zero, Nat.zero_add]⟩ (fun i σ H' _ ⟨_, _, _, e, _⟩ => by rw [e]; exact hB) ?_ ?_
    · rintro i x σ H' hx ⟨m, d, rfl, rfl, eq⟩
      obtain ⟨z, hz, rfl⟩ := get_map hx
      rw [drop_of_get hz, Kf.beg_step] at eq
      refine ⟨.int (m : Nat), rfl, .ref a, rfl, a, _, rfl, .inr hA, _, _, rfl, rfl, _, rfl, ite2 (fun c => ?_) (fun c => ?_)⟩
      · have c := of_decide_eq_true c
        rw [List.length_map] at c
        have hm : m < us.length := by omega
        have hg : us[m]? = some us[m] := List.getElem?_eq_getElem hm
        refine ⟨.ref a, rfl, .int (m : Nat), rfl, a, _, _, _, rfl, rfl, hA, atI_nat (by rw [List.getElem?_map, hg]; rfl), .str z, rfl, rfl, _, rfl, ite2 (fun c2 => ?_) (fun c2 => ?_)⟩
        · have e2 : us[m] = z := V.str.inj (of_decide_eq_true c2)
          rw [hg, e2, if_pos rfl] at eq
          refine ⟨_, rfl, _, 1, rfl, rfl, ?_⟩
          exact ⟨m + 1, _, rfl, rfl, by omega⟩
        · have e2 : us[m] ≠ z := fun e => c2 (decide_eq_true (by rw [e]))
          rw [hg, if_neg fun e => e2 (Option.some.inj e)] at eq
          exact ⟨m, _, rfl, rfl, eq⟩
      · have c : ¬ ((m : Int) < ((us.map V.str).length : Nat)) := fun z => c (decide_eq_true z)
        rw [List.length_map] at c
        rw [List.getElem?_eq_none (by omega), if_neg fun e => nomatch e] at eq
        exact ⟨m, _, rfl, rfl, eq⟩
    · rintro σ H' ⟨m, d, rfl, rfl, eq⟩
      rw [List.length_map, List.drop_length, Kf.beg_nil, Nat.add_zero] at eq
      refine ⟨_, rfl, ?_⟩
      rw [eq]
      exact q
end
end Kb
namespace Kb
open PySem PySem.Spec PyProof.Rows L2
section
variable {K : PySem.W.Frag}
/-- new or one of them, and exact -/
theorem catX {H : Hp} {a b : Addr} {xs ys : List V} {Q : VK} (hx : H a = some (.tup xs)) (hy : H b = some (.tup ys)) (hl : xs.length + ys.length ≤ 100000) (q : ∀ H' p, Same H H' → H' p = some (.tup (xs ++ ys)) → Q (.ref p) H') : rCatA K (.ref a) (.ref b) H Q := by
  refine ⟨a, b, xs, ys, rfl, rfl, sqT_new hx, sqT_new hy, smallE (by omega), fun e => ?_, fun _ e => ?_, fun _ _ p np => ?_⟩
  · exact q H b (fun _ _ h => h) (by rw [e]; exact hy)
  · exact q H a (fun _ _ h => h) (by rw [e, List.append_nil]; exact hx)
  · exact q _ p (same_new np) upd_same
theorem takeX {H : Hp} {a : Addr} {xs : List V} {j : Nat} {Q : VK} (hA : H a = some (.tup xs)) (q : ∀ H' p, Same H H' → H' p = some (.tup (xs.take j)) → Q (.ref p) H') : rSlA K (.ref a) none (some (j : Int)) H Q :=
  slA_take (sqT_new hA) (fun e => q H a (fun _ _ h => h) (by rw [e]; exact hA)) fun p np => q _ p (same_new np) upd_same
theorem dropX {H : Hp} {a : Addr} {xs : List V} {j : Nat} {Q : VK} (hA : H a = some (.tup xs)) (q : ∀ H' p, Same H H' → H' p = some (.tup (xs.drop j)) → Q (.ref p) H') : rSlA K (.ref a) (some (j : Int)) none H Q :=
  slA_drop (sqT_new hA) (fun e => q H a (fun _ _ h => h) (by rw [e]; exact hA)) fun p np => q _ p (same_new np) upd_same
end
section
variable {P : Program} {w : World} {K : PySem.W.Frag} {mg : Str → Option Value} {base : Heap}
abbrev nMk : List Str := ["box", "names", "letters", "most", "kind", "plain", "found", "k", "size", "row", "place", "turn"]
theorem scMaking : FnScope nMk ["box", "names", "letters", "most"] (defScope sMaking) := ⟨rfl, rfl, rfl, by decide +kernel, rfl, by decide +kernel, by decide +kernel⟩
def spMaking : Sp := fun vs H Q _ => ∃ (x a l : Addr) (m : Nat) (ns lt : List Str), vs = [.ref x, .ref a, .ref l, .int (m : Nat)] ∧ Box H x ∧ H a = some (.lst (ns.map V.str)) ∧ H l = some (.lst (lt.map V.str)) ∧ a ≠ x ∧ l ≠ x ∧ ns.Nodup ∧ 0 < ns.length ∧ ns.length ≤ 4 ∧ 0 < lt.length ∧ lt.length ≤ 1000 ∧ (∀ z ∈ lt, isName z = true) ∧ 0 < m ∧ m ≤ 5 ∧
  ∀ (d : Addr) (M : MK) H', But x H H' → Box H' x → H d = none → H' d = some (.dK (kvM M)) → Stand H' M → M.map (·.1) = ns → (∀ t ∈ M, t.2.2.length ≤ m) → (∀ t ∈ M, ∀ z ∈ t.2.2, isName z = true) → Q (.ref d) H'
theorem five_name : ∀ r : Fin 5, ∃ z : Str, [V.str (Str.ofString "q"), .str (Str.ofString "qz"), .str (Str.ofString "zq"), .str (Str.ofString "zz"), .str (Str.ofString "qq")][r.1]? = some (.str z) ∧ isName z = true
  | ⟨0, _⟩ => ⟨_, rfl, by decide +kernel⟩
  | ⟨1, _⟩ => ⟨_, rfl, by decide +kernel⟩
  | ⟨2, _⟩ => ⟨_, rfl, by decide +kernel⟩
  | ⟨3, _⟩ => ⟨_, rfl, by decide +kernel⟩
  | ⟨4, _⟩ => ⟨_, rfl, by decide +kernel⟩
theorem ok_making {f fT fP : Addr} {fd fdT fdP : FuncData} (F : Fun K "_law_making" "_law_making" sMaking f fd) (FT : Fun K "_law_take" "_law_take" sTake fT fdT) (bT : Binds K fdT ["box", "many"] []) (gT : mg "_law_take" = some (.ref fT)) (FP : Fun K "_law_pick" "_law_pick" sPick fP fdP) (bP : Binds K fdP ["box", "some"] []) (gP : mg "_law_pick" = some (.ref fP))
    (mi : mg "int" = none) (ml : mg "len" = none) (mt : mg "tuple" = none) (mr : mg "range" = none) : FnOk P w K mg base CX0 3 f fd ["box", "names", "letters", "most"] spMaking := by
  have GT : FnOk P w K mg base CX0 1 fT fdT ["box", "many"] spTake := ok_take FT mi
  have GP : FnOk P w K mg base CX0 2 fP fdP ["box", "some"] spPick := ok_pick FP FT bT gT mi ml
  refine F.ok scMaking (fun vs H Q E h => ?_) (fun cdv A outer s H vs Q E hr h => ?_)
  · obtain ⟨x, a, l, m, ns, lt, rfl, _⟩ := h
    rfl
  · obtain ⟨x, a, l, m, ns, lt, rfl, hx, ha, hl, hax, hlx, nd, n0, n4, l0, l1, lnm, m0, m5, q⟩ := h
    have hr1 := hr.mono (show 1 ≤ 2 by decide)
    refine ⟨_, pss_cons (ps_set (i := 4) scMaking.nd rfl (.inl rfl) (pe_call GT hr1 (by rfl) gT FT.kp bT .nil pass0 (pa_cons (pv 0) (pa_cons pe_int pa_nil))))
      (pss_cons (ps_set (i := 5) scMaking.nd rfl (.inl rfl) (pe_call GT hr1 (by rfl) gT FT.kp bT .nil pass0 (pa_cons (pv 0) (pa_cons (pe_callB call_len_seq (by rfl) ml PySem.boot_len (pa_cons (pv 1) pa_nil)) pa_nil))))
      (pss_cons (ps_set (i := 6) scMaking.nd rfl (.inl rfl) pe_dnewK)
      (pss_cons (ps_for PassesOwn.never rfl (pi_range1 (by rfl) mr (pa_cons (pe_callB call_len_seq (by rfl) ml PySem.boot_len (pa_cons (pv 1) pa_nil)) pa_nil)) (pg_name (i := 7) scMaking.nd rfl (.inl rfl))
        (pss_cons (ps_set (i := 8) scMaking.nd rfl (.inl rfl) (pe_call GT hr1 (by rfl) gT FT.kp bT .nil pass0 (pa_cons (pv 0) (pa_cons (pv 3) pa_nil))))
        (pss_cons (ps_set (i := 9) scMaking.nd rfl (.inl rfl) (pe_callTy call_tuple_of (by rfl) mt (by decide +kernel) (pa_cons
          (pe_lc (own := [("turn", 11)]) (g := gName 11) (tt := tYes) rfl scMaking.nd (pi_range1 (by rfl) mr (pa_cons (pv 8) pa_nil)) (blkOk_by (own := [("turn", 11)]) (N := nMk) (sc := defScope sMaking) (by decide +kernel)) (fun _ _ _ _ _ => pg_name (i := 11) scMaking.nd rfl (Or.inl rfl)) (fun _ _ _ _ _ => pts_nil)
            (fun _ _ _ _ _ => pe_call GP hr (by rfl) gP FP.kp bP .nil pass0 (pa_cons (pv 0) (pa_cons (pv 2) pa_nil)))) pa_nil)))
        (pss_cons (ps_set (i := 10) scMaking.nd rfl (.inl rfl) (pe_call GT hr1 (by rfl) gT FT.kp bT .nil pass0 (pa_cons (pv 0) (pa_cons (pe_op op_add (pv 8) pe_int) pa_nil))))
        (pss_cons (ps_if (PW.pt (pw_or (pt_cmpR op_eq (pv 4) pe_int (nomark _)) (pw_or1 (PW.pt (pw_and (pt_cmpR op_gt (pv 4) pe_int (nomark _)) (pw_and1 (pt_cmpR op_ne (pv 7) (pv 5) (nomark _))))))))
          (pss_one (ps_set (i := 9) scMaking.nd rfl (.inl rfl) (pe_op op_catA (pe_op op_catA (pe_slice sl_tupA (pv 9) po_none (po_some (pv 10))) (pe_tup (pa_cons (pe_ix ix_list (pe_lst (pa_cons pe_str (pa_cons pe_str (pa_cons pe_str (pa_cons pe_str (pa_cons pe_str pa_nil)))))) (pe_op op_mod (pe_callTy call_int1 (by rfl) mi (by decide +kernel) (pa_cons (pv 7) pa_nil)) pe_int) (fun _ _ => rfl)) pa_nil))) (pe_slice sl_tupA (pv 9) (po_some (pv 10)) po_none))))
          pss_nil)
        (pss_one (ps_dput (hu_of hr) (pv 6) (pe_ix ix_list (pv 1) (pv 7) (fun _ _ => rfl)) (pv 9) rfl)))))))
      (pss_one (ps_ret (pv 6)))))), ?_⟩
    have lenN : (ns.map V.str).length = ns.length := List.length_map _
    refine ⟨.ref x, rfl, x, 4, rfl, hx, by decide, by decide, fun kind H1 hk4 k1 b1 => ?_⟩
    have ha1 := k1 _ _ hax ha
    refine ⟨.ref x, rfl, .ref a, rfl, a, _, rfl, .inl (sqL_new ha1), x, ns.length, by rw [lenN]; rfl, b1, n0, by omega, fun plain H2 hp k2 b2 => ?_⟩
    have k12 := k1.trans k2
    refine fun g ng => ?_
    have ngH : H g = none := k12.free b2 ng
    have hgx : g ≠ x := b2.ne ng
    have k3 : But x H (upd H2 g (.dK [])) := k12.trans (But.of (same_new ng))
    have eg0 : upd H2 g (.dK []) g = some (.dK (kvM [])) := upd_same
    have b3 : Box (upd H2 g (.dK [])) x := b2.upd hgx
    generalize upd H2 g (.dK []) = H3 at k3 eg0 b3
    have ha3 := k3 _ _ hax ha
    refine ⟨.ref a, rfl, a, _, rfl, .inl (sqL_new ha3), (ns.length : Nat), by rw [lenN], by omega, by omega, ?_⟩
    refine for_range (lo := 0) (n := ns.length) (fun i σ H' => ∃ (d7 d8 d9 d10 : Option V) (M : MK), σ = [some (.ref x), some (.ref a), some (.ref l), some (.int (m : Nat)), some (.int (kind : Nat)), some (.int (plain : Nat)), some (.ref g), d7, d8, d9, d10, none] ∧ But x H H' ∧ Box H' x ∧ H' g = some (.dK (kvM M)) ∧ Stand H' M ∧ M.map (·.1) = ns.take i ∧ (∀ t ∈ M, t.2.2.length ≤ m) ∧ ∀ t ∈ M, ∀ z ∈ t.2.2, isName z = true)
      ⟨none, none, none, none, [], rfl, k3, b3, eg0, (fun t ht => nomatch ht), rfl, (fun t ht => nomatch ht), fun t ht => nomatch ht⟩ ?_ ?_
    · rintro i σ H' hi ⟨d7, d8, d9, d10, M, rfl, k, b, eg, sM, hM, rM, nM⟩
      refine ⟨.ref x, rfl, .int (m : Nat), rfl, x, m, rfl, b, m0, by omega, fun sz H4 hsz k4 b4 => ?_⟩
      refine ⟨.int (sz : Nat), rfl, (sz : Nat), rfl, by omega, by omega, fun D nD => ?_⟩
      have hDx := b4.ne nD
      have hl4 := (k.trans k4) _ _ hlx hl
      refine lc_it (walk_r0 (n := sz)) (fun j Z => But x H4 Z ∧ Box Z x ∧ ∃ zs : List Str, zs.length = j ∧ (∀ z ∈ zs, isName z = true) ∧ Z D = some (.lst (zs.map V.str)))
        ⟨But.of (same_new nD), b4.upd hDx, [], rfl, (fun z hz => by cases hz), upd_same⟩ (fun _ _ _ _ => True.intro) (fun j y Z Z' hj h yy => ?_) (fun Z h => ?_)
      · obtain ⟨rfl, rfl⟩ := yy
        obtain ⟨kZ, bZ, zs, hzl, hz, eD⟩ := h
        refine ⟨rfl, .ref x, rfl, .ref l, rfl, x, l, _, rfl, bZ, hlx, kZ _ _ hlx hl4, by rw [List.length_map]; exact l0, by rw [List.length_map]; omega, fun j2 v Z2 hv kZ2 bZ2 => ?_⟩
        obtain ⟨z, hzz, rfl⟩ := get_map hv
        refine ⟨_, kZ2 _ _ hDx eD, by rw [List.length_map]; exact small (by omega), fun c u hc e => ?_, bZ2.upd hDx, zs ++ [z], by rw [List.length_append, hzl]; rfl, fun y hy => ?_, by rw [upd_same, List.map_append]; rfl⟩
        · rw [upd_ne (ne_of_none e nD)]
          exact kZ2 _ _ hc (kZ _ _ hc e)
        · rcases List.mem_append.mp hy with h | h
          · exact hz y h
          · rw [List.mem_singleton.mp h]
            exact lnm z (List.mem_of_getElem? hzz)
      · obtain ⟨kZ, bZ, zs, hzl, hz, eD⟩ := h
        refine ⟨D, _, rfl, .inl ⟨sqL_new eD, fun r nr => ?_⟩⟩
        have hrx := bZ.ne nr
        have kr : But x Z (upd Z r (.tup (zs.map V.str))) := But.of (same_new nr)
        have er : upd Z r (.tup (zs.map V.str)) r = some (.tup (zs.map V.str)) := upd_same
        have br : Box (upd Z r (.tup (zs.map V.str))) x := bZ.upd hrx
        generalize upd Z r (.tup (zs.map V.str)) = H5 at kr er br
        refine ⟨.ref x, rfl, .int (sz : Nat), rfl, _, 1, rfl, rfl, x, sz + 1, rfl, br, Nat.succ_pos _, by omega, fun pl H6 hpl k6 b6 => ?_⟩
        have er6 := k6 _ _ hrx er
        have k06 : But x H H6 := (((k.trans k4).trans kZ).trans kr).trans k6
        have kM : But x H' H6 := ((k4.trans kZ).trans kr).trans k6
        refine ⟨.int (kind : Nat), rfl, rfl, _, rfl, ?_⟩
        generalize hX : sDPut _ _ _ _ = X
        have eg6 := kM _ _ hgx eg
        have nlen : M.length = i := by
          have := congrArg List.length hM
          rw [List.length_map, List.length_take] at this
          omega
        have hgi : ns[i]? = some ns[i] := List.getElem?_eq_getElem hi
        have sM6 : Stand H6 M := fun t ht => kM _ _ (fun e => by
          have := sM t ht
          rw [e] at this
          obtain ⟨q0, q1, q2, q3⟩ := b
          rw [q3] at this
          cases this) (sM t ht)
        have fin : ∀ (r2 : Addr) (H7 : Hp) (ws : List Str), Same H6 H7 → H7 r2 = some (.tup (ws.map V.str)) → ws.length ≤ m → (∀ z ∈ ws, isName z = true) →
            X [some (.ref x), some (.ref a), some (.ref l), some (.int (m : Nat)), some (.int (kind : Nat)), some (.int (plain : Nat)), some (.ref g), some (.int (0 + (i : Int))), some (.int (sz : Nat)), some (.ref r2), some (.int (pl : Nat)), none] H7 := fun r2 H7 ws s7 e7 hw5 hwn => by
          rw [← hX]
          have eg7 := s7 _ _ eg6
          refine ⟨.ref r2, rfl, .ref g, rfl, .ref a, rfl, .int (0 + (i : Int)), rfl, a, _, _, _, rfl, rfl, sqL_new (s7 _ _ (k06 _ _ hax ha)), at_of (j := i) (by omega) (by rw [List.getElem?_map, hgi]; rfl), g, _, rfl, DPut.k (k := Sum.inr ns[i]) eg7 ?_, ?_⟩
          · rw [kvM_len]
            exact small (by omega)
          · have ner : r2 ≠ g := fun e => by
              rw [e, eg7] at e7
              cases e7
            refine ⟨_, _, _, _, M ++ [(ns[i], r2, ws)], rfl, fun c u hc e => ?_, ?_, ?_, fun t ht => ?_, ?_, fun t ht => ?_, fun t ht => ?_⟩
            · rw [upd_ne (ne_of_none e ngH)]
              exact s7 _ _ (k06 _ _ hc e)
            · obtain ⟨q0, q1, q2, q3⟩ := b6
              exact ⟨q0, q1, q2, by rw [upd_ne (Ne.symm hgx)]; exact s7 _ _ q3⟩
            · rw [upd_same, putK_new]
              · unfold kvM
                rw [List.map_append]
                rfl
              · rw [kvM_keys, hM]
                intro z
                obtain ⟨y, hy, e⟩ := List.mem_map.mp z
                exact not_before nd hgi (Sum.inr.inj e ▸ hy)
            · rcases List.mem_append.mp ht with z | z
              · have q1 := s7 _ _ (sM6 t z)
                rw [upd_ne (fun e => by rw [e, eg7] at q1; cases q1)]
                exact q1
              · rw [List.mem_singleton.mp z, upd_ne ner]
                exact e7
            · rw [List.map_append, hM, take_of_get hgi]
              rfl
            · rcases List.mem_append.mp ht with z | z
              · exact rM t z
              · rw [List.mem_singleton.mp z]
                exact hw5
            · rcases List.mem_append.mp ht with z | z
              · exact nM t z
              · rw [List.mem_singleton.mp z]
                exact hwn
        generalize hY : tAsg (tOp _ _ _) (gName 9) _ = Y
        have fy : Y [some (.ref x), some (.ref a), some (.ref l), some (.int (m : Nat)), some (.int (kind : Nat)), some (.int (plain : Nat)), some (.ref g), some (.int (0 + (i : Int))), some (.int (sz : Nat)), some (.ref r), some (.int (pl : Nat)), none] H6 := by
          rw [← hY]
          refine ⟨.ref r, rfl, .int (pl : Nat), rfl, _, rfl, ?_⟩
          refine takeX er6 fun H7 p7 s7 e7 => ?_
          refine ⟨(by show 5 ≤ sizeLine; exact smallE (by decide)), fun l5 nl5 => ?_⟩
          have s8 := s7.trans (same_new (o := .lst [V.str (Str.ofString "q"), .str (Str.ofString "qz"), .str (Str.ofString "zq"), .str (Str.ofString "zz"), .str (Str.ofString "qq")]) nl5)
          have e8 := same_new (o := .lst [V.str (Str.ofString "q"), .str (Str.ofString "qz"), .str (Str.ofString "zq"), .str (Str.ofString "zz"), .str (Str.ofString "qq")]) nl5 _ _ e7
          have e5 : upd H7 l5 (.lst [V.str (Str.ofString "q"), .str (Str.ofString "qz"), .str (Str.ofString "zq"), .str (Str.ofString "zz"), .str (Str.ofString "qq")]) l5 = _ := upd_same
          generalize upd H7 l5 _ = H8 at s8 e8 e5
          obtain ⟨mk, hmk, hmn⟩ := five_name ⟨i % 5, Nat.mod_lt _ (by decide)⟩
          refine ⟨.int (0 + (i : Int)), rfl, .inl ⟨_, rfl, _, 5, rfl, rfl, (by show (0 : Int) < 5; decide), l5, _, _, .str mk, rfl, rfl, sqL_new e5, at_of (j := i % 5) (by omega) hmk, (by show 1 ≤ sizeLine; exact smallE (by decide)), fun t1 nt1 => ?_⟩⟩
          have s9 := s8.trans (same_new (o := .tup [V.str mk]) nt1)
          have e9 := same_new (o := .tup [V.str mk]) nt1 _ _ e8
          have et : upd H8 t1 (.tup [V.str mk]) t1 = some (.tup [V.str mk]) := upd_same
          generalize upd H8 t1 (.tup [V.str mk]) = H9 at s9 e9 et
          refine catX e9 et (by rw [List.length_take, List.length_map]; show _ + 1 ≤ 100000; omega) fun H10 p10 s10 e10 => ?_
          refine ⟨.ref r, rfl, .int (pl : Nat), rfl, _, rfl, ?_⟩
          dsimp only [tNoPart]
          have s610 := s9.trans s10
          refine dropX (s610 _ _ er6) fun H11 p11 s11 e11 => ?_
          refine catX (s11 _ _ e10) e11 (by rw [List.length_append, List.length_take, List.length_drop, List.length_map]; show _ + 1 + _ ≤ 100000; omega) fun H12 p12 s12 e12 => ?_
          refine fin p12 H12 (zs.take pl ++ [mk] ++ zs.drop pl) ((s610.trans s11).trans s12) (by rw [e12, List.map_append, List.map_append, List.map_take, List.map_drop]; rfl) ?_ fun z hz' => ?_
          · rw [List.length_append, List.length_append, List.length_take, List.length_drop]
            show _ + 1 + _ ≤ m
            omega
          · rcases List.mem_append.mp hz' with h | h
            · rcases List.mem_append.mp h with h | h
              · exact hz z (List.mem_of_mem_take h)
              · rw [List.mem_singleton.mp h]
                exact hmn
            · exact hz z (List.mem_of_mem_drop h)
        have fno := fin r H6 zs (fun _ _ h => h) er6 (by omega) hz
        refine ite2 (fun c => iteT fy) (fun c => ?_)
        refine ⟨.int (kind : Nat), rfl, _, _, rfl, rfl, _, rfl, ite2 (fun c2 => ?_) (fun c2 => iteF fno)⟩
        refine ⟨.int (0 + (i : Int)), rfl, .int (plain : Nat), rfl, rfl, _, rfl, ite2 (fun c3 => fy) (fun c3 => fno)⟩
    · rintro σ H' ⟨d7, d8, d9, d10, M, rfl, k, b, eg, sM, hM, rM, nM⟩
      rw [List.take_length] at hM
      exact ⟨.ref g, rfl, q g M H' k b ngH eg sM hM rM nM⟩
end
end Kb
namespace Kb
open PySem PySem.Spec PyProof.Rows L2
theorem walk_rr {a b : Int} {m : Nat} (ha : a = 0) (hb : b = (m : Int)) : Walk (Itc (a + (((b - a).toNat : Nat) : Int) - 1) (-1) (b - a).toNat) m (fun _ => True) (fun i H x H' => H' = H ∧ x = .int ((m - 1 - i : Nat) : Int)) := by
  have e : (b - a).toNat = m := by omega
  rw [e]
  refine walk_rangeC.mono (fun _ h => h) fun i H x H' hi _ y => ⟨y.1, ?_⟩
  rw [y.2]
  show V.int (a + (m : Int) - 1 + (i : Int) * (-1)) = _
  congr 1
  omega
theorem atI_m1 {α : Type} {xs : List α} {k : Nat} {v : α} (hl : xs.length = k + 1) (h : xs[k]? = some v) : atI xs (-1) = some v := by
  have e : xs = xs.take k ++ [v] := by
    rw [← take_of_get h, List.take_of_length_le (Nat.le_of_eq hl)]
  rw [e]
  exact atI_last _ _
end Kb
namespace Kb
open PySem PySem.Spec PyProof.Rows L2
theorem catA_at {X : Cx} {K : PySem.W.Frag} (h : X.K = K) : OpR X (binaryOp .Add) (rCatA K) := by
  subst h
  exact op_catA
theorem ps_orS {X : Cx} {st : Stmt} {t u : TS} (h1 : PS X st t) (h2 : PS X st u) : PS X st (fun D σ H => t D σ H ∨ u D σ H) :=
  ⟨fun pins s σ H D I h => h.elim (h1.run pins s σ H D I) (h2.run pins s σ H D I)⟩
abbrev nNd : List Str := ["making", "row", "found", "place", "rows", "deed", "many", "rest"]
abbrev FD := List (Addr × List Ka.Row)
structure Fnd (M : MK) (us : List Str) (fs : FD) (H : Hp) (t : Nat) : Prop where
  len : fs.length = t + 1
  st : ∀ f ∈ fs, H f.1 = some (.tup (adV f.2)) ∧ Rows H f.2
  few : ∀ f ∈ fs, f.2.length ≤ 40
  good : ∀ (j : Nat) (f : Addr × List Ka.Row), fs[j]? = some f → Kg.Good (pm M) (M.map (·.1)) (Kf.suf us j) (f.2.map (·.2)) ∧ (f.2.map (·.2)).Pairwise fun a b => Ka.rowLe a b = true
def tabOf (fs : FD) (s : List Str) : List (List Str) := ((fs[s.length]?).map fun f => f.2.map (·.2)).getD []
theorem tabOf_get {fs : FD} {j : Nat} {f : Addr × List Ka.Row} {s : List Str} (h : fs[j]? = some f) (e : s.length = j) : tabOf fs s = f.2.map (·.2) := by
  unfold tabOf
  rw [e, h]
  rfl
def cndM (M : MK) (fs : FD) (s : List Str) (N : MK) : List (List Str) := (N.map (·.1)).flatMap fun x => if 0 < Kf.beg s (Kf.look (pm M) x) then (tabOf fs (Kf.rest (pm M) s x)).map (x :: ·) else []
theorem cndM_snoc (M : MK) (fs : FD) (s : List Str) (N : MK) (t : Str × Addr × List Str) : cndM M fs s (N ++ [t]) = cndM M fs s N ++ (if 0 < Kf.beg s (Kf.look (pm M) t.1) then (tabOf fs (Kf.rest (pm M) s t.1)).map (t.1 :: ·) else []) := by
  unfold cndM
  rw [List.map_append, List.flatMap_append, List.map_singleton, List.flatMap_cons, List.flatMap_nil, List.append_nil]
theorem keep_fit {L : List (List Str)} : (Kg.keep (ordR L)).Pairwise fun a b => Ka.rowLe a b = true := (ordR_ord L).sublist (Kg.keep_sub _)
theorem ord_len {L : List (List Str)} : (ordR L).Pairwise fun a b => a.length ≤ b.length := (ordR_ord L).imp fun {a b} h => by
  apply Decidable.byContradiction
  intro z
  rw [le_len (by omega : b.length < a.length)] at h
  cases h
section
variable {P : Program} {w : World} {K : PySem.W.Frag} {mg : Str → Option Value} {base : Heap}
theorem scNeeds : FnScope nNd ["making", "row"] (defScope sNeeds) := ⟨rfl, rfl, rfl, by decide +kernel, rfl, by decide +kernel, by decide +kernel⟩
def spNeeds (K : PySem.W.Frag) (C : Addr) : Sp := fun vs H Q E => ∃ (d b : Addr) (M : MK) (us : List Str), vs = [.ref d, .ref b] ∧ Rd H d (.dK (kvM M)) ∧ Stand H M ∧ Fit M ∧ SqT K H b (us.map V.str) ∧ us.length ≤ 1000 ∧
  (24 < us.length → RefuseW C E H "long") ∧
  (us.length ≤ 24 → ∀ (j : Nat) (L : List (List Str)), j ≤ us.length → Kg.Good (pm M) (M.map (·.1)) (Kf.suf us j) L → 40 < L.length → RefuseW C E H "wide") ∧
  (us.length ≤ 24 → ∀ (H' : Hp) (p : Addr) (ts : List Ka.Row), Same H H' → H' p = some (.tup (adV ts)) → Rows H' ts → (∀ j : Nat, j ≤ us.length → ∃ L : List (List Str), Kg.Good (pm M) (M.map (·.1)) (Kf.suf us j) L ∧ L.length ≤ 40) → Kg.Good (pm M) (M.map (·.1)) us (ts.map (·.2)) → ts.length ≤ 40 → (ts.map (·.2)).Pairwise (fun a b => Ka.rowLe a b = true) → Q (.ref p) H')
theorem ok_needs {f fI fO fW fF fB : Addr} {fd fdI fdO fdW fdF fdB : FuncData} {C fE : Addr} {fdE : FuncData} {t24 t40 : Nat} (R : RefC K mg C fE fdE) (F : Fun K "needs" "needs" sNeeds f fd) (FF : Fun K "few_least_rows" "few_least_rows" sFew fF fdF) (bF : Binds K fdF ["rows", "most"] []) (gF : mg "few_least_rows" = some (.ref fF)) (FI : Fun K "in_order" "in_order" sInOrder fI fdI) (bI : Binds K fdI ["rows"] []) (gI : mg "in_order" = some (.ref fI)) (FO : Fun K "row_order" "row_order" sOrder fO fdO) (gO : mg "row_order" = some (.ref fO))
    (FW : Fun K "within" "within" sWithin fW fdW) (bW : Binds K fdW ["u", "v"] []) (gW : mg "within" = some (.ref fW)) (FB : Fun K "begun" "begun" sBegun fB fdB) (bB : Binds K fdB ["row", "other"] []) (gB : mg "begun" = some (.ref fB)) (g24 : mg "LONGEST_ROW" = some (.int 24 t24)) (g40 : mg "MOST_NEEDS" = some (.int 40 t40)) (N : Nones mg) : FnOk P w K mg base (L2.CX P w) 4 f fd ["making", "row"] (spNeeds K C) := by
  have GE : FnOk P w K mg base CX0 1 fE fdE ["self", "word"] (spRInit C) := ok_rinit R
  have GF : FnOk P w K mg base (L2.CX P w) 3 fF fdF ["rows", "most"] (spFew K C) := ok_few R FF FI bI gI FO gO FW bW gW N
  have GB : FnOk P w K mg base CX0 1 fB fdB ["row", "other"] (spBegun K) := ok_begun FB N.len
  refine F.okX scNeeds (fun vs H Q E h => ?_) (fun cdv A outer s H vs Q E hr h => ?_)
  · obtain ⟨d, b, M, us, rfl, _⟩ := h
    rfl
  · obtain ⟨d, b, M, us, rfl, hd, hM, ft, hB, hu, hlong, hwide, q⟩ := h
    obtain ⟨ud, hd, hud⟩ : ∃ ud, H d = some ud ∧ (ud = .dK (kvM M) ∨ ∃ od, ud = .frz od (.dK (kvM M))) := hd.elim (fun e => ⟨_, e, .inl rfl⟩) fun ⟨od, e⟩ => ⟨_, e, .inr ⟨od, rfl⟩⟩
    have hr1 := hr.mono (show 1 ≤ 3 by decide)
    have hr2 := hr.mono (show 2 ≤ 3 by decide)
    refine ⟨_, pss_cons (ps_if (pt_cmpR op_gt (pe_callB call_len_seq (by rfl) N.len PySem.boot_len (pa_cons (pv 1) pa_nil)) (pe_glob (v := .int 24) rfl g24 ⟨_, rfl⟩) (nomark _)) (pss_one (ps_raise rfl (takes_of rfl rfl rfl rfl) (pmk_oex R.oex R.iC R.tI GE hr2 R.b .nil pass0 (by rfl) R.gC (pa_cons pe_str pa_nil)))) pss_nil)
      (pss_cons (ps_set (i := 2) scNeeds.nd rfl (.inl rfl) (pe_lst (pa_cons (pe_tup (pa_cons (pe_tup pa_nil) pa_nil)) pa_nil)))
      (pss_cons (ps_for (passes_of rfl) rfl (pi_revR (by rfl) N.reversed (prg_1 (by rfl) N.range (pe_callB call_len_seq (by rfl) N.len PySem.boot_len (pa_cons (pv 1) pa_nil)))) (pg_name (i := 3) scNeeds.nd rfl (.inl rfl))
        (pss_cons (ps_set (i := 4) scNeeds.nd rfl (.inl rfl) (pe_lst pa_nil))
        (pss_cons (ps_orS (ps_lock (ps_for (passes_of rfl) rfl (pi_keys (pv 0)) (pg_name (i := 5) scNeeds.nd rfl (.inr rfl))
          (pss_cons (ps_set (i := 6) scNeeds.nd rfl (.inl rfl) (pe_call GB hr1 (by rfl) gB FB.kp bB .nil pass0 (pa_cons (pe_slice sl_tupA (pv 1) (po_some (pv 3)) po_none) (pa_cons (pe_dget (hu_of hr) (pv 0) (pv 5) (fun _ _ => rfl)) pa_nil))))
          (pss_one (ps_if (pt_cmpR op_gt (pv 6) pe_int (nomark _)) (pss_one (ps_expr (pe_bm PySem.F.plainAttrs_list PySem.F.slot_list_extend PySem.F.type_list_extend mt_extend (pv 4) (pa_cons
            (pe_lc (own := [("rest", 7)]) (g := gName 7) (tt := tYes) rfl scNeeds.nd (pi_tup (pe_ix ix_list (pv 2) (pe_op op_sub (pe_op op_sub (pe_callB call_len_seq (by rfl) N.len PySem.boot_len (pa_cons (pv 1) pa_nil)) (pv 3)) (pv 6)) (fun _ _ => rfl))) (blkOk_by (own := [("rest", 7)]) (N := nNd) (sc := defScope sNeeds) (by decide +kernel)) (fun _ _ _ _ _ => pg_name (i := 7) scNeeds.nd rfl (Or.inl rfl)) (fun _ _ _ _ _ => pts_nil)
              (fun _ _ _ _ _ => pe_op (catA_at (K := K) rfl) (pe_tup (pa_cons (pv 5) pa_nil)) (pv 7))) pa_nil)))) pss_nil)))))
          (ps_for (passes_of rfl) rfl (pi_keys (pv 0)) (pg_name (i := 5) scNeeds.nd rfl (.inr rfl))
          (pss_cons (ps_set (i := 6) scNeeds.nd rfl (.inl rfl) (pe_call GB hr1 (by rfl) gB FB.kp bB .nil pass0 (pa_cons (pe_slice sl_tupA (pv 1) (po_some (pv 3)) po_none) (pa_cons (pe_dget (hu_of hr) (pv 0) (pv 5) (fun _ _ => rfl)) pa_nil))))
          (pss_one (ps_if (pt_cmpR op_gt (pv 6) pe_int (nomark _)) (pss_one (ps_expr (pe_bm PySem.F.plainAttrs_list PySem.F.slot_list_extend PySem.F.type_list_extend mt_extend (pv 4) (pa_cons
            (pe_lc (own := [("rest", 7)]) (g := gName 7) (tt := tYes) rfl scNeeds.nd (pi_tup (pe_ix ix_list (pv 2) (pe_op op_sub (pe_op op_sub (pe_callB call_len_seq (by rfl) N.len PySem.boot_len (pa_cons (pv 1) pa_nil)) (pv 3)) (pv 6)) (fun _ _ => rfl))) (blkOk_by (own := [("rest", 7)]) (N := nNd) (sc := defScope sNeeds) (by decide +kernel)) (fun _ _ _ _ _ => pg_name (i := 7) scNeeds.nd rfl (Or.inl rfl)) (fun _ _ _ _ _ => pts_nil)
              (fun _ _ _ _ _ => pe_op (catA_at (K := K) rfl) (pe_tup (pa_cons (pv 5) pa_nil)) (pv 7))) pa_nil)))) pss_nil)))))
        (pss_one (ps_expr (pe_bm PySem.F.plainAttrs_list PySem.F.slot_list_append PySem.F.type_list_append mt_append (pv 2) (pa_cons (pe_call GF hr (by rfl) gF FF.kp bF .nil (passes_call (takes_of rfl rfl rfl rfl) (fun _ _ _ _ h => h)) (pa_cons (pv 4) (pa_cons (pe_glob (v := .int 40) rfl g40 ⟨_, rfl⟩) pa_nil))) pa_nil)))))))
      (pss_one (ps_ret (pe_ix ix_list (pv 2) (pe_callB call_len_seq (by rfl) N.len PySem.boot_len (pa_cons (pv 1) pa_nil)) (fun _ _ => rfl)))))), ?_⟩
    have lenU : ((us.map V.str).length : Nat) = us.length := List.length_map _
    refine ⟨.ref b, rfl, b, _, rfl, .inr hB, _, _, rfl, rfl, _, rfl, ite2 (fun c => ?_) (fun c => ?_)⟩
    · have c := of_decide_eq_true c
      rw [lenU] at c
      exact refuseW_mk (hlong (by omega))
    have h24 : us.length ≤ 24 := by
      have c : ¬ ((24 : Int) < ((us.map V.str).length : Nat)) := fun z => c (decide_eq_true z)
      rw [lenU] at c
      omega
    have hwide := hwide h24
    have q := q h24
    refine ⟨Nat.zero_le _, fun e0 ne0 => ⟨smallE (show 1 ≤ 1000000 by decide), fun e1 ne1 => ⟨smallE (show 1 ≤ 1000000 by decide), fun o no => ?_⟩⟩⟩
    have sa := same_new (o := .tup []) ne0
    have sb := sa.trans (same_new (o := .tup [V.ref e0]) ne1)
    have ea := same_new (o := .tup [V.ref e0]) ne1 _ _ (upd_same (H := H) (a := e0) (o := .tup []))
    have eb : upd (upd H e0 (.tup [])) e1 (.tup [V.ref e0]) e1 = some (.tup [V.ref e0]) := upd_same
    generalize upd (upd H e0 (.tup [])) e1 (.tup [V.ref e0]) = H0 at sb ea eb no
    have s1 := sb.trans (same_new (o := .lst [V.ref e1]) no)
    have ea1 := same_new (o := .lst [V.ref e1]) no _ _ ea
    have eb1 := same_new (o := .lst [V.ref e1]) no _ _ eb
    have o1 : upd H0 o (.lst [V.ref e1]) o = some (.lst [V.ref e1]) := upd_same
    have noH : H o = none := sb.free no
    generalize upd H0 o (.lst [V.ref e1]) = H1 at s1 ea1 eb1 o1
    have hdo : d ≠ o := ne_of_none hd noH
    have up : ∀ {G : Hp}, But o H1 G → Same H G := fun k c u e => k c u (ne_of_none e noH) (s1 c u e)
    refine ⟨.ref b, rfl, b, _, rfl, .inr (Same.sqT s1 hB), _, rfl, by decide, by decide, by omega, by rw [lenU]; omega, ?_⟩
    refine for_it (walk_rr (m := us.length) rfl (by rw [lenU])) (fun t σ H' => ∃ (fs : FD) (x3 x4 x5 x6 : Option V), σ = [some (.ref d), some (.ref b), some (.ref o), x3, x4, x5, x6, none] ∧ But o H1 H' ∧ H' o = some (.lst (fs.map fun f => V.ref f.1)) ∧ Fnd M us fs H' t)
      ⟨[(e1, [(e0, [])])], none, none, none, none, rfl, But.refl, o1, ?_⟩ (fun _ _ _ _ _ => True.intro) (fun t x σ H9 H' ht hPv yy => ?_) (fun σ H' hPv => ?_)
    · refine ⟨rfl, fun f hf => ?_, fun f hf => ?_, fun j f hj => ?_⟩
      · rw [List.mem_singleton.mp hf]
        exact ⟨eb1, fun r hr => by rw [List.mem_singleton.mp hr]; exact ea1⟩
      · rw [List.mem_singleton.mp hf]
        exact (show 1 ≤ 40 by decide)
      · cases j with
        | zero =>
          cases hj
          rw [Kf.suf_zero]
          exact ⟨Kg.good_nil _ _, List.pairwise_singleton _ _⟩
        | succ j => cases hj
    · obtain ⟨fs, x3, x4, x5, x6, rfl, k, eo, fnd⟩ := hPv
      obtain ⟨e9, rfl⟩ := yy
      subst e9
      have sm := up k
      obtain ⟨pl, hpl⟩ : ∃ pl, pl = us.length - 1 - t := ⟨_, rfl⟩
      rw [← hpl]
      have hsuf : Kf.suf us (t + 1) = us.drop pl := by
        unfold Kf.suf
        congr 1
        omega
      have hbk : ∀ y, Kf.beg (us.drop pl) (Kf.look (pm M) y) ≤ t + 1 := fun y => by
        have := Kf.beg_le (us.drop pl) (Kf.look (pm M) y)
        rw [List.length_drop] at this
        omega
      have few := ft.few
      refine ⟨Nat.zero_le _, fun g ng => ?_⟩
      have s2 := same_new (o := .lst []) ng
      have eg2 : upd H' g (.lst []) g = some (.lst (adV [])) := upd_same
      have hgo : o ≠ g := ne_of_none eo ng
      have hdg : d ≠ g := ne_of_none (sm _ _ hd) ng
      have ngH : H g = none := sm.free ng
      have eo2 := s2 _ _ eo
      have sm2 := sm.trans s2
      have fs2 : ∀ f ∈ fs, upd H' g (.lst []) f.1 = some (.tup (adV f.2)) ∧ Rows (upd H' g (.lst [])) f.2 := fun f hf => ⟨s2 _ _ (fnd.st f hf).1, (fnd.st f hf).2.mono s2⟩
      generalize hH2 : upd H' g (.lst []) = H2 at s2 eg2 eo2 sm2 fs2
      have hd2 := sm2 _ _ hd
      rcases hud with rfl | ⟨od, rfl⟩
      · refine .inl ⟨d, _, hd2, True.intro, fun od => ?_⟩
        generalize hL0 : upd H2 d (.frz od (.dK (kvM M))) = L
        have kL : But d H2 L := by rw [← hL0]; exact But.upd
        have fL : L d = some (.frz od (.dK (kvM M))) := by rw [← hL0]; exact upd_same
        have eoL := kL _ _ (Ne.symm hdo) eo2
        have egL := kL _ _ (Ne.symm hdg) eg2
        have tupL : ∀ {c : Addr} {xs : List V}, H2 c = some (.tup xs) → L c = some (.tup xs) := fun {c xs} h => kL _ _ (fun e => by rw [e, hd2] at h; cases h) h
        have tupG : ∀ {G : Hp} {c : Addr} {xs : List V}, But g L G → L c = some (.tup xs) → G c = some (.tup xs) := fun {G c xs} kk h => kk _ _ (fun e => by rw [e, egL] at h; cases h) h
        have BG : ∀ {G : Hp}, But g L G → SqT K G b (us.map V.str) := fun kk => by
          have : ∀ c u, H c = some u → c ≠ d → _ = some u := fun c u e hc => kk c u (ne_of_none e ngH) (kL c u hc (sm2 c u e))
          rcases hB with (h | ⟨ob, h⟩) | h
          · exact .inl (.inl (this _ _ h (fun e => by rw [e, hd] at h; cases h)))
          · exact .inl (.inr ⟨ob, this _ _ h (fun e => by rw [e, hd] at h; cases h)⟩)
          · exact .inr h
        refine ⟨.ref d, rfl, d, od, rfl, .inl ⟨kvM M, fL, ?_⟩⟩
        refine for_it (walk_keys (d := d) (o := od) (kvs := kvM M)) (fun i σ G => ∃ (y5 y6 : Option V) (rs : List Ka.Row), σ = [some (.ref d), some (.ref b), some (.ref o), some (.int (pl : Nat)), some (.ref g), y5, y6, none] ∧ But g L G ∧ G g = some (.lst (adV rs)) ∧ Rows G rs ∧ rs.map (·.2) = cndM M fs (us.drop pl) (M.take i) ∧ rs.length ≤ 40 * i)
          ⟨x5, x6, [], rfl, But.refl, egL, (fun r hr => nomatch hr), rfl, Nat.le_refl _⟩ (fun i σ G _ ⟨_, _, _, _, kk, _⟩ => kk _ _ hdg fL) (fun i x σ G G' hi h y => ?_) (fun σ G h => ?_)
        · obtain ⟨rfl, ky, va, hkv, rfl⟩ := y
          obtain ⟨y5, y6, rs, rfl, kk, eg, hRr, hrs, hrl⟩ := h
          obtain ⟨t2, ht2, ekv⟩ := get_map hkv
          cases ekv
          have htM := List.mem_of_getElem? ht2
          have him := lt_of_get ht2
          refine ⟨.ref b, rfl, .int (pl : Nat), rfl, _, rfl, ?_⟩
          dsimp only [tNoPart]
          refine slA_dropR (BG kk) fun G2 p2 s3 hp2 => ?_
          have kk2 := kk.trans (But.of s3)
          refine ⟨.ref d, rfl, .str t2.1, rfl, d, _, rfl, get_M (.inr ⟨od, kk2 _ _ hdg fL⟩) ft.nd htM, p2, t2.2.1, us.drop pl, t2.2.2, rfl, hp2, sqT_new (tupG kk2 (tupL (sm2 _ _ (hM t2 htM)))), ?_⟩
          have elk : Kf.look (pm M) t2.1 = t2.2.2 := look_M ft.nd htM
          rw [← elk]
          have hb1 := hbk t2.1
          have eg3 := s3 _ _ eg
          have hRr3 := hRr.mono s3
          refine ⟨_, rfl, _, _, rfl, rfl, _, rfl, ite2 (fun c => ?_) (fun c => ?_)⟩
          · have c := of_decide_eq_true c
            have c : 0 < Kf.beg (us.drop pl) (Kf.look (pm M) t2.1) := by omega
            have hfl : t + 1 - Kf.beg (us.drop pl) (Kf.look (pm M) t2.1) < fs.length := by
              rw [fnd.len]
              omega
            obtain ⟨f2, hf2⟩ : ∃ f2, fs[t + 1 - Kf.beg (us.drop pl) (Kf.look (pm M) t2.1)]? = some f2 := ⟨_, List.getElem?_eq_getElem hfl⟩
            have hf2m := List.mem_of_getElem? hf2
            have f40 := fnd.few f2 hf2m
            have etab : tabOf fs (Kf.rest (pm M) (us.drop pl) t2.1) = f2.2.map (·.2) := by
              refine tabOf_get hf2 ?_
              unfold Kf.rest
              rw [List.length_drop, List.length_drop]
              omega
            have e2 := tupG kk2 (tupL (fs2 f2 hf2m).1)
            have hR2 : Rows G2 f2.2 := fun r hr => tupG kk2 (tupL ((fs2 f2 hf2m).2 r hr))
            refine ⟨.ref g, rfl, .inl ⟨rfl, _, sqL_new eg3⟩, ?_⟩
            refine ⟨.ref o, rfl, .ref b, rfl, b, _, rfl, .inr (BG kk2), .int (pl : Nat), rfl, _, _, rfl, rfl, _, rfl, _, _, rfl, rfl, ?_⟩
            refine ⟨o, _, _, _, rfl, rfl, sqL_new (kk2 _ _ hgo eoL), at_of (j := t + 1 - Kf.beg (us.drop pl) (Kf.look (pm M) t2.1)) ?_ (by rw [List.getElem?_map, hf2]; rfl), ?_⟩
            · rw [lenU]
              omega
            refine ⟨f2.1, rfl, ⟨_, sqT_new e2⟩, fun D nD => ?_⟩
            refine lc_it (walk_tup (K := K) (a := f2.1) (xs := adV f2.2)) (fun j Z => Same G2 Z ∧ ∃ qs : List Ka.Row, Z D = some (.lst (adV qs)) ∧ Rows Z qs ∧ qs.map (·.2) = (f2.2.take j).map fun r => t2.1 :: r.2)
              ⟨same_new nD, [], upd_same, (fun r hr => nomatch hr), rfl⟩ (fun j Z _ h => sqT_new (h.1 _ _ e2)) (fun j y Z Z' hj h yy => ?_) (fun Z h => ?_)
            · obtain ⟨rfl, hy⟩ := yy
              obtain ⟨r, hr, rfl⟩ := get_map hy
              obtain ⟨sZ, qs, eD, hRq, hqs⟩ := h
              have hrm := List.mem_of_getElem? hr
              have hq40 : qs.length ≤ 40 := by
                have := congrArg List.length hqs
                rw [List.length_map, List.length_map, List.length_take] at this
                omega
              refine ⟨rfl, .str t2.1, rfl, smallE (show 1 ≤ 1000000 by decide), fun t1 nt1 => ?_⟩
              have s5 := same_new (o := .tup [V.str t2.1]) nt1
              have et1 : upd Z' t1 (.tup [V.str t2.1]) t1 = some (.tup [V.str t2.1]) := upd_same
              generalize upd Z' t1 (.tup [V.str t2.1]) = Z5 at s5 et1
              have hrl2 : (r.2.map V.str).length ≤ 1000 := by
                have hg := (fnd.good _ f2 hf2).1.line r.2 (List.mem_map.mpr ⟨r, hrm, rfl⟩)
                have := (Kg.line_holds _ _ hg).2.2
                rw [List.length_map]
                unfold Kf.suf at this
                rw [List.length_drop] at this
                omega
              refine ⟨.ref r.1, rfl, catX et1 ((sZ.trans s5) _ _ (hR2 r hrm)) (by show 1 + _ ≤ 100000; omega) fun Z6 p6 s6 e6 => ?_⟩
              have s56 := s5.trans s6
              have eD6 := s56 _ _ eD
              have hDp : p6 ≠ D := fun e => by rw [e, eD6] at e6; cases e6
              refine ⟨_, eD6, ?_, fun c u e => ?_, qs ++ [(p6, t2.1 :: r.2)], ?_, fun q' hq' => ?_, ?_⟩
              · rw [adV_len]
                exact small (by omega)
              · rw [upd_ne (ne_of_none e nD)]
                exact s56 _ _ (sZ c u e)
              · rw [upd_same]
                unfold adV
                rw [List.map_append]
                rfl
              · rcases List.mem_append.mp hq' with z | z
                · have q1 := s56 _ _ (hRq q' z)
                  rw [upd_ne (fun e => by rw [e, eD6] at q1; cases q1)]
                  exact q1
                · rw [List.mem_singleton.mp z, upd_ne hDp]
                  exact e6
              · rw [take_of_get hr, List.map_append, List.map_append, hqs]
                rfl
            · obtain ⟨sZ, qs, eD, hRq, hqs⟩ := h
              rw [adV_len, List.take_length] at hqs
              have hq40 : qs.length ≤ 40 := by
                have := congrArg List.length hqs
                rw [List.length_map, List.length_map] at this
                omega
              have egZ := sZ _ _ eg3
              refine ⟨g, D, _, _, rfl, rfl, egZ, eD, by rw [adV_len, adV_len]; exact smallE (by omega), ?_⟩
              refine ⟨_, _, rs ++ qs, rfl, fun c u hc e => ?_, ?_, fun r hr => ?_, ?_, by rw [List.length_append]; omega⟩
              · rw [upd_ne hc]
                exact sZ _ _ (kk2 c u hc e)
              · rw [upd_same]
                unfold adV
                rw [List.map_append]
              · have q1 : Z r.1 = some (.tup (r.2.map V.str)) := by
                  rcases List.mem_append.mp hr with z | z
                  · exact sZ _ _ (hRr3 r z)
                  · exact hRq r z
                rw [upd_ne (fun e => by rw [e, egZ] at q1; cases q1)]
                exact q1
              · rw [take_of_get ht2, cndM_snoc, if_pos c, etab, List.map_append, hrs, hqs, List.map_map]
                rfl
          · have c : ¬ 0 < Kf.beg (us.drop pl) (Kf.look (pm M) t2.1) := fun z => c (decide_eq_true (by omega))
            refine ⟨_, _, rs, rfl, kk2, eg3, hRr3, ?_, by omega⟩
            rw [take_of_get ht2, cndM_snoc, if_neg c, List.append_nil]
            exact hrs
        · obtain ⟨y5, y6, rs, rfl, kk, eg, hRr, hrs, hrl⟩ := h
          rw [kvM_len] at hrs hrl
          rw [List.take_length] at hrs
          have fG := kk _ _ hdg fL
          refine ⟨fG, ?_⟩
          have upU : ∀ c u, c ≠ g → H2 c = some u → upd G d (.dK (kvM M)) c = some u := fun c u hc e => by
            by_cases z : c = d
            · rw [z, upd_same, ← hd2, ← z]
              exact e
            · rw [upd_ne z]
              exact kk c u hc (kL c u z e)
          have egU : upd G d (.dK (kvM M)) g = some (.lst (adV rs)) := by
            rw [upd_ne (Ne.symm hdg)]
            exact eg
          have RU : Rows (upd G d (.dK (kvM M))) rs := fun r hr => by
            have q1 := hRr r hr
            rw [upd_ne (fun e => by rw [e, fG] at q1; cases q1)]
            exact q1
          generalize upd G d (.dK (kvM M)) = U at upU egU RU
          have eoU := upU _ _ hgo eo2
          have sU' : Same H' U := fun c u e => upU c u (ne_of_none e ng) (s2 c u e)
          have hkM : rs.map (·.2) = Kg.cands (pm M) (M.map (·.1)) (tabOf fs) (us.drop pl) := hrs
          have hgood : Kg.Good (pm M) (M.map (·.1)) (us.drop pl) (Kg.keep (ordR (rs.map (·.2)))) := by
            rw [hkM]
            refine Kg.good_step (pm M) (M.map (·.1)) (L := tabOf fs) ?_ (fun x hx hb => ?_) (fun r => mem_ordR) ?_ ord_len
            · intro e
              have := congrArg List.length e
              rw [List.length_drop, List.length_nil] at this
              omega
            · have hb1 := hbk x
              have hfl : t + 1 - Kf.beg (us.drop pl) (Kf.look (pm M) x) < fs.length := by
                rw [fnd.len]
                omega
              have hf2 : fs[t + 1 - Kf.beg (us.drop pl) (Kf.look (pm M) x)]? = some fs[t + 1 - Kf.beg (us.drop pl) (Kf.look (pm M) x)] := List.getElem?_eq_getElem hfl
              have e1 : Kf.rest (pm M) (us.drop pl) x = Kf.suf us (t + 1 - Kf.beg (us.drop pl) (Kf.look (pm M) x)) := by
                have := Kf.rest_suf (pm M) (row := us) (k := t + 1) (by omega) x
                rw [hsuf] at this
                exact this
              rw [e1, tabOf_get hf2 (Kf.suf_len (by omega))]
              exact (fnd.good _ _ hf2).1
            · unfold ordR
              rw [List.length_mergeSort]
              exact nub_len _
          refine ⟨.ref o, rfl, .inl ⟨rfl, _, sqL_new eoU⟩, .ref g, rfl, g, 40, rs, rfl, .inl (sqL_new egU), RU, by omega, fun h40 => (hwide (t + 1) _ (by omega) (by rw [hsuf]; exact hgood) h40).mono (sm.trans sU'), fun h40 H3 p3 ts s3 np3 ep3 hts hRts => ?_⟩
          have eo3 := s3 _ _ eoU
          have sU3 := sU'.trans s3
          have hp3o : p3 ≠ o := fun e => by rw [e, eo3] at ep3; cases ep3
          refine ⟨o, _, _, rfl, rfl, eo3, ?_, ?_⟩
          · rw [List.length_map, fnd.len]
            exact small (by omega)
          · refine ⟨fs ++ [(p3, ts)], _, _, _, _, rfl, fun c u hc e => ?_, ?_, ?_⟩
            · rw [upd_ne hc]
              exact sU3 _ _ (k c u hc e)
            · rw [upd_same, List.map_append]
              rfl
            · have keepT : ∀ {c : Addr} {xs : List V}, H3 c = some (.tup xs) → ∀ z, upd H3 o (.lst z) c = some (.tup xs) := fun {c xs} h z => by
                rw [upd_ne (fun e => by rw [e, eo3] at h; cases h)]
                exact h
              refine ⟨by rw [List.length_append, fnd.len]; rfl, fun f hf => ?_, fun f hf => ?_, fun j f hj => ?_⟩
              · rcases List.mem_append.mp hf with z | z
                · exact ⟨keepT (sU3 _ _ (fnd.st f z).1) _, fun r hr => keepT (sU3 _ _ ((fnd.st f z).2 r hr)) _⟩
                · rw [List.mem_singleton.mp z]
                  exact ⟨keepT ep3 _, fun r hr => keepT (hRts r hr) _⟩
              · rcases List.mem_append.mp hf with z | z
                · exact fnd.few f z
                · rw [List.mem_singleton.mp z]
                  have := congrArg List.length hts
                  rw [List.length_map] at this
                  show ts.length ≤ 40
                  omega
              · by_cases hj2 : j < fs.length
                · rw [List.getElem?_append_left hj2] at hj
                  exact fnd.good j f hj
                · have hjl := lt_of_get hj
                  rw [List.length_append, List.length_singleton] at hjl
                  obtain rfl : j = fs.length := by omega
                  rw [List.getElem?_append_right (Nat.le_refl _), Nat.sub_self] at hj
                  cases hj
                  rw [fnd.len, hsuf]
                  show Kg.Good _ _ _ (ts.map (·.2)) ∧ (ts.map (·.2)).Pairwise _
                  rw [hts]
                  exact ⟨hgood, keep_fit⟩
      · refine .inr ?_
        obtain ⟨L, hL0⟩ : ∃ L, L = H2 := ⟨_, rfl⟩
        have kL : But d H2 L := by rw [hL0]; exact But.refl
        have fL : L d = some (.frz od (.dK (kvM M))) := by rw [hL0]; exact hd2
        rw [← hL0]
        have eoL := kL _ _ (Ne.symm hdo) eo2
        have egL := kL _ _ (Ne.symm hdg) eg2
        have tupL : ∀ {c : Addr} {xs : List V}, H2 c = some (.tup xs) → L c = some (.tup xs) := fun {c xs} h => kL _ _ (fun e => by rw [e, hd2] at h; cases h) h
        have tupG : ∀ {G : Hp} {c : Addr} {xs : List V}, But g L G → L c = some (.tup xs) → G c = some (.tup xs) := fun {G c xs} kk h => kk _ _ (fun e => by rw [e, egL] at h; cases h) h
        have BG : ∀ {G : Hp}, But g L G → SqT K G b (us.map V.str) := fun kk => by
          have : ∀ c u, H c = some u → c ≠ d → _ = some u := fun c u e hc => kk c u (ne_of_none e ngH) (kL c u hc (sm2 c u e))
          rcases hB with (h | ⟨ob, h⟩) | h
          · exact .inl (.inl (this _ _ h (fun e => by rw [e, hd] at h; cases h)))
          · exact .inl (.inr ⟨ob, this _ _ h (fun e => by rw [e, hd] at h; cases h)⟩)
          · exact .inr h
        refine ⟨.ref d, rfl, d, od, rfl, .inl ⟨kvM M, fL, ?_⟩⟩
        refine for_it (walk_keys (d := d) (o := od) (kvs := kvM M)) (fun i σ G => ∃ (y5 y6 : Option V) (rs : List Ka.Row), σ = [some (.ref d), some (.ref b), some (.ref o), some (.int (pl : Nat)), some (.ref g), y5, y6, none] ∧ But g L G ∧ G g = some (.lst (adV rs)) ∧ Rows G rs ∧ rs.map (·.2) = cndM M fs (us.drop pl) (M.take i) ∧ rs.length ≤ 40 * i)
          ⟨x5, x6, [], rfl, But.refl, egL, (fun r hr => nomatch hr), rfl, Nat.le_refl _⟩ (fun i σ G _ ⟨_, _, _, _, kk, _⟩ => kk _ _ hdg fL) (fun i x σ G G' hi h y => ?_) (fun σ G h => ?_)
        · obtain ⟨rfl, ky, va, hkv, rfl⟩ := y
          obtain ⟨y5, y6, rs, rfl, kk, eg, hRr, hrs, hrl⟩ := h
          obtain ⟨t2, ht2, ekv⟩ := get_map hkv
          cases ekv
          have htM := List.mem_of_getElem? ht2
          have him := lt_of_get ht2
          refine ⟨.ref b, rfl, .int (pl : Nat), rfl, _, rfl, ?_⟩
          dsimp only [tNoPart]
          refine slA_dropR (BG kk) fun G2 p2 s3 hp2 => ?_
          have kk2 := kk.trans (But.of s3)
          refine ⟨.ref d, rfl, .str t2.1, rfl, d, _, rfl, get_M (.inr ⟨od, kk2 _ _ hdg fL⟩) ft.nd htM, p2, t2.2.1, us.drop pl, t2.2.2, rfl, hp2, sqT_new (tupG kk2 (tupL (sm2 _ _ (hM t2 htM)))), ?_⟩
          have elk : Kf.look (pm M) t2.1 = t2.2.2 := look_M ft.nd htM
          rw [← elk]
          have hb1 := hbk t2.1
          have eg3 := s3 _ _ eg
          have hRr3 := hRr.mono s3
          refine ⟨_, rfl, _, _, rfl, rfl, _, rfl, ite2 (fun c => ?_) (fun c => ?_)⟩
          · have c := of_decide_eq_true c
            have c : 0 < Kf.beg (us.drop pl) (Kf.look (pm M) t2.1) := by omega
            have hfl : t + 1 - Kf.beg (us.drop pl) (Kf.look (pm M) t2.1) < fs.length := by
              rw [fnd.len]
              omega
            obtain ⟨f2, hf2⟩ : ∃ f2, fs[t + 1 - Kf.beg (us.drop pl) (Kf.look (pm M) t2.1)]? = some f2 := ⟨_, List.getElem?_eq_getElem hfl⟩
            have hf2m := List.mem_of_getElem? hf2
            have f40 := fnd.few f2 hf2m
            have etab : tabOf fs (Kf.rest (pm M) (us.drop pl) t2.1) = f2.2.map (·.2) := by
              refine tabOf_get hf2 ?_
              unfold Kf.rest
              rw [List.length_drop, List.length_drop]
              omega
            have e2 := tupG kk2 (tupL (fs2 f2 hf2m).1)
            have hR2 : Rows G2 f2.2 := fun r hr => tupG kk2 (tupL ((fs2 f2 hf2m).2 r hr))
            refine ⟨.ref g, rfl, .inl ⟨rfl, _, sqL_new eg3⟩, ?_⟩
            refine ⟨.ref o, rfl, .ref b, rfl, b, _, rfl, .inr (BG kk2), .int (pl : Nat), rfl, _, _, rfl, rfl, _, rfl, _, _, rfl, rfl, ?_⟩
            refine ⟨o, _, _, _, rfl, rfl, sqL_new (kk2 _ _ hgo eoL), at_of (j := t + 1 - Kf.beg (us.drop pl) (Kf.look (pm M) t2.1)) ?_ (by rw [List.getElem?_map, hf2]; rfl), ?_⟩
            · rw [lenU]
              omega
            refine ⟨f2.1, rfl, ⟨_, sqT_new e2⟩, fun D nD => ?_⟩
            refine lc_it (walk_tup (K := K) (a := f2.1) (xs := adV f2.2)) (fun j Z => Same G2 Z ∧ ∃ qs : List Ka.Row, Z D = some (.lst (adV qs)) ∧ Rows Z qs ∧ qs.map (·.2) = (f2.2.take j).map fun r => t2.1 :: r.2)
              ⟨same_new nD, [], upd_same, (fun r hr => nomatch hr), rfl⟩ (fun j Z _ h => sqT_new (h.1 _ _ e2)) (fun j y Z Z' hj h yy => ?_) (fun Z h => ?_)
            · obtain ⟨rfl, hy⟩ := yy
              obtain ⟨r, hr, rfl⟩ := get_map hy
              obtain ⟨sZ, qs, eD, hRq, hqs⟩ := h
              have hrm := List.mem_of_getElem? hr
              have hq40 : qs.length ≤ 40 := by
                have := congrArg List.length hqs
                rw [List.length_map, List.length_map, List.length_take] at this
                omega
              refine ⟨rfl, .str t2.1, rfl, smallE (show 1 ≤ 1000000 by decide), fun t1 nt1 => ?_⟩
              have s5 := same_new (o := .tup [V.str t2.1]) nt1
              have et1 : upd Z' t1 (.tup [V.str t2.1]) t1 = some (.tup [V.str t2.1]) := upd_same
              generalize upd Z' t1 (.tup [V.str t2.1]) = Z5 at s5 et1
              have hrl2 : (r.2.map V.str).length ≤ 1000 := by
                have hg := (fnd.good _ f2 hf2).1.line r.2 (List.mem_map.mpr ⟨r, hrm, rfl⟩)
                have := (Kg.line_holds _ _ hg).2.2
                rw [List.length_map]
                unfold Kf.suf at this
                rw [List.length_drop] at this
                omega
              refine ⟨.ref r.1, rfl, catX et1 ((sZ.trans s5) _ _ (hR2 r hrm)) (by show 1 + _ ≤ 100000; omega) fun Z6 p6 s6 e6 => ?_⟩
              have s56 := s5.trans s6
              have eD6 := s56 _ _ eD
              have hDp : p6 ≠ D := fun e => by rw [e, eD6] at e6; cases e6
              refine ⟨_, eD6, ?_, fun c u e => ?_, qs ++ [(p6, t2.1 :: r.2)], ?_, fun q' hq' => ?_, ?_⟩
              · rw [adV_len]
                exact small (by omega)
              · rw [upd_ne (ne_of_none e nD)]
                exact s56 _ _ (sZ c u e)
              · rw [upd_same]
                unfold adV
                rw [List.map_append]
                rfl
              · rcases List.mem_append.mp hq' with z | z
                · have q1 := s56 _ _ (hRq q' z)
                  rw [upd_ne (fun e => by rw [e, eD6] at q1; cases q1)]
                  exact q1
                · rw [List.mem_singleton.mp z, upd_ne hDp]
                  exact e6
              · rw [take_of_get hr, List.map_append, List.map_append, hqs]
                rfl
            · obtain ⟨sZ, qs, eD, hRq, hqs⟩ := h
              rw [adV_len, List.take_length] at hqs
              have hq40 : qs.length ≤ 40 := by
                have := congrArg List.length hqs
                rw [List.length_map, List.length_map] at this
                omega
              have egZ := sZ _ _ eg3
              refine ⟨g, D, _, _, rfl, rfl, egZ, eD, by rw [adV_len, adV_len]; exact smallE (by omega), ?_⟩
              refine ⟨_, _, rs ++ qs, rfl, fun c u hc e => ?_, ?_, fun r hr => ?_, ?_, by rw [List.length_append]; omega⟩
              · rw [upd_ne hc]
                exact sZ _ _ (kk2 c u hc e)
              · rw [upd_same]
                unfold adV
                rw [List.map_append]
              · have q1 : Z r.1 = some (.tup (r.2.map V.str)) := by
                  rcases List.mem_append.mp hr with z | z
                  · exact sZ _ _ (hRr3 r z)
                  · exact hRq r z
                rw [upd_ne (fun e => by rw [e, egZ] at q1; cases q1)]
                exact q1
              · rw [take_of_get ht2, cndM_snoc, if_pos c, etab, List.map_append, hrs, hqs, List.map_map]
                rfl
          · have c : ¬ 0 < Kf.beg (us.drop pl) (Kf.look (pm M) t2.1) := fun z => c (decide_eq_true (by omega))
            refine ⟨_, _, rs, rfl, kk2, eg3, hRr3, ?_, by omega⟩
            rw [take_of_get ht2, cndM_snoc, if_neg c, List.append_nil]
            exact hrs
        · obtain ⟨y5, y6, rs, rfl, kk, eg, hRr, hrs, hrl⟩ := h
          rw [kvM_len] at hrs hrl
          rw [List.take_length] at hrs
          have fG := kk _ _ hdg fL
          have upU : ∀ c u, c ≠ g → H2 c = some u → G c = some u := fun c u hc e => kk c u hc (by rw [hL0]; exact e)
          obtain ⟨U, hU⟩ : ∃ U, U = G := ⟨_, rfl⟩
          rw [← hU] at upU eg hRr ⊢
          have egU := eg
          have RU := hRr
          have eoU := upU _ _ hgo eo2
          have sU' : Same H' U := fun c u e => upU c u (ne_of_none e ng) (s2 c u e)
          have hkM : rs.map (·.2) = Kg.cands (pm M) (M.map (·.1)) (tabOf fs) (us.drop pl) := hrs
          have hgood : Kg.Good (pm M) (M.map (·.1)) (us.drop pl) (Kg.keep (ordR (rs.map (·.2)))) := by
            rw [hkM]
            refine Kg.good_step (pm M) (M.map (·.1)) (L := tabOf fs) ?_ (fun x hx hb => ?_) (fun r => mem_ordR) ?_ ord_len
            · intro e
              have := congrArg List.length e
              rw [List.length_drop, List.length_nil] at this
              omega
            · have hb1 := hbk x
              have hfl : t + 1 - Kf.beg (us.drop pl) (Kf.look (pm M) x) < fs.length := by
                rw [fnd.len]
                omega
              have hf2 : fs[t + 1 - Kf.beg (us.drop pl) (Kf.look (pm M) x)]? = some fs[t + 1 - Kf.beg (us.drop pl) (Kf.look (pm M) x)] := List.getElem?_eq_getElem hfl
              have e1 : Kf.rest (pm M) (us.drop pl) x = Kf.suf us (t + 1 - Kf.beg (us.drop pl) (Kf.look (pm M) x)) := by
                have := Kf.rest_suf (pm M) (row := us) (k := t + 1) (by omega) x
                rw [hsuf] at this
                exact this
              rw [e1, tabOf_get hf2 (Kf.suf_len (by omega))]
              exact (fnd.good _ _ hf2).1
            · unfold ordR
              rw [List.length_mergeSort]
              exact nub_len _
          refine ⟨.ref o, rfl, .inl ⟨rfl, _, sqL_new eoU⟩, .ref g, rfl, g, 40, rs, rfl, .inl (sqL_new egU), RU, by omega, fun h40 => (hwide (t + 1) _ (by omega) (by rw [hsuf]; exact hgood) h40).mono (sm.trans sU'), fun h40 H3 p3 ts s3 np3 ep3 hts hRts => ?_⟩
          have eo3 := s3 _ _ eoU
          have sU3 := sU'.trans s3
          have hp3o : p3 ≠ o := fun e => by rw [e, eo3] at ep3; cases ep3
          refine ⟨o, _, _, rfl, rfl, eo3, ?_, ?_⟩
          · rw [List.length_map, fnd.len]
            exact small (by omega)
          · refine ⟨fs ++ [(p3, ts)], _, _, _, _, rfl, fun c u hc e => ?_, ?_, ?_⟩
            · rw [upd_ne hc]
              exact sU3 _ _ (k c u hc e)
            · rw [upd_same, List.map_append]
              rfl
            · have keepT : ∀ {c : Addr} {xs : List V}, H3 c = some (.tup xs) → ∀ z, upd H3 o (.lst z) c = some (.tup xs) := fun {c xs} h z => by
                rw [upd_ne (fun e => by rw [e, eo3] at h; cases h)]
                exact h
              refine ⟨by rw [List.length_append, fnd.len]; rfl, fun f hf => ?_, fun f hf => ?_, fun j f hj => ?_⟩
              · rcases List.mem_append.mp hf with z | z
                · exact ⟨keepT (sU3 _ _ (fnd.st f z).1) _, fun r hr => keepT (sU3 _ _ ((fnd.st f z).2 r hr)) _⟩
                · rw [List.mem_singleton.mp z]
                  exact ⟨keepT ep3 _, fun r hr => keepT (hRts r hr) _⟩
              · rcases List.mem_append.mp hf with z | z
                · exact fnd.few f z
                · rw [List.mem_singleton.mp z]
                  have := congrArg List.length hts
                  rw [List.length_map] at this
                  show ts.length ≤ 40
                  omega
              · by_cases hj2 : j < fs.length
                · rw [List.getElem?_append_left hj2] at hj
                  exact fnd.good j f hj
                · have hjl := lt_of_get hj
                  rw [List.length_append, List.length_singleton] at hjl
                  obtain rfl : j = fs.length := by omega
                  rw [List.getElem?_append_right (Nat.le_refl _), Nat.sub_self] at hj
                  cases hj
                  rw [fnd.len, hsuf]
                  show Kg.Good _ _ _ (ts.map (·.2)) ∧ (ts.map (·.2)).Pairwise _
                  rw [hts]
                  exact ⟨hgood, keep_fit⟩
    · obtain ⟨fs, x3, x4, x5, x6, rfl, k, eo, fnd⟩ := hPv
      have sm := up k
      have hfl : us.length < fs.length := by
        rw [fnd.len]
        omega
      have hf : fs[us.length]? = some fs[us.length] := List.getElem?_eq_getElem hfl
      have hfm := List.mem_of_getElem? hf
      refine ⟨.ref o, rfl, .ref b, rfl, b, _, rfl, .inr (Same.sqT sm hB), o, _, _, _, rfl, rfl, sqL_new eo, at_of (j := us.length) (by rw [lenU]) (by rw [List.getElem?_map, hf]; rfl), ?_⟩
      have hg := fnd.good _ _ hf
      rw [Kf.suf_all] at hg
      exact q H' _ _ sm (fnd.st _ hfm).1 (fnd.st _ hfm).2 (fun j hj => by
        have hf := List.getElem?_eq_getElem (l := fs) (i := j) (by rw [fnd.len]; omega)
        exact ⟨_, (fnd.good _ _ hf).1, by rw [List.length_map]; exact fnd.few _ (List.mem_of_getElem? hf)⟩) hg.1 (fnd.few _ hfm) hg.2
end
end Kb
namespace Kb
open PySem PySem.Spec PyProof.Rows L2
section
variable {K : PySem.W.Frag}
theorem slA_mid {H : Hp} {a : Addr} {us : List Str} {i n : Nat} {Q : VK} (hi : i ≤ us.length) (hA : SqT K H a (us.map V.str)) (q : ∀ H' p, Same H H' → SqT K H' p (((us.drop i).take n).map V.str) → Q (.ref p) H') : rSlA K (.ref a) (some (i : Int)) (some ((i + n : Nat) : Int)) H Q := by
  refine ⟨a, us.map V.str, rfl, hA, fun hw => ?_, fun _ p np => ?_⟩
  · obtain ⟨h1, h2⟩ := hw
    rw [HT.sIx_nat] at h1 h2
    rw [List.length_map] at h1 h2
    refine q H a (fun _ _ h => h) ?_
    have e0 : i = 0 := by omega
    subst e0
    rw [List.drop_zero, List.take_of_length_le (by omega)]
    exact hA
  · refine q _ p (same_new np) (sqT_new ?_)
    rw [upd_same]
    have e : cutV (us.map V.str) (some (i : Int)) (some ((i + n : Nat) : Int)) = ((us.drop i).take n).map V.str := by
      unfold cutV
      rw [HT.sIx_nat, HT.sIx_nat, List.length_map, List.map_take, List.map_drop, Nat.min_eq_left hi]
      by_cases l : i + n ≤ us.length
      · rw [Nat.min_eq_left l, Nat.add_sub_cancel_left]
      · rw [Nat.min_eq_right (by omega), List.take_of_length_le (by rw [List.length_drop, List.length_map]; exact Nat.le_refl _), List.take_of_length_le (by rw [List.length_drop, List.length_map]; omega)]
    rw [e]
end
/-- q is made into s -/
def Md (M : MK) (q s : List Str) : Prop := (∀ d ∈ q, d ∈ M.map (·.1)) ∧ Kf.mad (pm M) q = s
/-- what the table tells -/
def Tells (M : MK) (us : List Str) (H : Hp) (j : Nat) (v : V) : Prop := ∃ (p : Addr) (q : List Str), v = V.ref p ∧ H p = some (.tup (q.map V.str)) ∧ Md M q (Kf.suf us j) ∧ q.length ≤ j
structure Dk (M : MK) (us : List Str) (kvs : List (L2.Key × V)) (H : Hp) (n : Nat) : Prop where
  yes : ∀ (j : Nat) (v : V), j < n → valV kvs (Sum.inl (j : Int)) = some v → Tells M us H j v
  no : ∀ j : Nat, j < n → valV kvs (Sum.inl (j : Int)) = none → ∀ q, ¬ Md M q (Kf.suf us j)
  more : ∀ j : Nat, n ≤ j → valV kvs (Sum.inl (j : Int)) = none
structure Dj (M : MK) (us : List Str) (kvs : List (L2.Key × V)) (H : Hp) (n : Nat) (Mi : MK) : Prop where
  yes : ∀ (j : Nat) (v : V), j ≤ n → valV kvs (Sum.inl (j : Int)) = some v → Tells M us H j v
  no : ∀ j : Nat, j < n → valV kvs (Sum.inl (j : Int)) = none → ∀ q, ¬ Md M q (Kf.suf us j)
  now : valV kvs (Sum.inl (n : Int)) = none → ∀ t ∈ Mi, ∀ r, ¬ Md M (t.1 :: r) (Kf.suf us n)
  more : ∀ j : Nat, n < j → valV kvs (Sum.inl (j : Int)) = none
theorem Dk.begin {M : MK} {us : List Str} {kvs : List (L2.Key × V)} {H : Hp} {n : Nat} (h : Dk M us kvs H n) : Dj M us kvs H n [] := by
  refine ⟨fun j v hj e => ?_, h.no, (fun _ t ht => nomatch ht), fun j hj => h.more j (by omega)⟩
  by_cases z : j < n
  · exact h.yes j v z e
  · rw [h.more j (by omega)] at e
    cases e
theorem Dj.tup {M : MK} {us : List Str} {kvs : List (L2.Key × V)} {H H' : Hp} {n : Nat} {Mi : MK} (h : Dj M us kvs H n Mi) (s : ∀ p xs, H p = some (.tup xs) → H' p = some (.tup xs)) : Dj M us kvs H' n Mi := by
  refine ⟨fun j v hj e => ?_, h.no, h.now, h.more⟩
  obtain ⟨p, q, h1, h2, h3⟩ := h.yes j v hj e
  exact ⟨p, q, h1, s _ _ h2, h3⟩
theorem Dj.done {M : MK} {us : List Str} {kvs : List (L2.Key × V)} {H : Hp} {n : Nat} (h : Dj M us kvs H n M) (h0 : 0 < n) (hn : n ≤ us.length) : Dk M us kvs H (n + 1) := by
  refine ⟨fun j v hj e => h.yes j v (by omega) e, fun j hj e q hq => ?_, fun j hj => h.more j (by omega)⟩
  by_cases z : j < n
  · exact h.no j z e q hq
  · obtain rfl : j = n := by omega
    cases q with
    | nil =>
      have := congrArg List.length hq.2
      rw [Kf.suf_len hn] at this
      have e0 : (Kf.mad (pm M) []).length = 0 := rfl
      omega
    | cons d r =>
      obtain ⟨t, ht, rfl⟩ := name_M (hq.1 d List.mem_cons_self)
      exact h.now e t ht r hq
/-- what the test tells -/
theorem md_cons {M : MK} {us : List Str} {n : Nat} (nd : (M.map (·.1)).Nodup) (hn : n ≤ us.length) {t : Str × Addr × List Str} (ht : t ∈ M) {r : List Str} :
    Md M (t.1 :: r) (Kf.suf us n) ↔ (Kf.suf us n).take t.2.2.length = t.2.2 ∧ Md M r (Kf.suf us (n - t.2.2.length)) := by
  unfold Md
  rw [Kf.mad_cons, look_M nd ht]
  have hd : t.2.2.length ≤ n → (Kf.suf us n).drop t.2.2.length = Kf.suf us (n - t.2.2.length) := fun h => Kf.suf_drop hn h
  constructor
  · rintro ⟨h1, h2⟩
    have hl : t.2.2.length ≤ n := by
      have := congrArg List.length h2
      rw [List.length_append, Kf.suf_len hn] at this
      omega
    refine ⟨by rw [← h2, List.take_left], fun d hd => h1 d (List.mem_cons_of_mem _ hd), ?_⟩
    rw [← hd hl, ← h2, List.drop_left]
  · rintro ⟨h1, h2, h3⟩
    have hl : t.2.2.length ≤ n := by
      have := congrArg List.length h1
      rw [List.length_take, Kf.suf_len hn] at this
      omega
    refine ⟨fun d hd => ?_, ?_⟩
    · rcases List.mem_cons.mp hd with e | e
      · rw [e]
        exact List.mem_map.mpr ⟨t, ht, rfl⟩
      · exact h2 d e
    · rw [h3, ← hd hl]
      conv => rhs; rw [← List.take_append_drop t.2.2.length (Kf.suf us n), h1]
section
variable {P : Program} {w : World} {K : PySem.W.Frag} {mg : Str → Option Value} {base : Heap}
abbrev nUm : List Str := ["making", "row", "found", "left", "place", "deed", "many"]
theorem scUnmade : FnScope nUm ["making", "row"] (defScope sUnmade) := ⟨rfl, rfl, rfl, by decide +kernel, rfl, by decide +kernel, by decide +kernel⟩
def spUnmade (K : PySem.W.Frag) (C : Addr) : Sp := fun vs H Q E => ∃ (d b : Addr) (M : MK) (us : List Str), vs = [.ref d, .ref b] ∧ H d = some (.dK (kvM M)) ∧ Stand H M ∧ Fit M ∧ (∀ t ∈ M, ∀ z ∈ t.2.2, isName z = true) ∧ SqT K H b (us.map V.str) ∧ us.length ≤ 1000 ∧ (∀ z ∈ us, isName z = true) ∧
  (¬ Kf.Exact (pm M) → RefuseW C E H "inexact") ∧
  (Kf.Exact (pm M) → (∀ q, ¬ Md M q us) → ∀ H', Same H H' → Q .non H') ∧
  (Kf.Exact (pm M) → ∀ (H' : Hp) (p : Addr) (q : List Str), Same H H' → H' p = some (.tup (q.map V.str)) → Md M q us → Q (.ref p) H')
theorem ok_unmade {f fX fO fA : Addr} {fd fdX fdO fdA : FuncData} {C fE : Addr} {fdE : FuncData} (R : RefC K mg C fE fdE) (F : Fun K "unmade" "unmade" sUnmade f fd) (FX : Fun K "is_exact" "is_exact" sExact fX fdX) (bX : Binds K fdX ["making"] []) (gX : mg "is_exact" = some (.ref fX)) (FO : Fun K "own_deeds" "own_deeds" sOwnD fO fdO) (bO : Binds K fdO ["making"] []) (gO : mg "own_deeds" = some (.ref fO)) (FA : Fun K "ascending" "ascending" sAsc fA fdA) (bA : Binds K fdA ["table"] []) (gA : mg "ascending" = some (.ref fA))
    (N : Nones mg) : FnOk P w K mg base (L2.CX P w) 4 f fd ["making", "row"] (spUnmade K C) := by
  have GE : FnOk P w K mg base CX0 1 fE fdE ["self", "word"] (spRInit C) := ok_rinit R
  have GX : FnOk P w K mg base CX0 3 fX fdX ["making"] spExact := ok_exact FX FO bO gO FA bA gA N.sorted N.tuple N.all N.len
  refine F.okX scUnmade (fun vs H Q E h => ?_) (fun cdv A outer s H vs Q E hr h => ?_)
  · obtain ⟨d, b, M, us, rfl, _⟩ := h
    rfl
  · obtain ⟨d, b, M, us, rfl, hd, hM, ft, nM, hB, hu, nU, hin, hno, hyes⟩ := h
    have hr2 := hr.mono (show 2 ≤ 3 by decide)
    refine ⟨_, pss_cons (ps_if (pt_not (pt_val (pe_call GX hr (by rfl) gX FX.kp bX .nil pass0 (pa_cons (pv 0) pa_nil)))) (pss_one (ps_raise rfl (takes_of rfl rfl rfl rfl) (pmk_oex R.oex R.iC R.tI GE hr2 R.b .nil pass0 (by rfl) R.gC (pa_cons pe_str pa_nil)))) pss_nil)
      (pss_cons (ps_set (i := 2) scUnmade.nd rfl (.inl rfl) (pe_disp (pps_cons pe_int (pe_tup pa_nil) pps_nil) (by rfl) (by rfl) (fun z => by cases z) (by decide)))
      (pss_cons (ps_for (passes_of rfl) rfl (pi_range2 (by rfl) N.range (pa_cons pe_int (pa_cons (pe_op op_add (pe_callB call_len_seq (by rfl) N.len PySem.boot_len (pa_cons (pv 1) pa_nil)) pe_int) pa_nil))) (pg_name (i := 3) scUnmade.nd rfl (.inl rfl))
        (pss_cons (ps_set (i := 4) scUnmade.nd rfl (.inl rfl) (pe_op op_sub (pe_callB call_len_seq (by rfl) N.len PySem.boot_len (pa_cons (pv 1) pa_nil)) (pv 3)))
        (pss_one (ps_lock (ps_for (passes_of rfl) rfl (pi_keys (pv 0)) (pg_name (i := 5) scUnmade.nd rfl (.inl rfl))
          (pss_cons (ps_set (i := 6) scUnmade.nd rfl (.inl rfl) (pe_callB call_len_seq (by rfl) N.len PySem.boot_len (pa_cons (pe_dget (hu_of hr) (pv 0) (pv 5) (fun _ _ => rfl)) pa_nil)))
          (pss_one (ps_if (PW.pt (pw_and (pt_cmpR (op_eqD hr.units) (pe_slice sl_tupA (pv 1) (po_some (pv 4)) (po_some (pe_op op_add (pv 4) (pv 6)))) (pe_dget (hu_of hr) (pv 0) (pv 5) (fun _ _ => rfl)) (nomark _)) (pw_and1 (pt_cmp (pc_din (hu_of hr) (pe_op op_sub (pv 3) (pv 6)) (pv 2))))))
            (pss_one (ps_dput (hu_of hr) (pv 2) (pv 3) (pe_op op_catA (pe_tup (pa_cons (pv 5) pa_nil)) (pe_dget (hu_of hr) (pv 2) (pe_op op_sub (pv 3) (pv 6)) (fun _ _ => rfl))) rfl)) pss_nil))))))))
      (pss_one (ps_ret (pe_dget1 (hu_of hr) (pv 2) (pe_callB call_len_seq (by rfl) N.len PySem.boot_len (pa_cons (pv 1) pa_nil)) ⟨rfl, rfl, rfl, rfl⟩))))), ?_⟩
    have lenU : ((us.map V.str).length : Nat) = us.length := List.length_map _
    refine ⟨.ref d, rfl, d, M, rfl, hd, hM, ft, fun Ha ex sa hex => ?_⟩
    refine ⟨_, rfl, ?_⟩
    cases ex with
    | false =>
      refine iteT ?_
      exact refuseW_mk ((hin fun z => by have := hex.mpr z; cases this).mono sa)
    | true =>
    refine iteF ?_
    have hno := hno (hex.mp rfl)
    have hyes := hyes (hex.mp rfl)
    refine fun o no => ?_
    refine ⟨Nat.zero_le _, fun e0 ne0 => ?_⟩
    have s1 := same_new (o := .dK []) no
    have s2 := s1.trans (same_new (o := .tup []) ne0)
    have eo2 := same_new (o := .tup []) ne0 _ _ (upd_same (H := Ha) (a := o) (o := .dK []))
    have ee2 : upd (upd Ha o (.dK [])) e0 (.tup []) e0 = some (.tup []) := upd_same
    have heo : e0 ≠ o := Ne.symm (ne_of_none (upd_same (H := Ha) (a := o) (o := .dK [])) ne0)
    generalize upd (upd Ha o (.dK [])) e0 (.tup []) = Hb at s2 eo2 ee2
    refine ⟨eo2, [(Sum.inl 0, V.ref e0)], rfl, (show 1 ≤ 15 by decide), ?_⟩
    have noH : H o = none := sa.free no
    have hdo : d ≠ o := ne_of_none hd noH
    have sAB : ∀ c u, c ≠ o → H c = some u → upd Hb o (.dK [(Sum.inl 0, V.ref e0)]) c = some u := fun c u hc e => by
      rw [upd_ne hc]
      exact s2 _ _ (sa _ _ e)
    have eo1 : upd Hb o (.dK (mergeK [] [((Sum.inl 0 : L2.Key), V.ref e0)])) o = some (.dK [((Sum.inl 0 : L2.Key), V.ref e0)]) := upd_same
    have ee1 : upd Hb o (.dK (mergeK [] [((Sum.inl 0 : L2.Key), V.ref e0)])) e0 = some (.tup []) := by
      rw [upd_ne heo]
      exact ee2
    have sAB : ∀ c u, c ≠ o → H c = some u → upd Hb o (.dK (mergeK [] [((Sum.inl 0 : L2.Key), V.ref e0)])) c = some u := fun c u hc e => by
      rw [upd_ne hc]
      exact s2 _ _ (sa _ _ e)
    generalize upd Hb o (.dK (mergeK [] [((Sum.inl 0 : L2.Key), V.ref e0)])) = H1 at sAB eo1 ee1
    have up : ∀ {G : Hp}, But o H1 G → Same H G := fun k c u e => k c u (ne_of_none e noH) (sAB c u (ne_of_none e noH) e)
    have few := ft.few
    refine ⟨.ref b, rfl, b, _, rfl, .inr (Same.sqT (up But.refl) hB), _, 1, rfl, rfl, 1, (((us.map V.str).length : Nat) : Int) + 1, rfl, ⟨by decide, by decide, by omega, by rw [lenU]; omega⟩, ?_⟩
    have en : ((((us.map V.str).length : Nat) : Int) + 1 - 1).toNat = us.length := by
      rw [lenU]
      omega
    refine for_range (lo := 1) (n := ((((us.map V.str).length : Nat) : Int) + 1 - 1).toNat) (fun i σ H' => ∃ (kvs : List (L2.Key × V)) (x3 x4 x5 x6 : Option V), σ = [some (.ref d), some (.ref b), some (.ref o), x3, x4, x5, x6] ∧ But o H1 H' ∧ H' o = some (.dK kvs) ∧ kvs.length ≤ 1 + 12 * i ∧ Dk M us kvs H' (i + 1))
      ⟨_, none, none, none, none, rfl, But.refl, eo1, Nat.le_refl _, ?_⟩ (fun i σ H' hi hPv => ?_) (fun σ H' hPv => ?_)
    · refine ⟨fun j v hj e => ?_, fun j hj e => ?_, fun j hj => ?_⟩
      · obtain rfl : j = 0 := by omega
        have : v = V.ref e0 := (Option.some.inj e).symm
        refine ⟨e0, [], this, ee1, ⟨(fun d hd => nomatch hd), ?_⟩, Nat.le_refl _⟩
        rw [Kf.suf_zero]
        rfl
      · obtain rfl : j = 0 := by omega
        cases e
      · have hne : (Sum.inl (0 : Int) : L2.Key) ≠ Sum.inl (j : Int) := fun z => by
          have := Sum.inl.inj z
          omega
        show ([((Sum.inl 0 : L2.Key), V.ref e0)].find? fun kv => decide (kv.1 = (Sum.inl (j : Int) : L2.Key))).map (·.2) = none
        rw [List.find?_cons, decide_eq_false hne]
        rfl
    · obtain ⟨kvs, x3, x4, x5, x6, rfl, k, eo, hkl, hdk⟩ := hPv
      rw [en] at hi
      have sm := up k
      have eL : (1 : Int) + (i : Int) = ((i + 1 : Nat) : Int) := by omega
      rw [eL]
      have hL : i + 1 ≤ us.length := hi
      obtain ⟨pl, hpl⟩ : ∃ pl, pl = us.length - (i + 1) := ⟨_, rfl⟩
      have hsuf : Kf.suf us (i + 1) = us.drop pl := by rw [hpl]; rfl
      have epl : (((us.map V.str).length : Nat) : Int) - ((i + 1 : Nat) : Int) = (pl : Int) := by
        rw [lenU]
        omega
      refine ⟨.ref b, rfl, b, _, rfl, .inr (Same.sqT sm hB), .int ((i + 1 : Nat) : Int), rfl, _, _, rfl, rfl, ?_⟩
      dsimp only
      rw [epl]
      have hd2 := sm _ _ hd
      refine ⟨d, _, hd2, True.intro, fun od => ?_⟩
      generalize hL0 : upd H' d (.frz od (.dK (kvM M))) = L
      have kL : But d H' L := by rw [← hL0]; exact But.upd
      have fL : L d = some (.frz od (.dK (kvM M))) := by rw [← hL0]; exact upd_same
      have eoL := kL _ _ (Ne.symm hdo) eo
      have tupL : ∀ {c : Addr} {xs : List V}, H' c = some (.tup xs) → L c = some (.tup xs) := fun {c xs} h => kL _ _ (fun e => by rw [e, hd2] at h; cases h) h
      have tupG : ∀ {G : Hp} {c : Addr} {xs : List V}, But o L G → L c = some (.tup xs) → G c = some (.tup xs) := fun {G c xs} kk h => kk _ _ (fun e => by rw [e, eoL] at h; cases h) h
      have BG : ∀ {G : Hp}, But o L G → SqT K G b (us.map V.str) := fun kk => by
        have : ∀ c u, H c = some u → c ≠ d → _ = some u := fun c u e hc => kk c u (ne_of_none e noH) (kL c u hc (sm c u e))
        rcases hB with (h | ⟨ob, h⟩) | h
        · exact .inl (.inl (this _ _ h (fun e => by rw [e, hd] at h; cases h)))
        · exact .inl (.inr ⟨ob, this _ _ h (fun e => by rw [e, hd] at h; cases h)⟩)
        · exact .inr h
      refine ⟨.ref d, rfl, d, od, rfl, .inl ⟨kvM M, fL, ?_⟩⟩
      refine for_it (walk_keys (d := d) (o := od) (kvs := kvM M)) (fun i2 σ G => ∃ (y5 y6 : Option V) (kvs : List (L2.Key × V)), σ = [some (.ref d), some (.ref b), some (.ref o), some (.int ((i + 1 : Nat) : Int)), some (.int (pl : Nat)), y5, y6] ∧ But o L G ∧ G o = some (.dK kvs) ∧ kvs.length ≤ 1 + 12 * i + i2 ∧ Dj M us kvs G (i + 1) (M.take i2))
        ⟨x5, x6, kvs, rfl, But.refl, eoL, hkl, hdk.begin.tup fun p xs h => tupL h⟩ (fun i2 σ G _ ⟨_, _, _, _, kk, _⟩ => kk _ _ hdo fL) (fun i2 x σ G G' hi2 h y => ?_) (fun σ G h => ?_)
      · obtain ⟨rfl, ky, va, hkv, rfl⟩ := y
        obtain ⟨y5, y6, kvs, rfl, kk, eo3, hkl3, hj⟩ := h
        obtain ⟨t2, ht2, ekv⟩ := get_map hkv
        cases ekv
        have htM := List.mem_of_getElem? ht2
        have him := lt_of_get ht2
        have e2 := tupG kk (tupL (sm _ _ (hM t2 htM)))
        have elen : (((t2.2.2.map V.str).length : Nat) : Int) = (t2.2.2.length : Nat) := by rw [List.length_map]
        refine ⟨.ref d, rfl, .str t2.1, rfl, d, _, rfl, get_M (.inr ⟨od, kk _ _ hdo fL⟩) ft.nd htM, t2.2.1, _, rfl, .inr (sqT_new e2), ?_⟩
        dsimp only
        rw [elen]
        refine ⟨.ref b, rfl, .int (pl : Nat), rfl, _, rfl, .int (pl : Nat), rfl, .int (t2.2.2.length : Nat), rfl, _, _, rfl, rfl, _, rfl, ?_⟩
        dsimp only
        rw [show ((pl : Int) + (t2.2.2.length : Nat)) = ((pl + t2.2.2.length : Nat) : Int) by omega]
        refine slA_mid (by omega) (BG kk) fun G2 p2 s3 hp2 => ?_
        have kk2 := kk.trans (But.of s3)
        have eo4 := s3 _ _ eo3
        have e24 := s3 _ _ e2
        have hj4 := hj.tup fun p xs h => s3 p _ h
        have nD : ∀ z ∈ (us.drop pl).take t2.2.2.length, isName z = true := fun z hz => nU z (List.mem_of_mem_drop (List.mem_of_mem_take hz))
        refine ⟨.ref d, rfl, .str t2.1, rfl, d, _, rfl, get_M (.inr ⟨od, kk2 _ _ hdo fL⟩) ft.nd htM, Ka.rowD _, Ka.rowD _, .tup hp2 (dpRs _), .tup (sqT_new e24) (dpRs _), shR nD, shR (nM t2 htM), ?_⟩
        rw [eqR]
        have stay : ∀ (x : Option V × Option V), (¬ ∃ r, Md M (t2.1 :: r) (Kf.suf us (i + 1))) → ∃ (y5 y6 : Option V) (kvs' : List (L2.Key × V)), [some (V.ref d), some (.ref b), some (.ref o), some (.int ((i + 1 : Nat) : Int)), some (.int (pl : Nat)), some (.str t2.1), some (.int (t2.2.2.length : Nat))] = [some (.ref d), some (.ref b), some (.ref o), some (.int ((i + 1 : Nat) : Int)), some (.int (pl : Nat)), y5, y6] ∧ But o L G2 ∧ G2 o = some (.dK kvs') ∧ kvs'.length ≤ 1 + 12 * i + (i2 + 1) ∧ Dj M us kvs' G2 (i + 1) (M.take (i2 + 1)) := fun _ hn =>
          ⟨_, _, kvs, rfl, kk2, eo4, by omega, hj4.yes, hj4.no, fun e t ht r hr => by
            rw [take_of_get ht2] at ht
            rcases List.mem_append.mp ht with z | z
            · exact hj4.now e t z r hr
            · rw [List.mem_singleton.mp z] at hr
              exact hn ⟨r, hr⟩, hj4.more⟩
        refine ⟨_, rfl, ite2 (fun c => ?_) (fun c => ?_)⟩
        · have c := of_decide_eq_true c
          rw [← hsuf] at c
          have hm : t2.2.2.length ≤ i + 1 := by
            have := congrArg List.length c
            rw [List.length_take, Kf.suf_len hL] at this
            omega
          have hpos : 0 < t2.2.2.length := by
            obtain ⟨x, hx⟩ := hex.mp rfl t2.1 (by rw [pm_names]; exact List.mem_map.mpr ⟨t2, htM, rfl⟩)
            have := hx.1
            rw [look_M ft.nd htM] at this
            exact List.length_pos_of_mem this
          have ej : (((i + 1 : Nat) : Int) - (t2.2.2.length : Nat)) = ((i + 1 - t2.2.2.length : Nat) : Int) := by omega
          refine ⟨.int ((i + 1 : Nat) : Int), rfl, .int (t2.2.2.length : Nat), rfl, _, _, rfl, rfl, ?_⟩
          dsimp only
          rw [ej]
          refine ⟨.ref o, rfl, o, _, rfl, DGet.k (k := Sum.inl ((i + 1 - t2.2.2.length : Nat) : Int)) eo4, _, rfl, ?_⟩
          cases ev : valV kvs (Sum.inl ((i + 1 - t2.2.2.length : Nat) : Int)) with
          | none =>
            refine iteF (stay (none, none) fun ⟨r, hr⟩ => ?_)
            exact hj4.no _ (by omega) ev r ((md_cons ft.nd hL htM).mp hr).2
          | some v =>
            obtain ⟨p, q, rfl, ep, hq, hql⟩ := hj4.yes _ v (by omega) ev
            refine iteT ?_
            refine ⟨.str t2.1, rfl, smallE (show 1 ≤ 1000000 by decide), fun t1 nt1 => ?_⟩
            have s5 := same_new (o := .tup [V.str t2.1]) nt1
            have et1 : upd G2 t1 (.tup [V.str t2.1]) t1 = some (.tup [V.str t2.1]) := upd_same
            generalize upd G2 t1 (.tup [V.str t2.1]) = G5 at s5 et1
            refine ⟨.ref o, rfl, .int ((i + 1 : Nat) : Int), rfl, .int (t2.2.2.length : Nat), rfl, _, _, rfl, rfl, ?_⟩
            dsimp only
            rw [ej]
            have gd := DGet.k (k := Sum.inl ((i + 1 - t2.2.2.length : Nat) : Int)) (s5 _ _ eo4)
            rw [ev] at gd
            refine ⟨o, _, rfl, gd, ?_⟩
            refine catX et1 (s5 _ _ ep) (by rw [List.length_map]; show 1 + _ ≤ 100000; omega) fun G6 p6 s6 e6 => ?_
            have s56 := s5.trans s6
            have eo6 := s56 _ _ eo4
            have hpo : p6 ≠ o := fun e => by rw [e, eo6] at e6; cases e6
            refine ⟨.ref o, rfl, .int ((i + 1 : Nat) : Int), rfl, o, _, rfl, DPut.k (k := Sum.inl ((i + 1 : Nat) : Int)) eo6 ?_, ?_⟩
            · exact small (by omega)
            have kT : ∀ p xs, G2 p = some (.tup xs) → ∀ z, upd G6 o z p = some (.tup xs) := fun p xs h z => by
              rw [upd_ne (fun e => by rw [e, eo4] at h; cases h)]
              exact s56 _ _ h
            have hput := fun j => valV_put kvs (Sum.inl ((i + 1 : Nat) : Int)) (Sum.inl ((j : Nat) : Int) : L2.Key) (V.ref p6)
            have hne : ∀ j : Nat, j ≠ i + 1 → (Sum.inl (j : Int) : L2.Key) ≠ Sum.inl ((i + 1 : Nat) : Int) := fun j hj z => by
              have := Sum.inl.inj z
              omega
            have hnew : Tells M us (upd G6 o (.dK (putK kvs (Sum.inl ((i + 1 : Nat) : Int)) (V.ref p6)))) (i + 1) (V.ref p6) := by
              refine ⟨p6, t2.1 :: q, rfl, by rw [upd_ne hpo]; exact e6, (md_cons ft.nd hL htM).mpr ⟨c, hq⟩, ?_⟩
              rw [List.length_cons]
              omega
            refine ⟨_, _, _, rfl, fun c u hc e => ?_, upd_same, ?_, fun j v hj5 e => ?_, fun j hj5 e => ?_, fun e => ?_, fun j hj5 => ?_⟩
            · rw [upd_ne hc]
              exact s56 _ _ (kk2 c u hc e)
            · have := length_putK kvs (Sum.inl ((i + 1 : Nat) : Int) : L2.Key) (V.ref p6)
              omega
            · rw [hput] at e
              by_cases z : j = i + 1
              · rw [z, if_pos rfl] at e
                rw [z, ← Option.some.inj e]
                exact hnew
              · rw [if_neg (hne j z)] at e
                obtain ⟨p', q', h1, h2, h3⟩ := hj4.yes j v hj5 e
                exact ⟨p', q', h1, kT _ _ h2 _, h3⟩
            · rw [hput, if_neg (hne j (by omega))] at e
              exact hj4.no j hj5 e
            · rw [hput, if_pos rfl] at e
              cases e
            · rw [hput, if_neg (hne j (by omega))]
              exact hj4.more j hj5
        · refine stay (none, none) fun ⟨r, hr⟩ => c (decide_eq_true ?_)
          rw [← hsuf]
          exact ((md_cons ft.nd hL htM).mp hr).1
      · obtain ⟨y5, y6, kvs, rfl, kk, eo3, hkl3, hj⟩ := h
        rw [kvM_len] at hkl3 hj
        rw [List.take_length] at hj
        have fG := kk _ _ hdo fL
        refine ⟨fG, kvs, _, _, _, _, rfl, fun c u hc e => ?_, by rw [upd_ne (Ne.symm hdo)]; exact eo3, by omega, ?_⟩
        · have e' := k c u hc e
          by_cases z : c = d
          · rw [z, upd_same, ← hd2, ← z]
            exact e'
          · rw [upd_ne z]
            exact kk c u hc (kL c u z e')
        · refine (hj.tup fun p xs h => ?_).done (Nat.succ_pos _) hL
          rw [upd_ne (fun e => by rw [e, fG] at h; cases h)]
          exact h
    · obtain ⟨kvs, x3, x4, x5, x6, rfl, k, eo, hkl, hdk⟩ := hPv
      rw [en] at hdk
      have sm := up k
      refine ⟨.ref o, rfl, o, rfl, .inl ⟨_, .inl eo⟩, .ref b, rfl, b, _, rfl, .inr (Same.sqT sm hB), ?_⟩
      dsimp only
      rw [lenU]
      refine ⟨_, DGet.k (k := Sum.inl ((us.length : Nat) : Int)) eo, ?_⟩
      cases ev : valV kvs (Sum.inl ((us.length : Nat) : Int)) with
      | none =>
        refine hno (fun q hq => hdk.no us.length (by omega) ev q ?_) H' sm
        rw [Kf.suf_all]
        exact hq
      | some v =>
        obtain ⟨p, q, rfl, ep, hq, _⟩ := hdk.yes _ v (by omega) ev
        rw [Kf.suf_all] at hq
        exact hyes H' p q sm ep hq
end
end Kb
namespace Kb
open PySem PySem.Spec PyProof.Rows L2
section
variable {P : Program} {w : World} {K : PySem.W.Frag} {mg : Str → Option Value} {base : Heap}
theorem scFitted : FnScope ["row", "place", "shown", "name"] ["row", "place", "shown"] (defScope sFitted) := ⟨rfl, rfl, rfl, by decide +kernel, rfl, by decide +kernel, by decide +kernel⟩
def spFitted (K : PySem.W.Frag) : Sp := fun vs H Q _ => ∃ (a b : Addr) (us zs : List Str) (pl : Nat), vs = [.ref a, .int (pl : Nat), .ref b] ∧ SqT K H a (us.map V.str) ∧ SqT K H b (zs.map V.str) ∧ Q (.int ((pl + Kf.beg (us.drop pl) zs : Nat) : Int)) H
theorem ok_fitted {f : Addr} {fd : FuncData} (F : Fun K "_law_fitted" "_law_fitted" sFitted f fd) (ml : mg "len" = none) : FnOk P w K mg base CX0 1 f fd ["row", "place", "shown"] (spFitted K) := by
  refine F.ok scFitted (fun vs H Q E h => ?_) (fun cdv A outer s H vs Q E hr h => ?_)
  · obtain ⟨a, b, us, zs, pl, rfl, _⟩ := h
    rfl
  · obtain ⟨a, b, us, zs, pl, rfl, hA, hB, q⟩ := h
    refine ⟨_, pss_cons (ps_for PassesOwn.never rfl (pi_tup (pv 2)) (pg_name (i := 3) scFitted.nd rfl (.inl rfl))
        (pss_one (ps_if (PW.pt (pw_and (pt_cmpR op_lt (pv 1) (pe_callB call_len_seq (by rfl) ml PySem.boot_len (pa_cons (pv 0) pa_nil)) (nomark _)) (pw_and1 (pt_cmpR op_eq (pe_ix ix_tup (pv 0) (pv 1) (fun _ _ => rfl)) (pv 3) (nomark _)))))
          (pss_one (ps_set (i := 1) scFitted.nd rfl (.inl rfl) (pe_op op_add (pv 1) pe_int))) pss_nil)))
      (pss_one (ps_ret (pv 1))), ?_⟩
    refine ⟨.ref b, rfl, b, rfl, ⟨_, hB⟩, ?_⟩
    refine for_tup (K := K) (a := b) (xs := zs.map V.str) (fun i σ H' => ∃ (m : Nat) (d : Option V), σ = [some (.ref a), some (.int (m : Nat)), some (.ref b), d] ∧ H' = H ∧ m + Kf.beg (us.drop m) (zs.drop i) = pl + Kf.beg (us.drop pl) zs)
      ⟨pl, none, rfl, rfl, by rw [List.drop_zero]⟩ (fun i σ H' _ ⟨_, _, _, e, _⟩ => by rw [e]; exact hB) ?_ ?_
    · rintro i x σ H' hx ⟨m, d, rfl, rfl, eq⟩
      obtain ⟨z, hz, rfl⟩ := get_map hx
      rw [drop_of_get hz, Kf.beg_step] at eq
      refine ⟨.int (m : Nat), rfl, .ref a, rfl, a, _, rfl, .inr hA, _, _, rfl, rfl, _, rfl, ite2 (fun c => ?_) (fun c => ?_)⟩
      · have c := of_decide_eq_true c
        rw [List.length_map] at c
        have hm : m < us.length := by omega
        have hg : us[m]? = some us[m] := List.getElem?_eq_getElem hm
        refine ⟨.ref a, rfl, .int (m : Nat), rfl, a, _, _, _, rfl, rfl, hA, atI_nat (by rw [List.getElem?_map, hg]; rfl), .str z, rfl, rfl, _, rfl, ite2 (fun c2 => ?_) (fun c2 => ?_)⟩
        · have e2 : us[m] = z := V.str.inj (of_decide_eq_true c2)
          rw [hg, e2, if_pos rfl] at eq
          refine ⟨.int (m : Nat), rfl, _, _, rfl, rfl, ?_⟩
          exact ⟨m + 1, _, rfl, rfl, by omega⟩
        · have e2 : us[m] ≠ z := fun e => c2 (decide_eq_true (by rw [e]))
          rw [hg, if_neg fun e => e2 (Option.some.inj e)] at eq
          exact ⟨m, _, rfl, rfl, eq⟩
      · have c : ¬ ((m : Int) < ((us.map V.str).length : Nat)) := fun z => c (decide_eq_true z)
        rw [List.length_map] at c
        rw [List.getElem?_eq_none (by omega), if_neg fun e => nomatch e] at eq
        exact ⟨m, _, rfl, rfl, eq⟩
    · rintro σ H' ⟨m, d, rfl, rfl, eq⟩
      rw [List.length_map, List.drop_length, Kf.beg_nil, Nat.add_zero] at eq
      refine ⟨_, rfl, ?_⟩
      rw [eq]
      exact q
end
end Kb
namespace Kb
open PySem PySem.Spec PyProof.Rows L2
abbrev nLn : List Str := ["making", "row", "found", "some", "turn", "later", "line", "place", "deed", "to"]
/-- a line begun: its list, its row, how far it goes -/
abbrev Pc := Addr × Addr × List Str × Nat
def pcV (S : List Pc) : List V := S.map fun e => V.ref e.1
theorem pcV_len (S : List Pc) : (pcV S).length = S.length := List.length_map _
def PcOk (H : Hp) (o g : Addr) (S : List Pc) : Prop := ∀ e ∈ S, e.1 ≠ o ∧ e.1 ≠ g ∧ H e.1 = some (.lst [.ref e.2.1, .int (e.2.2.2 : Nat)]) ∧ H e.2.1 = some (.tup (e.2.2.1.map V.str))
/-- all but two stand -/
def Bt (o g : Addr) (H H' : Hp) : Prop := ∀ c u, c ≠ o → c ≠ g → H c = some u → H' c = some u
abbrev LineM (M : MK) : List Str → List Str → Prop := Kg.Line (pm M) (M.map (·.1))
def Pt (M : MK) (us : List Str) (n : Nat) (e : Pc) : Prop := e.2.2.2 ≤ us.length ∧ e.2.2.1.length = n ∧ ∀ r, LineM M (us.drop e.2.2.2) r → LineM M us (e.2.2.1 ++ r)
/-- what the lines begun still give -/
def Gives (M : MK) (us : List Str) (S : List Pc) (r : List Str) : Prop := ∃ e ∈ S, ∃ r', r = e.2.2.1 ++ r' ∧ LineM M (us.drop e.2.2.2) r'
theorem line_len {M : MK} {s r : List Str} (h : LineM M s r) : r.length ≤ s.length := (Kg.line_holds _ _ h).2.2
section
variable {P : Program} {w : World} {K : PySem.W.Frag} {mg : Str → Option Value} {base : Heap}
theorem scLines : FnScope nLn ["making", "row"] (defScope sLines) := ⟨rfl, rfl, rfl, by decide +kernel, rfl, by decide +kernel, by decide +kernel⟩
def spLines (K : PySem.W.Frag) : Sp := fun vs H Q _ => ∃ (d b : Addr) (M : MK) (us : List Str), vs = [.ref d, .ref b] ∧ H d = some (.dK (kvM M)) ∧ Stand H M ∧ Fit M ∧ M.length ≤ 3 ∧ SqT K H b (us.map V.str) ∧ us.length ≤ 4 ∧
  ∀ (H' : Hp) (p : Addr) (fs : List Ka.Row), Same H H' → H' p = some (.lst (adV fs)) → Rows H' fs → (∀ r ∈ fs, LineM M us r.2) → (∀ r, LineM M us r → r ∈ fs.map (·.2)) → fs.length ≤ 2000 → Q (.ref p) H'
theorem ok_lines {f fF : Addr} {fd fdF : FuncData} (F : Fun K "_law_lines" "_law_lines" sLines f fd) (FF : Fun K "_law_fitted" "_law_fitted" sFitted fF fdF) (bF : Binds K fdF ["row", "place", "shown"] []) (gF : mg "_law_fitted" = some (.ref fF)) (N : Nones mg) : FnOk P w K mg base CX0 2 f fd ["making", "row"] (spLines K) := by
  have GF : FnOk P w K mg base CX0 1 fF fdF ["row", "place", "shown"] (spFitted K) := ok_fitted FF N.len
  refine F.ok scLines (fun vs H Q E h => ?_) (fun cdv A outer s H vs Q E hr h => ?_)
  · obtain ⟨d, b, M, us, rfl, _⟩ := h
    rfl
  · obtain ⟨d, b, M, us, rfl, hd, hM, ft, hm3, hB, hu, q⟩ := h
    refine ⟨_, pss_cons (ps_set (i := 2) scLines.nd rfl (.inl rfl) (pe_lst pa_nil))
      (pss_cons (ps_set (i := 3) scLines.nd rfl (.inl rfl) (pe_lst (pa_cons (pe_lst (pa_cons (pe_tup pa_nil) (pa_cons pe_int pa_nil))) pa_nil)))
      (pss_cons (ps_for PassesOwn.never rfl (pi_range1 (by rfl) N.range (pa_cons (pe_op op_add (pe_callB call_len_seq (by rfl) N.len PySem.boot_len (pa_cons (pv 1) pa_nil)) pe_int) pa_nil)) (pg_name (i := 4) scLines.nd rfl (.inl rfl))
        (pss_cons (ps_set (i := 5) scLines.nd rfl (.inl rfl) (pe_lst pa_nil))
        (pss_cons (ps_for PassesOwn.never rfl (pi_list (pv 3)) (pg_unl rfl (pgs_cons (pg_name (i := 6) scLines.nd rfl (.inl rfl)) (pgs_cons (pg_name (i := 7) scLines.nd rfl (.inl rfl)) pgs_nil)))
          (pss_one (ps_if (pt_cmpR op_eq (pv 7) (pe_callB call_len_seq (by rfl) N.len PySem.boot_len (pa_cons (pv 1) pa_nil)) (nomark _))
            (pss_one (ps_expr (pe_bm PySem.F.plainAttrs_list PySem.F.slot_list_append PySem.F.type_list_append mt_append (pv 2) (pa_cons (pv 6) pa_nil))))
            (pss_one (ps_lock (ps_for PassesOwn.never rfl (pi_keys (pv 0)) (pg_name (i := 8) scLines.nd rfl (.inl rfl))
              (pss_cons (ps_set (i := 9) scLines.nd rfl (.inl rfl) (pe_call GF hr (by rfl) gF FF.kp bF .nil pass0 (pa_cons (pv 1) (pa_cons (pv 7) (pa_cons (pe_dget (hu_of hr) (pv 0) (pv 8) (fun _ _ => rfl)) pa_nil)))))
              (pss_one (ps_if (pt_cmpR op_gt (pv 9) (pv 7) (nomark _))
                (pss_one (ps_expr (pe_bm PySem.F.plainAttrs_list PySem.F.slot_list_append PySem.F.type_list_append mt_append (pv 5) (pa_cons (pe_lst (pa_cons (pe_op op_catA (pv 6) (pe_tup (pa_cons (pv 8) pa_nil))) (pa_cons (pv 9) pa_nil))) pa_nil)))) pss_nil)))))))))
        (pss_one (ps_set (i := 3) scLines.nd rfl (.inl rfl) (pe_slice sl_list (pv 5) po_none (po_some pe_int)))))))
      (pss_one (ps_ret (pv 2))))), ?_⟩
    have lenU : ((us.map V.str).length : Nat) = us.length := List.length_map _
    refine ⟨Nat.zero_le _, fun o no => ⟨Nat.zero_le _, fun e0 ne0 => ⟨smallE (show 2 ≤ 1000000 by decide), fun e1 ne1 => ⟨smallE (show 1 ≤ 1000000 by decide), fun e2 ne2 => ?_⟩⟩⟩⟩
    have sa : Same H (upd H o (.lst [])) := same_new no
    have eo1 : upd H o (.lst []) o = some (.lst []) := upd_same
    generalize upd H o (.lst []) = Ha at sa eo1 ne0 ne1 ne2
    have sb := same_new (o := .tup []) ne0
    have ee1 : upd Ha e0 (.tup []) e0 = some (.tup []) := upd_same
    generalize upd Ha e0 (.tup []) = Hb at sb ee1 ne1 ne2
    have sc := same_new (o := .lst [V.ref e0, .int 0]) ne1
    have ef1 : upd Hb e1 (.lst [V.ref e0, .int 0]) e1 = some (.lst [V.ref e0, .int 0]) := upd_same
    have h1o : e1 ≠ o := Ne.symm (ne_of_none (sb _ _ eo1) ne1)
    generalize upd Hb e1 (.lst [V.ref e0, .int 0]) = Hc at sc ef1 ne2
    have sd := same_new (o := .lst [V.ref e1]) ne2
    have h2o : e2 ≠ o := Ne.symm (ne_of_none (sc _ _ (sb _ _ eo1)) ne2)
    have sp1 : upd Hc e2 (.lst [V.ref e1]) e2 = some (.lst [V.ref e1]) := upd_same
    have eo1 := sd _ _ (sc _ _ (sb _ _ eo1))
    have ee1 := sd _ _ (sc _ _ ee1)
    have ef1 := sd _ _ ef1
    have s1 : Same H (upd Hc e2 (.lst [V.ref e1])) := ((sa.trans sb).trans sc).trans sd
    generalize upd Hc e2 (.lst [V.ref e1]) = H1 at s1 eo1 ee1 ef1 sp1
    have hdo : d ≠ o := ne_of_none hd no
    have up : ∀ {G : Hp}, But o H1 G → Same H G := fun k c u e => k c u (ne_of_none e no) (s1 c u e)
    have few := ft.few
    have en : ((us.length : Nat) : Int) + 1 = ((us.length + 1 : Nat) : Int) := by omega
    refine ⟨.ref b, rfl, b, _, rfl, .inr (Same.sqT s1 hB), _, 1, rfl, rfl, (us.length + 1 : Nat), by rw [lenU]; rfl, by omega, by omega, ?_⟩
    refine for_range (lo := 0) (n := us.length + 1) (fun t σ H' => ∃ (sp : Addr) (x4 x5 x6 x7 x8 x9 : Option V) (fs : List Ka.Row) (S : List Pc), σ = [some (.ref d), some (.ref b), some (.ref o), some (.ref sp), x4, x5, x6, x7, x8, x9] ∧ But o H1 H' ∧ sp ≠ o ∧ H' o = some (.lst (adV fs)) ∧ Rows H' fs ∧ H' sp = some (.lst (pcV S)) ∧ PcOk H' o o S ∧
        (∀ r ∈ fs, LineM M us r.2) ∧ (∀ e ∈ S, Pt M us t e) ∧ (∀ r, LineM M us r → r ∈ fs.map (·.2) ∨ Gives M us S r) ∧ S.length ≤ 3 ^ t ∧ fs.length ≤ 400 * t)
      ⟨e2, none, none, none, none, none, none, [], [(e1, e0, [], 0)], rfl, But.refl, h2o, eo1, (fun r hr => nomatch hr), sp1, fun e he => ?_, (fun r hr => nomatch hr), fun e he => ?_, fun r hr => .inr ⟨_, List.mem_singleton.mpr rfl, r, rfl, ?_⟩, Nat.le_refl _, Nat.le_refl _⟩ (fun t σ H' htl hPv => ?_) (fun σ H' hPv => ?_)
    · rw [List.mem_singleton.mp he]
      exact ⟨h1o, h1o, ef1, ee1⟩
    · rw [List.mem_singleton.mp he]
      exact ⟨Nat.zero_le _, rfl, fun r hr => hr⟩
    · exact hr
    · obtain ⟨sp, x4, x5, x6, x7, x8, x9, fs, S, rfl, k, hso, eo, hRf, esp, hpc, hfl, hpt, hall, hS3, hfs⟩ := hPv
      have h400 : S.length ≤ 81 := by
        have : 3 ^ t ≤ 3 ^ 4 := Nat.pow_le_pow_right (by decide) (by omega)
        have e4 : 3 ^ 4 = 81 := by decide
        omega
      have sm := up k
      refine ⟨Nat.zero_le _, fun g ng => ?_⟩
      have s2 := same_new (o := .lst []) ng
      have eg2 : upd H' g (.lst []) g = some (.lst (pcV [])) := upd_same
      have hog : o ≠ g := ne_of_none eo ng
      have hsg : sp ≠ g := ne_of_none esp ng
      have hdg : d ≠ g := ne_of_none (sm _ _ hd) ng
      have ngH := sm.free ng
      have eo2 := s2 _ _ eo
      have esp2 := s2 _ _ esp
      have hRf2 := hRf.mono s2
      have hpc2 : ∀ e ∈ S, e.1 ≠ g := fun e he => ne_of_none (hpc e he).2.2.1 ng
      have hpc3 : ∀ e ∈ S, upd H' g (.lst []) e.1 = some (.lst [.ref e.2.1, .int (e.2.2.2 : Nat)]) ∧ upd H' g (.lst []) e.2.1 = some (.tup (e.2.2.1.map V.str)) := fun e he => ⟨s2 _ _ (hpc e he).2.2.1, s2 _ _ (hpc e he).2.2.2⟩
      have sm2 := sm.trans s2
      have k2 : ∀ c u, c ≠ o → H1 c = some u → upd H' g (.lst []) c = some u := fun c u hc e => s2 _ _ (k c u hc e)
      generalize upd H' g (.lst []) = H2 at s2 eg2 eo2 esp2 hRf2 hpc3 sm2 k2
      have tupZ : ∀ {Z : Hp} {c : Addr} {xs : List V}, Bt o g H2 Z → H2 c = some (.tup xs) → Z c = some (.tup xs) := fun {Z c xs} kk h => kk _ _ (fun e => by rw [e, eo2] at h; cases h) (fun e => by rw [e, eg2] at h; cases h) h
      have BZ : ∀ {Z : Hp}, Bt o g H2 Z → SqT K Z b (us.map V.str) := fun kk => by
        have : ∀ c u, H c = some u → _ = some u := fun c u e => kk c u (ne_of_none e no) (ne_of_none e ngH) (sm2 c u e)
        exact Same.sqT this hB
      refine ⟨.ref sp, rfl, sp, rfl, ⟨_, sqL_new esp2⟩, ?_⟩
      refine for_it (walk_list (K := K) (a := sp) (xs := pcV S)) (fun i σ Z => ∃ (y6 y7 y8 y9 : Option V) (fs' : List Ka.Row) (T : List Pc), σ = [some (.ref d), some (.ref b), some (.ref o), some (.ref sp), some (.int (0 + (t : Int))), some (.ref g), y6, y7, y8, y9] ∧ Bt o g H2 Z ∧ Z o = some (.lst (adV fs')) ∧ Rows Z fs' ∧ Z g = some (.lst (pcV T)) ∧ PcOk Z o g T ∧
          (∀ r ∈ fs', LineM M us r.2) ∧ (∀ e ∈ T, Pt M us (t + 1) e) ∧ (∀ r, LineM M us r → r ∈ fs'.map (·.2) ∨ Gives M us T r ∨ Gives M us (S.drop i) r) ∧ T.length ≤ 3 * i ∧ fs'.length ≤ 400 * t + i)
        ⟨x6, x7, x8, x9, fs, [], rfl, (fun _ _ _ _ e => e), eo2, hRf2, eg2, (fun e he => nomatch he), hfl, (fun e he => nomatch he), fun r hr => (hall r hr).imp id fun z => .inr z, Nat.le_refl _, hfs⟩ (fun i σ Z _ ⟨_, _, _, _, _, _, _, kk, _⟩ => sqL_new (kk _ _ hso hsg esp2)) (fun i x σ Z Z' hi h y => ?_) (fun σ Z h => ?_)
      · obtain ⟨rfl, hy⟩ := y
        obtain ⟨y6, y7, y8, y9, fs', T, rfl, kk, eoZ, hRZ, egZ, hTZ, hflZ, hptZ, hallZ, hT3, hfsZ⟩ := h
        obtain ⟨e, he, rfl⟩ := get_map hy
        have hem := List.mem_of_getElem? he
        have hil := lt_of_get he
        obtain ⟨q1, q2, q3, q4⟩ := hpc e hem
        have ee := kk _ _ q1 (hpc2 e hem) (hpc3 e hem).1
        have el := tupZ kk (hpc3 e hem).2
        obtain ⟨p1, p2, p3⟩ := hpt e hem
        have hdrop := drop_of_get he
        rw [pcV_len] at hi
        refine ⟨e.1, _, rfl, sqL_new ee, rfl, _, _, rfl, _, _, rfl, rfl, ?_⟩
        refine ⟨.int (e.2.2.2 : Nat), rfl, .ref b, rfl, b, _, rfl, .inr (BZ kk), rfl, _, rfl, ite2 (fun c => ?_) (fun c => ?_)⟩
        · have c := V.int.inj (of_decide_eq_true c)
          rw [lenU] at c
          have c : e.2.2.2 = us.length := by omega
          refine ⟨.ref o, rfl, .inl ⟨rfl, _, sqL_new eoZ⟩, .ref e.2.1, rfl, o, _, _, rfl, rfl, eoZ, by rw [adV_len]; exact small (by omega), ?_⟩
          have keepO : ∀ {c u v}, c ≠ o → Z' c = some u → upd Z' o v c = some u := fun {c u v} hc h => by rw [upd_ne hc]; exact h
          have tupO : ∀ {c xs v}, Z' c = some (.tup xs) → upd Z' o v c = some (.tup xs) := fun {c xs v} h => keepO (fun z => by rw [z, eoZ] at h; cases h) h
          refine ⟨_, _, _, _, fs' ++ [(e.2.1, e.2.2.1)], T, rfl, fun c u h1 h2 h3 => keepO h1 (kk c u h1 h2 h3), ?_, fun r hr => ?_, keepO (Ne.symm hog) egZ, fun e' he' => ?_, fun r hr => ?_, hptZ, fun r hr => ?_, by omega, by rw [List.length_append, List.length_singleton]; omega⟩
          · rw [upd_same]
            unfold adV
            rw [List.map_append]
            rfl
          · rcases List.mem_append.mp hr with z | z
            · exact tupO (hRZ r z)
            · rw [List.mem_singleton.mp z]
              exact tupO el
          · obtain ⟨r1, r2, r3, r4⟩ := hTZ e' he'
            exact ⟨r1, r2, keepO r1 r3, tupO r4⟩
          · rcases List.mem_append.mp hr with z | z
            · exact hflZ r z
            · rw [List.mem_singleton.mp z]
              have := p3 [] (by
                rw [c, List.drop_length]
                exact rfl)
              rwa [List.append_nil] at this
          · rw [List.map_append]
            rcases hallZ r hr with z | z | ⟨e', he', r', h1, h2⟩
            · exact .inl (List.mem_append_left _ z)
            · exact .inr (.inl z)
            · rw [hdrop] at he'
              rcases List.mem_cons.mp he' with z | z
              · rw [z] at h1 h2
                rw [c, List.drop_length] at h2
                have hl := line_len h2
                have : r' = [] := List.eq_nil_of_length_eq_zero (Nat.le_zero.mp hl)
                rw [this, List.append_nil] at h1
                exact .inl (List.mem_append_right _ (List.mem_singleton.mpr h1))
              · exact .inr (.inr ⟨e', z, r', h1, h2⟩)
        · have c : e.2.2.2 ≠ us.length := fun z => c (decide_eq_true (by rw [lenU, z]))
          have hdZ := kk _ _ hdo hdg (sm2 _ _ hd)
          refine ⟨d, _, hdZ, True.intro, fun od => ?_⟩
          generalize hL0 : upd Z' d (.frz od (.dK (kvM M))) = L
          have kL : But d Z' L := by rw [← hL0]; exact But.upd
          have fL : L d = some (.frz od (.dK (kvM M))) := by rw [← hL0]; exact upd_same
          have egL := kL _ _ (Ne.symm hdg) egZ
          have tupL : ∀ {c : Addr} {xs : List V}, Z' c = some (.tup xs) → L c = some (.tup xs) := fun {c xs} h => kL _ _ (fun e => by rw [e, hdZ] at h; cases h) h
          have lstL : ∀ {c : Addr} {xs : List V}, Z' c = some (.lst xs) → L c = some (.lst xs) := fun {c xs} h => kL _ _ (fun e => by rw [e, hdZ] at h; cases h) h
          have tupG : ∀ {G : Hp} {c : Addr} {xs : List V}, But g L G → L c = some (.tup xs) → G c = some (.tup xs) := fun {G c xs} kk h => kk _ _ (fun e => by rw [e, egL] at h; cases h) h
          have BG : ∀ {G : Hp}, But g L G → SqT K G b (us.map V.str) := fun kg => by
            have : ∀ c u, H c = some u → c ≠ d → _ = some u := fun c u e hc => kg c u (ne_of_none e ngH) (kL c u hc (kk c u (ne_of_none e no) (ne_of_none e ngH) (sm2 c u e)))
            rcases hB with (h | ⟨ob, h⟩) | h
            · exact .inl (.inl (this _ _ h (fun e => by rw [e, hd] at h; cases h)))
            · exact .inl (.inr ⟨ob, this _ _ h (fun e => by rw [e, hd] at h; cases h)⟩)
            · exact .inr h
          refine ⟨.ref d, rfl, d, od, rfl, .inl ⟨kvM M, fL, ?_⟩⟩
          refine for_it (walk_keys (d := d) (o := od) (kvs := kvM M)) (fun j σ G => ∃ (z8 z9 : Option V) (T' : List Pc), σ = [some (.ref d), some (.ref b), some (.ref o), some (.ref sp), some (.int (0 + (t : Int))), some (.ref g), some (.ref e.2.1), some (.int (e.2.2.2 : Nat)), z8, z9] ∧ But g L G ∧ G g = some (.lst (pcV T')) ∧ PcOk G o g T' ∧ (∀ e' ∈ T', Pt M us (t + 1) e') ∧ (∀ e' ∈ T, ∃ e'' ∈ T', e''.2.2 = e'.2.2) ∧
              (∀ t2 ∈ M.take j, 0 < Kf.beg (us.drop e.2.2.2) (Kf.look (pm M) t2.1) → ∃ e' ∈ T', e'.2.2.1 = e.2.2.1 ++ [t2.1] ∧ e'.2.2.2 = e.2.2.2 + Kf.beg (us.drop e.2.2.2) (Kf.look (pm M) t2.1)) ∧ T'.length ≤ T.length + j)
            ⟨y8, y9, T, rfl, But.refl, egL, fun e' he' => ?_, hptZ, fun e' he' => ⟨e', he', rfl⟩, (fun t2 ht2 => nomatch ht2), Nat.le_refl _⟩ (fun j σ G _ ⟨_, _, _, _, kg, _⟩ => kg _ _ hdg fL) (fun j x σ G G' hj h y => ?_) (fun σ G h => ?_)
          · obtain ⟨r1, r2, r3, r4⟩ := hTZ e' he'
            exact ⟨r1, r2, lstL r3, tupL r4⟩
          · obtain ⟨rfl, ky, va, hkv, rfl⟩ := y
            obtain ⟨z8, z9, T', rfl, kg, egG, hTG, hptG, hsub, hnew, hTl⟩ := h
            obtain ⟨t2, ht2, ekv⟩ := get_map hkv
            cases ekv
            have htM := List.mem_of_getElem? ht2
            have hjm := lt_of_get ht2
            have elk : Kf.look (pm M) t2.1 = t2.2.2 := look_M ft.nd htM
            have eM : G' t2.2.1 = some (.tup (t2.2.2.map V.str)) := tupG kg (tupL (tupZ kk (sm2 _ _ (hM t2 htM))))
            refine ⟨.ref b, rfl, .int (e.2.2.2 : Nat), rfl, .ref d, rfl, .str t2.1, rfl, d, _, rfl, get_M (.inr ⟨od, kg _ _ hdg fL⟩) ft.nd htM, b, t2.2.1, us, t2.2.2, e.2.2.2, rfl, BG kg, sqT_new eM, ?_⟩
            rw [← elk]
            refine ⟨_, rfl, .int (e.2.2.2 : Nat), rfl, _, _, rfl, rfl, _, rfl, ite2 (fun c2 => ?_) (fun c2 => ?_)⟩
            · have c2 := of_decide_eq_true c2
              have c2 : 0 < Kf.beg (us.drop e.2.2.2) (Kf.look (pm M) t2.1) := by omega
              have elG : G' e.2.1 = some (.tup (e.2.2.1.map V.str)) := tupG kg (tupL el)
              refine ⟨.ref g, rfl, .inl ⟨rfl, _, sqL_new egG⟩, .ref e.2.1, rfl, .str t2.1, rfl, smallE (show 1 ≤ 1000000 by decide), fun t1 nt1 => ?_⟩
              have s5 := same_new (o := .tup [V.str t2.1]) nt1
              have et1 : upd G' t1 (.tup [V.str t2.1]) t1 = some (.tup [V.str t2.1]) := upd_same
              generalize upd G' t1 (.tup [V.str t2.1]) = G5 at s5 et1
              refine catX (s5 _ _ elG) et1 (by rw [List.length_map]; show _ + 1 ≤ 100000; omega) fun G6 p6 s6 e6 => ?_
              refine ⟨_, rfl, smallE (show 2 ≤ 1000000 by decide), fun n7 nn7 => ?_⟩
              have s56 := (s5.trans s6).trans (same_new (o := .lst [V.ref p6, .int ((e.2.2.2 + Kf.beg (us.drop e.2.2.2) (Kf.look (pm M) t2.1) : Nat) : Int)]) nn7)
              have e67 := same_new (o := .lst [V.ref p6, .int ((e.2.2.2 + Kf.beg (us.drop e.2.2.2) (Kf.look (pm M) t2.1) : Nat) : Int)]) nn7 _ _ e6
              have e77 : upd G6 n7 (.lst [V.ref p6, .int ((e.2.2.2 + Kf.beg (us.drop e.2.2.2) (Kf.look (pm M) t2.1) : Nat) : Int)]) n7 = some (.lst [V.ref p6, .int ((e.2.2.2 + Kf.beg (us.drop e.2.2.2) (Kf.look (pm M) t2.1) : Nat) : Int)]) := upd_same
              have eoG : G' o = some (.lst (adV fs')) := kg _ _ hog (kL _ _ (Ne.symm hdo) eoZ)
              have h7o : n7 ≠ o := Ne.symm (ne_of_none (s6 _ _ (s5 _ _ eoG)) nn7)
              have h7g : n7 ≠ g := Ne.symm (ne_of_none (s6 _ _ (s5 _ _ egG)) nn7)
              generalize upd G6 n7 _ = G7 at s56 e67 e77
              have eg7 := s56 _ _ egG
              have kO : ∀ {c u v}, c ≠ g → G7 c = some u → upd G7 g v c = some u := fun {c u v} hc h => by rw [upd_ne hc]; exact h
              have tO : ∀ {c xs v}, G7 c = some (.tup xs) → upd G7 g v c = some (.tup xs) := fun {c xs v} h => kO (fun z => by rw [z, eg7] at h; cases h) h
              have hbeg := Kf.beg_le (us.drop e.2.2.2) (Kf.look (pm M) t2.1)
              rw [List.length_drop] at hbeg
              refine ⟨g, _, _, rfl, rfl, eg7, by rw [pcV_len]; exact small (by omega), ?_⟩
              refine ⟨_, _, T' ++ [(n7, p6, e.2.2.1 ++ [t2.1], e.2.2.2 + Kf.beg (us.drop e.2.2.2) (Kf.look (pm M) t2.1))], rfl, fun c u hc h => kO hc (s56 _ _ (kg c u hc h)), ?_, fun e' he' => ?_, fun e' he' => ?_, fun e' he' => ?_, fun t3 ht3 hb3 => ?_, by rw [List.length_append, List.length_singleton]; omega⟩
              · rw [upd_same]
                unfold pcV
                rw [List.map_append]
                rfl
              · rcases List.mem_append.mp he' with z | z
                · obtain ⟨r1, r2, r3, r4⟩ := hTG e' z
                  exact ⟨r1, r2, kO r2 (s56 _ _ r3), tO (s56 _ _ r4)⟩
                · rw [List.mem_singleton.mp z]
                  refine ⟨h7o, h7g, kO h7g e77, tO ?_⟩
                  rw [e67, List.map_append]
                  rfl
              · rcases List.mem_append.mp he' with z | z
                · exact hptG e' z
                · rw [List.mem_singleton.mp z]
                  refine ⟨by show e.2.2.2 + _ ≤ _; omega, ?_, fun r hr => ?_⟩
                  · show (e.2.2.1 ++ [t2.1]).length = t + 1
                    rw [List.length_append, p2]
                    rfl
                  · show LineM M us (e.2.2.1 ++ [t2.1] ++ r)
                    rw [List.append_assoc]
                    refine p3 _ ⟨List.mem_map.mpr ⟨t2, htM, rfl⟩, c2, ?_⟩
                    unfold Kf.rest
                    rw [List.drop_drop]
                    exact hr
              · obtain ⟨e'', h1, h2⟩ := hsub e' he'
                exact ⟨e'', List.mem_append_left _ h1, h2⟩
              · rw [take_of_get ht2] at ht3
                rcases List.mem_append.mp ht3 with z | z
                · obtain ⟨e', h1, h2⟩ := hnew t3 z hb3
                  exact ⟨e', List.mem_append_left _ h1, h2⟩
                · rw [List.mem_singleton.mp z]
                  exact ⟨_, List.mem_append_right _ (List.mem_singleton.mpr rfl), rfl, rfl⟩
            · have c2 : ¬ 0 < Kf.beg (us.drop e.2.2.2) (Kf.look (pm M) t2.1) := fun z => c2 (decide_eq_true (by omega))
              refine ⟨_, _, T', rfl, kg, egG, hTG, hptG, hsub, fun t3 ht3 hb3 => ?_, by omega⟩
              rw [take_of_get ht2] at ht3
              rcases List.mem_append.mp ht3 with z | z
              · exact hnew t3 z hb3
              · rw [List.mem_singleton.mp z] at hb3
                exact absurd hb3 c2
          · obtain ⟨z8, z9, T', rfl, kg, egG, hTG, hptG, hsub, hnew, hTl⟩ := h
            rw [kvM_len] at hnew hTl
            rw [List.take_length] at hnew
            have fG := kg _ _ hdg fL
            refine ⟨fG, ?_⟩
            have upU : ∀ c u, c ≠ g → Z' c = some u → upd G d (.dK (kvM M)) c = some u := fun c u hc e => by
              by_cases z : c = d
              · rw [z, upd_same, ← hdZ, ← z]
                exact e
              · rw [upd_ne z]
                exact kg c u hc (kL c u z e)
            refine ⟨_, _, _, _, fs', T', rfl, fun c u h1 h2 h3 => upU c u h2 (kk c u h1 h2 h3), upU _ _ hog eoZ, fun r hr => ?_, by rw [upd_ne (Ne.symm hdg)]; exact egG, fun e' he' => ?_, hflZ, hptG, fun r hr => ?_, by omega, by omega⟩
            · have h := hRZ r hr
              exact upU _ _ (fun z => by rw [z, egZ] at h; cases h) h
            · obtain ⟨r1, r2, r3, r4⟩ := hTG e' he'
              refine ⟨r1, r2, ?_, ?_⟩
              · rw [upd_ne (fun z => by rw [z, fG] at r3; cases r3)]
                exact r3
              · rw [upd_ne (fun z => by rw [z, fG] at r4; cases r4)]
                exact r4
            · rcases hallZ r hr with z | ⟨e', he', r', h1, h2⟩ | ⟨e', he', r', h1, h2⟩
              · exact .inl z
              · obtain ⟨e'', g1, g2⟩ := hsub e' he'
                exact .inr (.inl ⟨e'', g1, r', by rw [g2]; exact h1, by rw [g2]; exact h2⟩)
              · rw [hdrop] at he'
                rcases List.mem_cons.mp he' with z | z
                · rw [z] at h1 h2
                  cases r' with
                  | nil =>
                    have h2 : us.drop e.2.2.2 = [] := h2
                    have := congrArg List.length h2
                    rw [List.length_drop, List.length_nil] at this
                    omega
                  | cons x r'' =>
                    obtain ⟨l1, l2, l3⟩ := h2
                    obtain ⟨t3, ht3, rfl⟩ := name_M l1
                    obtain ⟨e'', g1, g2, g3⟩ := hnew t3 ht3 l2
                    refine .inr (.inl ⟨e'', g1, r'', by rw [g2, List.append_assoc]; exact h1, ?_⟩)
                    unfold Kf.rest at l3
                    rw [List.drop_drop] at l3
                    rw [g3]
                    exact l3
                · exact .inr (.inr ⟨e', z, r', h1, h2⟩)
      · obtain ⟨y6, y7, y8, y9, fs', T, rfl, kk, eoZ, hRZ, egZ, hTZ, hflZ, hptZ, hallZ, hT3, hfsZ⟩ := h
        rw [pcV_len] at hT3 hfsZ hallZ
        rw [List.drop_length] at hallZ
        have hT400 : T.length ≤ 400 := by omega
        refine ⟨.ref g, rfl, _, rfl, g, _, rfl, sqL_new egZ, fun sp' nsp' => ?_⟩
        have ecut : cutV (pcV T) none (some 400) = pcV T := by
          unfold cutV
          rw [HT.sIx_none, List.drop_zero, Nat.sub_zero]
          have e4 : HT.sIx (pcV T).length (pcV T).length (some ((400 : Nat) : Int)) = min 400 (pcV T).length := HT.sIx_nat ..
          refine List.take_of_length_le ?_
          have : HT.sIx (pcV T).length (pcV T).length (some 400) = min 400 (pcV T).length := e4
          rw [this, pcV_len]
          omega
        rw [ecut]
        have s9 := same_new (o := .lst (pcV T)) nsp'
        refine ⟨sp', _, _, _, _, _, _, fs', T, rfl, fun c u hc e => ?_, Ne.symm (ne_of_none eoZ nsp'), s9 _ _ eoZ, hRZ.mono s9, upd_same, fun e he => ?_, hflZ, hptZ, fun r hr => ?_, ?_, by omega⟩
        · have e' := k c u hc e
          exact s9 _ _ (kk c u hc (ne_of_none e' ng) (s2 _ _ e'))
        · obtain ⟨r1, r2, r3, r4⟩ := hTZ e he
          exact ⟨r1, r1, s9 _ _ r3, s9 _ _ r4⟩
        · rcases hallZ r hr with z | z | ⟨e', he', _⟩
          · exact .inl z
          · exact .inr z
          · cases he'
        · rw [Nat.pow_succ]
          omega
    · obtain ⟨sp, x4, x5, x6, x7, x8, x9, fs, S, rfl, k, hso, eo, hRf, esp, hpc, hfl, hpt, hall, hS3, hfs⟩ := hPv
      refine ⟨.ref o, rfl, q H' o fs (up k) eo hRf hfl (fun r hr => ?_) (by omega)⟩
      rcases hall r hr with z | ⟨e, he, r', h1, h2⟩
      · exact z
      · have hl := line_len hr
        have := congrArg List.length h1
        rw [List.length_append, (hpt e he).2.1] at this
        omega
end
end Kb
/-! sorted(l), l a list of pairs (len(row), row). -/
namespace Ka
open PySem PySem.Spec PyProof.Rows L2 PySem.W
abbrev PRow := Addr × Addr × List Str
def leRowK (r q : PRow) : Bool := rowLe r.2.2 q.2.2
def rSortedK (K : PySem.W.Frag) : List V → Hp → VK → Prop := fun vs H Q => ∃ (a : Addr) (rs : List PRow), vs = [V.ref a] ∧ SqL K H a (rs.map fun r => V.ref r.1) ∧ (∀ r ∈ rs, SqT K H r.1 [.int (r.2.2.length : Nat), .ref r.2.1] ∧ SqT K H r.2.1 (r.2.2.map V.str)) ∧
  ∀ p, H p = none → Q (.ref p) (upd H p (.lst ((rs.mergeSort leRowK).map fun r => V.ref r.1)))
theorem prows_each : ∀ {rs : List PRow} {us : List Value}, Vals (rs.map fun r => V.ref r.1) us → EachIs (fun v (b : PRow) => v = Value.ref b.1) us rs
  | [], _, r => by
    cases r
    exact .nil
  | x :: rs, _, r => by
    rw [List.map_cons] at r
    cases r with
    | cons a b => exact .cons a (prows_each b)
theorem each_prows : ∀ {rs : List PRow} {us : List Value}, EachIs (fun v (b : PRow) => v = Value.ref b.1) us rs → Vals (rs.map fun r => V.ref r.1) us
  | _, _, .nil => .nil
  | _, _, .cons h t => by
    subst h
    exact .cons rfl (each_prows t)
theorem cr_sortedK {X : Cx} (hu : X.A.units + 64 < cLine) : CallR X (.builtin "sorted") (rSortedK X.K) := by
  intro pins s σ H vs us Q I r h
  obtain ⟨a, rs, rfl, hs, hr, q⟩ := h
  obtain ⟨its, rv, hl, hz⟩ := I.list hs
  rw [Vals.ref1 r]
  rw [List.length_map] at hz
  have e := prows_each rv
  have er : EachIs (fun v (b : PRow) => ∃ as, Reads s.heap v (keyOf b.2.2) as) its rs := by
    refine (each_mem e).mono fun v b ⟨ev, hm⟩ => ?_
    subst ev
    obtain ⟨its', rv', ht, _⟩ := I.tuple (hr b hm).1
    obtain ⟨o, ho, hc, n, hd⟩ := ht
    obtain ⟨its2, rv2, ht2, _⟩ := I.tuple (hr b hm).2
    obtain ⟨o2, ho2, hc2, n2, hd2⟩ := ht2
    cases rv' with
    | cons a1 b1 =>
      cases b1 with
      | cons a2 b2 =>
        cases b2
        obtain ⟨t, rfl⟩ := a1
        cases a2
        exact ⟨_, Reads.tuple ho hc hd (ReadsAll.cons (as := []) (bs := []) (.int _ t) (ReadsAll.cons (as := []) (bs := []) (Reads.tuple ho2 hc2 hd2 (reads_strs rv2)) .nil))⟩
  refine sorted_data (enc := fun r : PRow => keyOf r.2.2) hl.isList e er (fun d hd d' hd' => ?_) (.inl fun d hd => ?_) hz (fun b _ => ?_) fun out hol eo => ?_
  · obtain ⟨r, _, rfl⟩ := List.mem_map.mp hd
    obtain ⟨q, _, rfl⟩ := List.mem_map.mp hd'
    exact alike_keys _ _
  · obtain ⟨r, hm, rfl⟩ := List.mem_map.mp hd
    exact ⟨_, _, rfl⟩
  · have := depth_key b.2.2
    omega
  · obtain ⟨ep, he'⟩ := PyProof.Rows.sortedAll_at s.heap its out.toArray
    have hle : ((rs.mergeSort leRowK).map fun r => V.ref r.1).length ≤ sizeLine := by
      rw [List.length_map, List.length_mergeSort]
      exact hz
    exact ⟨.ref _, upd H (s.heap.objs.size + 1) (.lst ((rs.mergeSort leRowK).map fun r => V.ref r.1)), I.laid (t' := s.toks) (fun _ _ => PyProof.Rows.sortedAll_old) (Nat.le_succ _) ⟨hle, out, ep, each_prows eo, he'⟩, rfl, q _ (I.hok.fresh (Nat.le_succ _))⟩
end Ka
namespace Kb
open PySem PySem.Spec PyProof.Rows L2
theorem dpAdV {K : PySem.W.Frag} {H : Hp} : ∀ {rs : List Ka.Row}, Rows H rs → DpAll K H (adV rs) ((rs.map (·.2)).map Ka.rowD)
  | [], _ => .nil
  | r :: rs, h => .cons (.tup (sqT_new (h r List.mem_cons_self)) (dpRs _)) (dpAdV fun g hg => h g (List.mem_cons_of_mem _ hg))
section
variable {P : Program} {w : World} {K : PySem.W.Frag} {mg : Str → Option Value} {base : Heap}
abbrev nLo : List Str := ["rows", "row", "keyed", "found", "size"]
theorem scLawOrd : FnScope nLo ["rows"] (defScope sLawOrd) := ⟨rfl, rfl, rfl, by decide +kernel, rfl, by decide +kernel, by decide +kernel⟩
/-- of rows in order, without duplicates -/
def spLawOrd (K : PySem.W.Frag) : Sp := fun vs H Q _ => ∃ (a : Addr) (rs : List Ka.Row), vs = [.ref a] ∧ SqT K H a (adV rs) ∧ Rows H rs ∧ rs.length ≤ 1000 ∧ (rs.map (·.2)).Pairwise (fun a b => Ka.rowLe a b = true) ∧ (rs.map (·.2)).Nodup ∧ (∀ r ∈ rs, ∀ z ∈ r.2, isName z = true) ∧
  ∀ (H' : Hp) (p : Addr), Same H H' → H' p = some (.tup (adV rs)) → Q (.ref p) H'
theorem ok_lawOrd {f : Addr} {fd : FuncData} (F : Fun K "_law_order" "_law_order" sLawOrd f fd) (N : Nones mg) : FnOk P w K mg base CX0 1 f fd ["rows"] (spLawOrd K) := by
  refine F.ok scLawOrd (fun vs H Q E h => ?_) (fun cdv A outer s H vs Q E hr h => ?_)
  · obtain ⟨a, rs, rfl, _⟩ := h
    rfl
  · obtain ⟨a, rs, rfl, hA, hR, hz, hso, hnd, hnm, q⟩ := h
    have hu65 : (A.deeper (envOfC "_law_order" (defScope sLawOrd) s.heap.objs.size f cdv)).units + 65 < cLine := by
      have := hr.un
      omega
    refine ⟨_, pss_cons (ps_set (i := 2) scLawOrd.nd rfl (.inl rfl) (pe_callB (Ka.cr_sortedK hr.units) (by rfl) N.sorted (by decide +kernel) (pa_cons
        (pe_lc (own := [("row", 1)]) (g := gName 1) (tt := tYes) rfl scLawOrd.nd (pi_tup (pv 0)) (blkOk_by (own := [("row", 1)]) (N := nLo) (sc := defScope sLawOrd) (by decide +kernel)) (fun _ _ _ _ _ => pg_name (i := 1) scLawOrd.nd rfl (Or.inl rfl)) (fun _ _ _ _ _ => pts_nil)
          (fun _ _ _ _ _ => pe_tup (pa_cons (pe_callB (len_at (K := K) rfl) (by rfl) N.len PySem.boot_len (pa_cons (pv 1) pa_nil)) (pa_cons (pv 1) pa_nil)))) pa_nil)))
      (pss_cons (ps_set (i := 3) scLawOrd.nd rfl (.inl rfl) (pe_lst pa_nil))
      (pss_cons (ps_for PassesOwn.never rfl (pi_list (pv 2)) (pg_tup rfl (pgs_cons (pg_name (i := 4) scLawOrd.nd rfl (.inl rfl)) (pgs_cons (pg_name (i := 1) scLawOrd.nd rfl (.inl rfl)) pgs_nil)))
        (pss_one (ps_if (pt_cmpR (op_notInD hu65) (pv 1) (pv 3) (by rfl)) (pss_one (ps_expr (pe_bm PySem.F.plainAttrs_list PySem.F.slot_list_append PySem.F.type_list_append mt_append (pv 3) (pa_cons (pv 1) pa_nil)))) pss_nil)))
      (pss_one (ps_ret (pe_callTy call_tuple_of (by rfl) N.tuple (by decide +kernel) (pa_cons (pv 3) pa_nil)))))), ?_⟩
    refine ⟨.ref a, rfl, a, rfl, ⟨_, hA⟩, fun D nD => ?_⟩
    refine lc_it (walk_tup (K := K) (a := a) (xs := adV rs)) (fun i G => Same H G ∧ ∃ ps : List Ka.PRow, ps.map (·.2) = rs.take i ∧ G D = some (.lst (ps.map fun r => V.ref r.1)) ∧ ∀ r ∈ ps, G r.1 = some (.tup [.int (r.2.2.length : Nat), .ref r.2.1]))
      ⟨same_new nD, [], rfl, upd_same, fun r hr => nomatch hr⟩ (fun i G _ h => Same.sqT h.1 hA) (fun i x G G' hi h y => ?_) (fun G h => ?_)
    · obtain ⟨rfl, hy⟩ := y
      obtain ⟨r, hr', rfl⟩ := get_map hy
      have hrm := List.mem_of_getElem? hr'
      obtain ⟨sG, ps, hps, eD, hpp⟩ := h
      have hlp : ps.length ≤ 1000 := by
        have := congrArg List.length hps
        rw [List.length_map, List.length_take] at this
        omega
      refine ⟨rfl, .ref r.1, rfl, r.1, _, rfl, .inr (sqT_new (sG _ _ (hR r hrm))), .ref r.1, rfl, smallE (show 2 ≤ 1000000 by decide), fun t1 nt1 => ?_⟩
      have eD' := same_new (o := .tup [V.int (((r.2.map V.str).length : Nat) : Int), .ref r.1]) nt1 _ _ eD
      have hD1 : t1 ≠ D := fun e => by rw [e, eD] at nt1; cases nt1
      refine ⟨_, eD', ?_, fun c u e => ?_, ps ++ [(t1, r)], ?_, ?_, fun p hp => ?_⟩
      · rw [List.length_map]
        exact small (by omega)
      · rw [upd_ne (ne_of_none e nD)]
        exact same_new nt1 _ _ (sG c u e)
      · rw [List.map_append, hps, take_of_get hr']
        rfl
      · rw [upd_same, List.map_append]
        rfl
      · rcases List.mem_append.mp hp with z | z
        · have q1 := same_new (o := .tup [V.int (((r.2.map V.str).length : Nat) : Int), .ref r.1]) nt1 _ _ (hpp p z)
          rw [upd_ne (fun e => by rw [e, eD'] at q1; cases q1)]
          exact q1
        · rw [List.mem_singleton.mp z, upd_ne hD1, upd_same, List.length_map]
    · obtain ⟨sG, ps, hps, eD, hpp⟩ := h
      rw [adV_len, List.take_length] at hps
      have hpR : ∀ r ∈ ps, r.2 ∈ rs := fun r hr => by rw [← hps]; exact List.mem_map.mpr ⟨r, hr, rfl⟩
      have hsort : ps.mergeSort Ka.leRowK = ps := by
        refine List.mergeSort_of_pairwise ?_
        have : (ps.map (·.2.2)).Pairwise (fun a b => Ka.rowLe a b = true) := by
          have e : ps.map (·.2.2) = rs.map (·.2) := by rw [← hps, List.map_map]; rfl
          rw [e]
          exact hso
        rw [List.pairwise_map] at this
        exact this
      refine ⟨D, ps, rfl, sqL_new eD, fun r hr => ⟨sqT_new (hpp r hr), sqT_new (sG _ _ (hR _ (hpR r hr)))⟩, fun p np => ?_⟩
      rw [hsort]
      have s1 := sG.trans (same_new (o := .lst (ps.map fun r => V.ref r.1)) np)
      have hpp1 : ∀ r ∈ ps, upd G p (.lst (ps.map fun r => V.ref r.1)) r.1 = some (.tup [.int (r.2.2.length : Nat), .ref r.2.1]) := fun r hr => same_new np _ _ (hpp r hr)
      have ep : upd G p (.lst (ps.map fun r => V.ref r.1)) p = some (.lst (ps.map fun r => V.ref r.1)) := upd_same
      generalize upd G p (.lst (ps.map fun r => V.ref r.1)) = G1 at s1 hpp1 ep
      refine ⟨Nat.zero_le _, fun o no => ?_⟩
      have s2 := same_new (o := .lst []) no
      have ep2 := s2 _ _ ep
      have hpo : p ≠ o := ne_of_none ep no
      have noH := s1.free no
      refine ⟨.ref p, rfl, p, rfl, ⟨_, sqL_new ep2⟩, ?_⟩
      refine for_it (walk_list (K := K) (a := p) (xs := ps.map fun r => V.ref r.1)) (fun i σ Z => ∃ (y1 y4 : Option V), σ = [some (.ref a), y1, some (.ref p), some (.ref o), y4] ∧ But o G1 Z ∧ Z o = some (.lst (adV (rs.take i))))
        ⟨none, none, rfl, But.of (same_new no), upd_same⟩ (fun i σ Z _ ⟨_, _, _, k, _⟩ => sqL_new (k _ _ hpo ep)) (fun i x σ Z Z' hi h y => ?_) (fun σ Z h => ?_)
      · obtain ⟨rfl, hy⟩ := y
        obtain ⟨y1, y4, rfl, k, eo⟩ := h
        obtain ⟨r, hr', rfl⟩ := get_map hy
        have hrm := List.mem_of_getElem? hr'
        have er := hpp1 r hrm
        have er' := k _ _ (ne_of_none er no) er
        have hps' : rs[i]? = some r.2 := by
          rw [← hps, List.getElem?_map, hr']
          rfl
        have hrR := hpR r hrm
        have sZ : ∀ c u, H c = some u → Z' c = some u := fun c u e => k c u (ne_of_none e noH) (s1 _ _ e)
        have hRZ : Rows Z' (rs.take i) := fun g hg => sZ _ _ (hR g (List.mem_of_mem_take hg))
        refine ⟨r.1, _, rfl, sqT_new er', rfl, _, _, rfl, _, _, rfl, rfl, ?_⟩
        refine ⟨.ref r.2.1, rfl, .ref o, rfl, Ka.rowD r.2.2, ((rs.take i).map (·.2)).map Ka.rowD, .tup (sqT_new (sZ _ _ (hR _ hrR))) (dpRs _), .lst (sqL_new eo) (dpAdV hRZ), shR (hnm _ hrR), (shRows fun g hg => ?_).1, ?_⟩
        · obtain ⟨g', hg', rfl⟩ := List.mem_map.mp hg
          exact hnm g' (List.mem_of_mem_take hg')
        have hany : (((rs.take i).map (·.2)).map Ka.rowD).any (fun z => PyData.eqv z (Ka.rowD r.2.2)) = false := by
          rw [List.any_eq_false]
          intro z hz'
          obtain ⟨g, hg, rfl⟩ := List.mem_map.mp hz'
          rw [eqR, decide_eq_true_iff]
          intro e
          have hn := not_before hnd (i := i) (x := r.2.2) (by rw [List.getElem?_map, hps']; rfl)
          rw [← List.map_take] at hn
          exact hn (e ▸ hg)
        rw [hany]
        refine ⟨_, rfl, iteT ?_⟩
        refine ⟨.ref o, rfl, .inl ⟨rfl, _, sqL_new eo⟩, .ref r.2.1, rfl, o, _, _, rfl, rfl, eo, ?_, ?_⟩
        · rw [adV_len, List.length_take]
          exact small (by omega)
        · refine ⟨_, _, rfl, fun c u hc e => by rw [upd_ne hc]; exact k c u hc e, ?_⟩
          rw [upd_same, take_of_get hps']
          unfold adV
          rw [List.map_append]
          rfl
      · obtain ⟨y1, y4, rfl, k, eo⟩ := h
        have el : (ps.map fun r => V.ref r.1).length = rs.length := by rw [List.length_map, ← hps, List.length_map]
        rw [el, List.take_length] at eo
        refine ⟨.ref o, rfl, o, _, rfl, .inl ⟨sqL_new eo, fun t nt => ?_⟩⟩
        refine q _ t (fun c u e => ?_) upd_same
        exact same_new nt _ _ (k _ _ (ne_of_none e noH) (s1 _ _ e))
end
end Kb
namespace Kb
open PySem PySem.Spec PyProof.Rows L2
abbrev nSo : List Str := ["making", "row", "some", "found", "turn", "line", "rest", "later", "deed"]
/-- a line begun: its list, its row, what is left -/
abbrev Ps := Addr × Addr × Addr × List Str × List Str
def psV (S : List Ps) : List V := S.map fun e => V.ref e.1
theorem psV_len (S : List Ps) : (psV S).length = S.length := List.length_map _
theorem eqD_at {X : Cx} {K : PySem.W.Frag} (h : X.K = K) (hu : X.A.units + 64 < cLine) : OpR X (compareOp .Eq) (rEqD K) := by
  subst h
  exact op_eqD hu
theorem unl_at {X : Cx} {K : PySem.W.Frag} {es : List Expr} {k : Nat} {pos : Pos} {t : TGs} {n : Nat} (h : X.K = K) (hc : X.calm = true) (hg : PGs X es t) (hst : List.findIdx? (fun x => x.fst) (assignEach es X.env) = none := by rfl) (hn : (assignEach es X.env).length = n := by rfl) : PG X (.Tuple es k pos) (gUnl K n t) := by
  subst h
  subst hn
  exact pg_unl hc hg rfl hst
def PsOk (H : Hp) (g : Addr) (S : List Ps) : Prop := ∀ e ∈ S, e.1 ≠ g ∧ H e.1 = some (.lst [.ref e.2.1, .ref e.2.2.1]) ∧ H e.2.1 = some (.tup (e.2.2.2.1.map V.str)) ∧ H e.2.2.1 = some (.tup (e.2.2.2.2.map V.str))
def PtS (M : MK) (us : List Str) (n : Nat) (e : Ps) : Prop := e.2.2.2.1.length = n ∧ (∀ d ∈ e.2.2.2.1, d ∈ M.map (·.1)) ∧ Kf.mad (pm M) e.2.2.2.1 ++ e.2.2.2.2 = us
def GivesS (M : MK) (S : List Ps) (r : List Str) : Prop := ∃ e ∈ S, ∃ r', r = e.2.2.2.1 ++ r' ∧ Md M r' e.2.2.2.2
theorem mad_app (m : List (Str × List Str)) (u v : List Str) : Kf.mad m (u ++ v) = Kf.mad m u ++ Kf.mad m v := by
  unfold Kf.mad
  rw [List.flatMap_append]
theorem md_len {M : MK} (nd : (M.map (·.1)).Nodup) (n0 : ∀ t ∈ M, t.2.2 ≠ []) : ∀ {q s : List Str}, Md M q s → q.length ≤ s.length
  | [], _, _ => Nat.zero_le _
  | d :: q, s, h => by
    obtain ⟨t, ht, rfl⟩ := name_M (h.1 d List.mem_cons_self)
    have e := h.2
    rw [Kf.mad_cons, look_M nd ht] at e
    have h1 := md_len nd n0 (q := q) (s := Kf.mad (pm M) q) ⟨fun x hx => h.1 x (List.mem_cons_of_mem _ hx), rfl⟩
    have h2 := List.length_pos_iff.mpr (n0 t ht)
    rw [← e, List.length_append, List.length_cons]
    omega
section
variable {P : Program} {w : World} {K : PySem.W.Frag} {mg : Str → Option Value} {base : Heap}
theorem scSources : FnScope nSo ["making", "row"] (defScope sSources) := ⟨rfl, rfl, rfl, by decide +kernel, rfl, by decide +kernel, by decide +kernel⟩
def spSources (K : PySem.W.Frag) : Sp := fun vs H Q _ => ∃ (d b : Addr) (M : MK) (us : List Str), vs = [.ref d, .ref b] ∧ H d = some (.dK (kvM M)) ∧ Stand H M ∧ Fit M ∧ M.length ≤ 3 ∧ (∀ t ∈ M, ∀ z ∈ t.2.2, isName z = true) ∧ (∀ t ∈ M, t.2.2 ≠ []) ∧ H b = some (.tup (us.map V.str)) ∧ us.length ≤ 11 ∧ (∀ z ∈ us, isName z = true) ∧
  ∀ (H' : Hp) (p : Addr) (fs : List Ka.Row), Same H H' → H' p = some (.lst (adV fs)) → Rows H' fs → (∀ r ∈ fs, Md M r.2 us) → (∀ r, Md M r us → r ∈ fs.map (·.2)) → Q (.ref p) H'
theorem ok_sources {f : Addr} {fd : FuncData} (F : Fun K "_law_sources" "_law_sources" sSources f fd) (N : Nones mg) : FnOk P w K mg base CX0 1 f fd ["making", "row"] (spSources K) := by
  refine F.ok scSources (fun vs H Q E h => ?_) (fun cdv A outer s H vs Q E hr h => ?_)
  · obtain ⟨d, b, M, us, rfl, _⟩ := h
    rfl
  · obtain ⟨d, b, M, us, rfl, hd, hM, ft, hm3, nM, n0, hB, hu, nU, q⟩ := h
    refine ⟨_, pss_cons (ps_set (i := 2) scSources.nd rfl (.inl rfl) (pe_lst (pa_cons (pe_lst (pa_cons (pe_tup pa_nil) (pa_cons (pv 1) pa_nil))) pa_nil)))
      (pss_cons (ps_set (i := 3) scSources.nd rfl (.inl rfl) (pe_lst pa_nil))
      (pss_cons (ps_for PassesOwn.never rfl (pi_range1 (by rfl) N.range (pa_cons (pe_op op_add (pe_callB call_len_seq (by rfl) N.len PySem.boot_len (pa_cons (pv 1) pa_nil)) pe_int) pa_nil)) (pg_name (i := 4) scSources.nd rfl (.inl rfl))
        (pss_cons (ps_set (i := 3) scSources.nd rfl (.inl rfl) (pe_op op_cat (pv 3) (pe_lc (own := [("line", 5), ("rest", 6)]) (g := gUnl K 2 (gCons (gName 5) (gCons (gName 6) gNil))) rfl scSources.nd (pi_list (pv 2)) (blkOk_by (own := [("line", 5), ("rest", 6)]) (N := nSo) (sc := defScope sSources) (by decide +kernel)) (fun _ _ _ _ _ => unl_at (K := K) rfl rfl (pgs_cons (pg_name (i := 5) scSources.nd rfl (Or.inl rfl)) (pgs_cons (pg_name (i := 6) scSources.nd rfl (Or.inl rfl)) pgs_nil)))
            (fun _ _ _ _ _ => pts_one (pt_cmpR (eqD_at (K := K) rfl hr.units) (pv 6) (pe_tup pa_nil) (nomark _))) (fun _ _ _ _ _ => pv 5))))
        (pss_cons (ps_set (i := 7) scSources.nd rfl (.inl rfl) (pe_lst pa_nil))
        (pss_cons (ps_for PassesOwn.never rfl (pi_list (pv 2)) (pg_unl rfl (pgs_cons (pg_name (i := 5) scSources.nd rfl (.inl rfl)) (pgs_cons (pg_name (i := 6) scSources.nd rfl (.inl rfl)) pgs_nil)))
          (pss_one (ps_lock (ps_for PassesOwn.never rfl (pi_keys (pv 0)) (pg_name (i := 8) scSources.nd rfl (.inl rfl))
            (pss_one (ps_if (PW.pt (pw_and (pt_cmpR op_gt (pe_callB call_len_seq (by rfl) N.len PySem.boot_len (pa_cons (pe_dget (hu_of hr) (pv 0) (pv 8) (fun _ _ => rfl)) pa_nil)) pe_int (nomark _)) (pw_and (pt_cmpR op_gt (pe_callB call_len_seq (by rfl) N.len PySem.boot_len (pa_cons (pv 6) pa_nil)) pe_int (nomark _)) (pw_and1 (pt_cmpR (op_eqD hr.units) (pe_slice sl_tupA (pv 6) po_none (po_some (pe_callB call_len_seq (by rfl) N.len PySem.boot_len (pa_cons (pe_dget (hu_of hr) (pv 0) (pv 8) (fun _ _ => rfl)) pa_nil)))) (pe_dget (hu_of hr) (pv 0) (pv 8) (fun _ _ => rfl)) (nomark _))))))
              (pss_one (ps_expr (pe_bm PySem.F.plainAttrs_list PySem.F.slot_list_append PySem.F.type_list_append mt_append (pv 7) (pa_cons (pe_lst (pa_cons (pe_op op_catA (pv 5) (pe_tup (pa_cons (pv 8) pa_nil))) (pa_cons (pe_slice sl_tupA (pv 6) (po_some (pe_callB call_len_seq (by rfl) N.len PySem.boot_len (pa_cons (pe_dget (hu_of hr) (pv 0) (pv 8) (fun _ _ => rfl)) pa_nil))) po_none) pa_nil))) pa_nil)))) pss_nil))))))
        (pss_one (ps_set (i := 2) scSources.nd rfl (.inl rfl) (pv 7)))))))
      (pss_one (ps_ret (pv 3))))), ?_⟩
    have lenU : ((us.map V.str).length : Nat) = us.length := List.length_map _
    refine ⟨Nat.zero_le _, fun e0 ne0 => ⟨.ref b, rfl, smallE (show 2 ≤ 1000000 by decide), fun e1 ne1 => ⟨smallE (show 1 ≤ 1000000 by decide), fun e2 ne2 => ⟨Nat.zero_le _, fun fp nfp => ?_⟩⟩⟩⟩
    have sa : Same H (upd H e0 (.tup [])) := same_new ne0
    have ee1 : upd H e0 (.tup []) e0 = some (.tup []) := upd_same
    generalize upd H e0 (.tup []) = Ha at sa ee1 ne1 ne2 nfp
    have sb := same_new (o := .lst [V.ref e0, .ref b]) ne1
    have ef1 : upd Ha e1 (.lst [V.ref e0, .ref b]) e1 = some (.lst [V.ref e0, .ref b]) := upd_same
    generalize upd Ha e1 (.lst [V.ref e0, .ref b]) = Hb at sb ef1 ne2 nfp
    have sc := same_new (o := .lst [V.ref e1]) ne2
    have ep1 : upd Hb e2 (.lst [V.ref e1]) e2 = some (.lst [V.ref e1]) := upd_same
    generalize upd Hb e2 (.lst [V.ref e1]) = Hc at sc ep1 nfp
    have hfe : e1 ≠ fp := ne_of_none (sc _ _ ef1) nfp
    have sd := same_new (o := .lst []) nfp
    have efp : upd Hc fp (.lst []) fp = some (.lst (adV [])) := upd_same
    have ep1 := sd _ _ ep1
    have ef1 := sd _ _ (sc _ _ ef1)
    have ee1 := sd _ _ (sc _ _ (sb _ _ ee1))
    have s1 := ((sa.trans sb).trans sc).trans sd
    generalize upd Hc fp (.lst []) = H1 at s1 efp ep1 ef1 ee1
    have few := ft.few
    refine ⟨.ref b, rfl, b, _, rfl, .inr (sqT_new (s1 _ _ hB)), _, 1, rfl, rfl, (us.length + 1 : Nat), by rw [lenU]; rfl, by omega, by omega, ?_⟩
    refine for_range (lo := 0) (n := us.length + 1) (fun t σ H' => ∃ (sp fp : Addr) (x4 x5 x6 x7 x8 : Option V) (fs : List Ka.Row) (S : List Ps), σ = [some (.ref d), some (.ref b), some (.ref sp), some (.ref fp), x4, x5, x6, x7, x8] ∧ Same H H' ∧ H' fp = some (.lst (adV fs)) ∧ Rows H' fs ∧ H' sp = some (.lst (psV S)) ∧ (∃ g0, PsOk H' g0 S) ∧
        (∀ r ∈ fs, Md M r.2 us) ∧ (∀ e ∈ S, PtS M us t e) ∧ (∀ r, Md M r us → r ∈ fs.map (·.2) ∨ GivesS M S r) ∧ S.length ≤ 3 ^ t ∧ fs.length ≤ 3 ^ t)
      ⟨e2, fp, none, none, none, none, none, [], [(e1, e0, b, [], us)], rfl, s1, efp, (fun r hr => nomatch hr), ep1, ⟨fp, fun e he => ?_⟩, (fun r hr => nomatch hr), fun e he => ?_, fun r hr => .inr ⟨_, List.mem_singleton.mpr rfl, r, rfl, hr⟩, Nat.le_refl _, Nat.zero_le _⟩ (fun t σ H' htl hPv => ?_) (fun σ H' hPv => ?_)
    · rw [List.mem_singleton.mp he]
      exact ⟨hfe, ef1, ee1, s1 _ _ hB⟩
    · rw [List.mem_singleton.mp he]
      exact ⟨rfl, (fun d hd => nomatch hd), rfl⟩
    · obtain ⟨sp, fp, x4, x5, x6, x7, x8, fs, S, rfl, sm, efp, hRf, esp, ⟨g0, hpc⟩, hfl, hpt, hall, hS3, hfs⟩ := hPv
      have h3 : 3 ^ t ≤ 177147 := by
        have : 3 ^ t ≤ 3 ^ 11 := Nat.pow_le_pow_right (by decide) (by omega)
        have e4 : 3 ^ 11 = 177147 := by decide
        omega
      have nmS : ∀ e ∈ S, ∀ z ∈ e.2.2.2.2, isName z = true := fun e he z hz => nU z (by rw [← (hpt e he).2.2]; exact List.mem_append_right _ hz)
      refine ⟨.ref fp, rfl, .ref sp, rfl, sp, rfl, ⟨_, sqL_new esp⟩, fun D nD => ?_⟩
      refine lc_it (walk_list (K := K) (a := sp) (xs := psV S)) (fun i G => Same H' G ∧ ∃ qs : List Ka.Row, G D = some (.lst (adV qs)) ∧ Rows G qs ∧ qs.length ≤ i ∧ (∀ r ∈ qs, Md M r.2 us) ∧ ∀ e ∈ S.take i, e.2.2.2.2 = [] → e.2.2.2.1 ∈ qs.map (·.2))
        ⟨same_new nD, [], upd_same, (fun r hr => nomatch hr), Nat.le_refl _, (fun r hr => nomatch hr), (fun e he => nomatch he)⟩ (fun i G _ h => sqL_new (h.1 _ _ esp)) (fun i x G G' hi h y => ?_) (fun G h => ?_)
      · obtain ⟨rfl, hy⟩ := y
        obtain ⟨sG, qs, eD, hRq, hql, hqm, hqa⟩ := h
        obtain ⟨e, he, rfl⟩ := get_map hy
        have hem := List.mem_of_getElem? he
        have hil := lt_of_get he
        obtain ⟨q1, q2, q3, q4⟩ := hpc e hem
        refine ⟨e.1, _, rfl, sqL_new (sG _ _ q2), rfl, _, _, rfl, _, _, rfl, rfl, ?_⟩
        refine ⟨rfl, .ref e.2.2.1, rfl, Nat.zero_le _, fun n1 nn1 => ?_⟩
        have s5 := same_new (o := .tup []) nn1
        have en1 : upd G' n1 (.tup []) n1 = some (.tup (([] : List Str).map V.str)) := upd_same
        generalize upd G' n1 (.tup []) = G5 at s5 en1
        have eD5 := s5 _ _ eD
        have sG5 := sG.trans s5
        have sD5 : ∀ c u, H' c = some u → ∀ v, upd G5 D v c = some u := fun c u h v => by
          rw [upd_ne (ne_of_none h nD)]
          exact sG5 _ _ h
        refine ⟨Ka.rowD e.2.2.2.2, Ka.rowD [], .tup (sqT_new (sG5 _ _ q4)) (dpRs _), .tup (sqT_new en1) (dpRs _), shR (nmS e hem), shR (fun z hz => nomatch hz), ?_⟩
        rw [eqR]
        refine ⟨_, rfl, ite2 (fun c => ?_) (fun c => ?_)⟩
        · have c := of_decide_eq_true c
          refine ⟨.ref e.2.1, rfl, _, eD5, by rw [adV_len]; exact small (by omega), fun c' u h => sD5 c' u h _, qs ++ [(e.2.1, e.2.2.2.1)], ?_, fun r hr => ?_, by rw [List.length_append, List.length_singleton]; omega, fun r hr => ?_, fun e' he' hn => ?_⟩
          · rw [upd_same]
            unfold adV
            rw [List.map_append]
            rfl
          · rcases List.mem_append.mp hr with z | z
            · have h := s5 _ _ (hRq r z)
              rw [upd_ne (fun w => by rw [w, eD5] at h; cases h)]
              exact h
            · rw [List.mem_singleton.mp z]
              exact sD5 _ _ q3 _
          · rcases List.mem_append.mp hr with z | z
            · exact hqm r z
            · rw [List.mem_singleton.mp z]
              have := (hpt e hem).2.2
              rw [c, List.append_nil] at this
              exact ⟨(hpt e hem).2.1, this⟩
          · rw [take_of_get he] at he'
            rw [List.map_append]
            rcases List.mem_append.mp he' with z | z
            · exact List.mem_append_left _ (hqa e' z hn)
            · rw [List.mem_singleton.mp z]
              exact List.mem_append_right _ List.mem_cons_self
        · have c : e.2.2.2.2 ≠ [] := fun z => c (decide_eq_true z)
          refine ⟨sG5, qs, eD5, hRq.mono s5, by omega, hqm, fun e' he' hn => ?_⟩
          rw [take_of_get he] at he'
          rcases List.mem_append.mp he' with z | z
          · exact hqa e' z hn
          · rw [List.mem_singleton.mp z] at hn
            exact absurd hn c
      · obtain ⟨sG, qs, eD, hRq, hql, hqm, hqa⟩ := h
        rw [psV_len] at hql hqa
        rw [List.take_length] at hqa
        refine ⟨fp, D, _, _, rfl, rfl, sG _ _ efp, eD, by rw [adV_len, adV_len]; exact smallE (by omega), fun fp2 nfp2 => ?_⟩
        have s6 := sG.trans (same_new (o := .lst (adV fs ++ adV qs)) nfp2)
        have efp2 : upd G fp2 (.lst (adV fs ++ adV qs)) fp2 = some (.lst (adV (fs ++ qs))) := by
          rw [upd_same]
          unfold adV
          rw [List.map_append]
        have hRf2 : Rows (upd G fp2 (.lst (adV fs ++ adV qs))) (fs ++ qs) := fun r hr => by
          rcases List.mem_append.mp hr with z | z
          · exact s6 _ _ (hRf r z)
          · exact same_new nfp2 _ _ (hRq r z)
        have hfl2 : ∀ r ∈ fs ++ qs, Md M r.2 us := fun r hr => (List.mem_append.mp hr).elim (hfl r) (hqm r)
        have hall2 : ∀ r, Md M r us → r ∈ (fs ++ qs).map (·.2) ∨ GivesS M S r := fun r hr => (hall r hr).imp (fun z => by rw [List.map_append]; exact List.mem_append_left _ z) id
        have hnil : ∀ e ∈ S, e.2.2.2.2 = [] → e.2.2.2.1 ∈ (fs ++ qs).map (·.2) := fun e he hn => by
          rw [List.map_append]
          exact List.mem_append_right _ (hqa e he hn)
        have hfs2 : (fs ++ qs).length ≤ 2 * 3 ^ t := by
          rw [List.length_append]
          omega
        generalize fs ++ qs = fs2 at efp2 hRf2 hfl2 hall2 hnil hfs2
        generalize upd G fp2 (.lst (adV fs ++ adV qs)) = H6 at s6 efp2 hRf2
        refine ⟨Nat.zero_le _, fun g ng => ?_⟩
        have s7 := s6.trans (same_new (o := .lst []) ng)
        have eg2 : upd H6 g (.lst []) g = some (.lst (psV [])) := upd_same
        have efp3 := same_new (o := .lst []) ng _ _ efp2
        have hfg : fp2 ≠ g := ne_of_none efp2 ng
        have hRf3 := hRf2.mono (same_new (o := .lst []) ng)
        have hsg : sp ≠ g := ne_of_none (s6 _ _ esp) ng
        have sm7 := sm.trans s7
        have hdg : d ≠ g := ne_of_none ((sm.trans s6) _ _ hd) ng
        have ngH := (sm.trans s6).free ng
        have hpc7 : ∀ e ∈ S, e.1 ≠ g ∧ upd H6 g (.lst []) e.1 = some (.lst [.ref e.2.1, .ref e.2.2.1]) ∧ upd H6 g (.lst []) e.2.1 = some (.tup (e.2.2.2.1.map V.str)) ∧ upd H6 g (.lst []) e.2.2.1 = some (.tup (e.2.2.2.2.map V.str)) := fun e he => by
          obtain ⟨q1, q2, q3, q4⟩ := hpc e he
          exact ⟨ne_of_none (s6 _ _ q2) ng, s7 _ _ q2, s7 _ _ q3, s7 _ _ q4⟩
        have esp7 := s7 _ _ esp
        generalize upd H6 g (.lst []) = H7 at s7 eg2 efp3 hRf3 sm7 hpc7 esp7
        have tupZ : ∀ {Z : Hp} {c : Addr} {xs : List V}, But g H7 Z → H7 c = some (.tup xs) → Z c = some (.tup xs) := fun {Z c xs} kk h => kk _ _ (fun e => by rw [e, eg2] at h; cases h) h
        refine ⟨.ref sp, rfl, sp, rfl, ⟨_, sqL_new esp7⟩, ?_⟩
        refine for_it (walk_list (K := K) (a := sp) (xs := psV S)) (fun i σ Z => ∃ (y5 y6 y8 : Option V) (T : List Ps), σ = [some (.ref d), some (.ref b), some (.ref sp), some (.ref fp2), some (.int (0 + (t : Int))), y5, y6, some (.ref g), y8] ∧ But g H7 Z ∧ Z g = some (.lst (psV T)) ∧ PsOk Z g T ∧
            (∀ e ∈ T, PtS M us (t + 1) e) ∧ (∀ r, Md M r us → r ∈ fs2.map (·.2) ∨ GivesS M T r ∨ GivesS M (S.drop i) r) ∧ T.length ≤ 3 * i)
          ⟨_, _, x8, [], rfl, But.refl, eg2, (fun e he => nomatch he), (fun e he => nomatch he), fun r hr => (hall2 r hr).imp id fun z => .inr z, Nat.le_refl _⟩ (fun i σ Z _ ⟨_, _, _, _, _, kk, _⟩ => sqL_new (kk _ _ hsg esp7)) (fun i x σ Z Z' hi h y => ?_) (fun σ Z h => ?_)
        · obtain ⟨rfl, hy⟩ := y
          obtain ⟨y5, y6, y8, T, rfl, kk, egZ, hTZ, hptZ, hallZ, hT3⟩ := h
          obtain ⟨e, he, rfl⟩ := get_map hy
          have hem := List.mem_of_getElem? he
          obtain ⟨q1, q2, q3, q4⟩ := hpc7 e hem
          have ee := kk _ _ q1 q2
          have el := tupZ kk q3
          have er := tupZ kk q4
          obtain ⟨p1, p2, p3⟩ := hpt e hem
          have hdrop := drop_of_get he
          rw [psV_len] at hi
          refine ⟨e.1, _, rfl, sqL_new ee, rfl, _, _, rfl, _, _, rfl, rfl, ?_⟩
          have hdZ := kk _ _ hdg (sm7 _ _ hd)
          refine ⟨d, _, hdZ, True.intro, fun od => ?_⟩
          generalize hL0 : upd Z' d (.frz od (.dK (kvM M))) = L
          have kL : But d Z' L := by rw [← hL0]; exact But.upd
          have fL : L d = some (.frz od (.dK (kvM M))) := by rw [← hL0]; exact upd_same
          have egL := kL _ _ (Ne.symm hdg) egZ
          have tupL : ∀ {c : Addr} {xs : List V}, Z' c = some (.tup xs) → L c = some (.tup xs) := fun {c xs} h => kL _ _ (fun e => by rw [e, hdZ] at h; cases h) h
          have lstL : ∀ {c : Addr} {xs : List V}, Z' c = some (.lst xs) → L c = some (.lst xs) := fun {c xs} h => kL _ _ (fun e => by rw [e, hdZ] at h; cases h) h
          have tupG : ∀ {G : Hp} {c : Addr} {xs : List V}, But g L G → L c = some (.tup xs) → G c = some (.tup xs) := fun {G c xs} kk h => kk _ _ (fun e => by rw [e, egL] at h; cases h) h
          refine ⟨.ref d, rfl, d, od, rfl, .inl ⟨kvM M, fL, ?_⟩⟩
          refine for_it (walk_keys (d := d) (o := od) (kvs := kvM M)) (fun j σ G => ∃ (z8 : Option V) (T' : List Ps), σ = [some (.ref d), some (.ref b), some (.ref sp), some (.ref fp2), some (.int (0 + (t : Int))), some (.ref e.2.1), some (.ref e.2.2.1), some (.ref g), z8] ∧ But g L G ∧ G g = some (.lst (psV T')) ∧ PsOk G g T' ∧ (∀ e' ∈ T', PtS M us (t + 1) e') ∧ (∀ e' ∈ T, ∃ e'' ∈ T', e''.2.2.2 = e'.2.2.2) ∧
              (∀ t2 ∈ M.take j, e.2.2.2.2.take t2.2.2.length = t2.2.2 → ∃ e' ∈ T', e'.2.2.2.1 = e.2.2.2.1 ++ [t2.1] ∧ e'.2.2.2.2 = e.2.2.2.2.drop t2.2.2.length) ∧ T'.length ≤ T.length + j)
            ⟨y8, T, rfl, But.refl, egL, fun e' he' => ?_, hptZ, fun e' he' => ⟨e', he', rfl⟩, (fun t2 ht2 => nomatch ht2), Nat.le_refl _⟩ (fun j σ G _ ⟨_, _, _, kg, _⟩ => kg _ _ hdg fL) (fun j x σ G G' hj h y => ?_) (fun σ G h => ?_)
          · obtain ⟨r1, r2, r3, r4⟩ := hTZ e' he'
            exact ⟨r1, lstL r2, tupL r3, tupL r4⟩
          · obtain ⟨rfl, ky, va, hkv, rfl⟩ := y
            obtain ⟨z8, T', rfl, kg, egG, hTG, hptG, hsub, hnew, hTl⟩ := h
            obtain ⟨t2, ht2, ekv⟩ := get_map hkv
            cases ekv
            have htM := List.mem_of_getElem? ht2
            have hjm := lt_of_get ht2
            have elk : Kf.look (pm M) t2.1 = t2.2.2 := look_M ft.nd htM
            have eM : G' t2.2.1 = some (.tup (t2.2.2.map V.str)) := tupG kg (tupL (tupZ kk (sm7 _ _ (hM t2 htM))))
            have gM : ∀ {G : Hp}, Same G' G → DGet G d (.str t2.1) (some (.ref t2.2.1)) := fun s => get_M (.inr ⟨od, s _ _ (kg _ _ hdg fL)⟩) ft.nd htM
            have erG : G' e.2.2.1 = some (.tup (e.2.2.2.2.map V.str)) := tupG kg (tupL er)
            have elG : G' e.2.1 = some (.tup (e.2.2.2.1.map V.str)) := tupG kg (tupL el)
            have hpos := List.length_pos_iff.mpr (n0 t2 htM)
            have stay : ∀ G2, Same G' G2 → ¬ e.2.2.2.2.take t2.2.2.length = t2.2.2 → ∃ (z8 : Option V) (T' : List Ps), [some (V.ref d), some (.ref b), some (.ref sp), some (.ref fp2), some (.int (0 + (t : Int))), some (.ref e.2.1), some (.ref e.2.2.1), some (.ref g), some (.str t2.1)] = [some (.ref d), some (.ref b), some (.ref sp), some (.ref fp2), some (.int (0 + (t : Int))), some (.ref e.2.1), some (.ref e.2.2.1), some (.ref g), z8] ∧ But g L G2 ∧ G2 g = some (.lst (psV T')) ∧ PsOk G2 g T' ∧ (∀ e' ∈ T', PtS M us (t + 1) e') ∧ (∀ e' ∈ T, ∃ e'' ∈ T', e''.2.2.2 = e'.2.2.2) ∧
                (∀ t2 ∈ M.take (j + 1), e.2.2.2.2.take t2.2.2.length = t2.2.2 → ∃ e' ∈ T', e'.2.2.2.1 = e.2.2.2.1 ++ [t2.1] ∧ e'.2.2.2.2 = e.2.2.2.2.drop t2.2.2.length) ∧ T'.length ≤ T.length + (j + 1) := fun G2 s2 hn => by
              refine ⟨_, T', rfl, kg.trans (But.of s2), s2 _ _ egG, fun e' he' => ?_, hptG, hsub, fun t3 ht3 hb3 => ?_, by omega⟩
              · obtain ⟨r1, r2, r3, r4⟩ := hTG e' he'
                exact ⟨r1, s2 _ _ r2, s2 _ _ r3, s2 _ _ r4⟩
              · rw [take_of_get ht2] at ht3
                rcases List.mem_append.mp ht3 with z | z
                · exact hnew t3 z hb3
                · rw [List.mem_singleton.mp z] at hb3
                  exact absurd hb3 hn
            refine ⟨.ref d, rfl, .str t2.1, rfl, d, _, rfl, gM (fun _ _ h => h), t2.2.1, _, rfl, .inr (sqT_new eM), _, 0, rfl, rfl, _, rfl, ite2 (fun c => ?_) (fun c => absurd (decide_eq_true (by rw [List.length_map]; omega)) c)⟩
            refine ⟨.ref e.2.2.1, rfl, e.2.2.1, _, rfl, .inr (sqT_new erG), _, 0, rfl, rfl, _, rfl, ite2 (fun c2 => ?_) (fun c2 => ?_)⟩
            rotate_left
            · refine iteF (stay _ (fun _ _ h => h) fun e3 => c2 (decide_eq_true ?_))
              rw [List.length_map]
              have := congrArg List.length e3
              rw [List.length_take] at this
              omega
            refine ⟨.ref e.2.2.1, rfl, .ref d, rfl, .str t2.1, rfl, d, _, rfl, gM (fun _ _ h => h), t2.2.1, _, rfl, .inr (sqT_new eM), _, rfl, ?_⟩
            dsimp only
            rw [List.length_map]
            refine slA_takeR (sqT_new erG) fun G2 pz s3 hp2 => ?_
            refine ⟨.ref d, rfl, .str t2.1, rfl, d, _, rfl, gM s3, Ka.rowD _, Ka.rowD _, .tup hp2 (dpRs _), .tup (sqT_new (s3 _ _ eM)) (dpRs _), shR (fun z hz => nmS e hem z (List.mem_of_mem_take hz)), shR (nM t2 htM), ?_⟩
            rw [eqR]
            refine ⟨_, rfl, ite2 (fun c3 => ?_) (fun c3 => ?_)⟩
            rotate_left
            · exact stay _ s3 fun z => c3 (decide_eq_true z)
            have c3 := of_decide_eq_true c3
            have kg2 := kg.trans (But.of s3)
            have egG2 := s3 _ _ egG
            refine ⟨.ref g, rfl, .inl ⟨rfl, _, sqL_new egG2⟩, .ref e.2.1, rfl, .str t2.1, rfl, smallE (show 1 ≤ 1000000 by decide), fun t1 nt1 => ?_⟩
            have s5 := same_new (o := .tup [V.str t2.1]) nt1
            have et1 : upd G2 t1 (.tup [V.str t2.1]) t1 = some (.tup [V.str t2.1]) := upd_same
            generalize upd G2 t1 (.tup [V.str t2.1]) = G5 at s5 et1
            refine catX (s5 _ _ (s3 _ _ elG)) et1 (by rw [List.length_map]; show _ + 1 ≤ 100000; omega) fun G6 p6 s6 e6 => ?_
            have s36 := s3.trans (s5.trans s6)
            refine ⟨.ref e.2.2.1, rfl, .ref d, rfl, .str t2.1, rfl, d, _, rfl, gM s36, t2.2.1, _, rfl, .inr (sqT_new (s36 _ _ eM)), _, rfl, ?_⟩
            dsimp only [tNoPart]
            rw [List.length_map]
            refine dropX (s36 _ _ erG) fun G7 p7 s7' e7 => ?_
            refine ⟨smallE (show 2 ≤ 1000000 by decide), fun n7 nn7 => ?_⟩
            have s37 := s36.trans s7'
            have s8 := s37.trans (same_new (o := .lst [V.ref p6, .ref p7]) nn7)
            have e68 := same_new (o := .lst [V.ref p6, .ref p7]) nn7 _ _ (s7' _ _ e6)
            have e78 := same_new (o := .lst [V.ref p6, .ref p7]) nn7 _ _ e7
            have e77 : upd G7 n7 (.lst [V.ref p6, .ref p7]) n7 = some (.lst [V.ref p6, .ref p7]) := upd_same
            have h7g : n7 ≠ g := Ne.symm (ne_of_none (s37 _ _ egG) nn7)
            generalize upd G7 n7 _ = G8 at s8 e68 e78 e77
            have eg8 := s8 _ _ egG
            have kO : ∀ {c u v}, c ≠ g → G8 c = some u → upd G8 g v c = some u := fun {c u v} hc h => by rw [upd_ne hc]; exact h
            have tO : ∀ {c xs v}, G8 c = some (.tup xs) → upd G8 g v c = some (.tup xs) := fun {c xs v} h => kO (fun z => by rw [z, eg8] at h; cases h) h
            refine ⟨g, _, _, rfl, rfl, eg8, by rw [psV_len]; exact small (by omega), ?_⟩
            refine ⟨_, T' ++ [(n7, p6, p7, e.2.2.2.1 ++ [t2.1], e.2.2.2.2.drop t2.2.2.length)], rfl, fun c u hc h => kO hc (s8 _ _ (kg c u hc h)), ?_, fun e' he' => ?_, fun e' he' => ?_, fun e' he' => ?_, fun t3 ht3 hb3 => ?_, by rw [List.length_append, List.length_singleton]; omega⟩
            · rw [upd_same]
              unfold psV
              rw [List.map_append]
              rfl
            · rcases List.mem_append.mp he' with z | z
              · obtain ⟨r1, r2, r3, r4⟩ := hTG e' z
                exact ⟨r1, kO r1 (s8 _ _ r2), tO (s8 _ _ r3), tO (s8 _ _ r4)⟩
              · rw [List.mem_singleton.mp z]
                refine ⟨h7g, kO h7g e77, tO ?_, tO ?_⟩
                · rw [e68, List.map_append]
                  rfl
                · rw [e78, List.map_drop]
            · rcases List.mem_append.mp he' with z | z
              · exact hptG e' z
              · rw [List.mem_singleton.mp z]
                refine ⟨?_, fun x hx => ?_, ?_⟩
                · show (e.2.2.2.1 ++ [t2.1]).length = t + 1
                  rw [List.length_append, p1]
                  rfl
                · rcases List.mem_append.mp hx with w | w
                  · exact p2 x w
                  · rw [List.mem_singleton.mp w]
                    exact List.mem_map.mpr ⟨t2, htM, rfl⟩
                · show Kf.mad (pm M) (e.2.2.2.1 ++ [t2.1]) ++ e.2.2.2.2.drop t2.2.2.length = us
                  rw [Kf.mad_snoc, elk, List.append_assoc]
                  have h5 := List.take_append_drop t2.2.2.length e.2.2.2.2
                  rw [c3] at h5
                  rw [h5]
                  exact p3
            · obtain ⟨e'', h1, h2⟩ := hsub e' he'
              exact ⟨e'', List.mem_append_left _ h1, h2⟩
            · rw [take_of_get ht2] at ht3
              rcases List.mem_append.mp ht3 with z | z
              · obtain ⟨e', h1, h2⟩ := hnew t3 z hb3
                exact ⟨e', List.mem_append_left _ h1, h2⟩
              · rw [List.mem_singleton.mp z]
                exact ⟨_, List.mem_append_right _ (List.mem_singleton.mpr rfl), rfl, rfl⟩
          · obtain ⟨z8, T', rfl, kg, egG, hTG, hptG, hsub, hnew, hTl⟩ := h
            rw [kvM_len] at hnew hTl
            rw [List.take_length] at hnew
            have fG := kg _ _ hdg fL
            refine ⟨fG, ?_⟩
            have upU : ∀ c u, c ≠ g → Z' c = some u → upd G d (.dK (kvM M)) c = some u := fun c u hc e => by
              by_cases z : c = d
              · rw [z, upd_same, ← hdZ, ← z]
                exact e
              · rw [upd_ne z]
                exact kg c u hc (kL c u z e)
            have kU : ∀ {c u}, c ≠ d → G c = some u → upd G d (.dK (kvM M)) c = some u := fun {c u} hc h => by rw [upd_ne hc]; exact h
            refine ⟨_, _, _, T', rfl, fun c u h2 h3 => upU c u h2 (kk c u h2 h3), kU (Ne.symm hdg) egG, fun e' he' => ?_, hptG, fun r hr => ?_, by omega⟩
            · obtain ⟨r1, r2, r3, r4⟩ := hTG e' he'
              exact ⟨r1, kU (fun z => by rw [z, fG] at r2; cases r2) r2, kU (fun z => by rw [z, fG] at r3; cases r3) r3, kU (fun z => by rw [z, fG] at r4; cases r4) r4⟩
            · rcases hallZ r hr with z | ⟨e', he', r', h1, h2⟩ | ⟨e', he', r', h1, h2⟩
              · exact .inl z
              · obtain ⟨e'', g1, g2⟩ := hsub e' he'
                exact .inr (.inl ⟨e'', g1, r', by rw [g2]; exact h1, by rw [g2]; exact h2⟩)
              · rw [hdrop] at he'
                rcases List.mem_cons.mp he' with z | z
                · rw [z] at h1 h2
                  cases r' with
                  | nil =>
                    rw [List.append_nil] at h1
                    exact .inl (h1 ▸ hnil e hem h2.2.symm)
                  | cons x r'' =>
                    obtain ⟨t3, ht3, rfl⟩ := name_M (h2.1 x List.mem_cons_self)
                    have e5 := h2.2
                    rw [Kf.mad_cons, look_M ft.nd ht3] at e5
                    obtain ⟨e'', g1, g2, g3⟩ := hnew t3 ht3 (by rw [← e5, List.take_left])
                    refine .inr (.inl ⟨e'', g1, r'', by rw [g2, List.append_assoc]; exact h1, fun y hy => h2.1 y (List.mem_cons_of_mem _ hy), ?_⟩)
                    rw [g3, ← e5, List.drop_left]
                · exact .inr (.inr ⟨e', z, r', h1, h2⟩)
        · obtain ⟨y5, y6, y8, T, rfl, kk, egZ, hTZ, hptZ, hallZ, hT3⟩ := h
          rw [psV_len] at hT3 hallZ
          rw [List.drop_length] at hallZ
          refine ⟨.ref g, rfl, ?_⟩
          refine ⟨g, fp2, _, _, _, _, _, fs2, T, rfl, fun c u e => kk c u (ne_of_none e ngH) (sm7 c u e), kk _ _ hfg efp3, fun r hr => tupZ kk (hRf3 r hr), egZ, ⟨g, hTZ⟩, hfl2, hptZ, fun r hr => ?_, ?_, ?_⟩
          · rcases hallZ r hr with z | z | ⟨e', he', _⟩
            · exact .inl z
            · exact .inr z
            · cases he'
          · rw [Nat.pow_succ]
            omega
          · rw [Nat.pow_succ]
            omega
    · obtain ⟨sp, fp, x4, x5, x6, x7, x8, fs, S, rfl, sm, efp, hRf, esp, hpc, hfl, hpt, hall, hS3, hfs⟩ := hPv
      refine ⟨.ref fp, rfl, q H' fp fs sm efp hRf hfl (fun r hr => ?_)⟩
      rcases hall r hr with z | ⟨e, he, r', h1, h2⟩
      · exact z
      · have hl := md_len ft.nd n0 hr
        have := congrArg List.length h1
        rw [List.length_append, (hpt e he).1] at this
        omega
end
end Kb
namespace Kb
open PySem PySem.Spec PyProof.Rows L2
theorem inSeq_at {X : Cx} {K : PySem.W.Frag} (h : X.K = K) : OpR X (compareOp .In) (rIn K false) := by
  subst h
  exact op_in_seq
theorem any_at {X : Cx} {K : PySem.W.Frag} (h : X.K = K) (hc : X.calm = true) : CallR X (.builtin "any") (rAny K) := by
  subst h
  exact cr_any hc
/-- the scope of the comprehension of _law_is_exact -/
def ownSc : Scope := { kind := .function, names := [(".0", .local), ("one", .cell), ("any", .globalImplicit), ("deed", .cell), ("making", .cell)], isGenerator := false, isCoroutine := false }
/-- whether no other row has it -/
def ownB (M : MK) (d z : Str) : Bool := !((M.filter fun t2 => decide (t2.1 ≠ d)).any fun t2 => decide (z ∈ t2.2.2))
theorem ownB_iff {M : MK} {d z : Str} : ownB M d z = true ↔ ¬ ∃ t' ∈ M, t'.1 ≠ d ∧ z ∈ t'.2.2 := by
  unfold ownB
  rw [Bool.not_eq_true', Bool.eq_false_iff, ne_eq, List.any_eq_true]
  refine not_congr ⟨fun ⟨t, ht, h⟩ => ?_, fun ⟨t, ht, h1, h2⟩ => ⟨t, List.mem_filter.mpr ⟨ht, decide_eq_true h1⟩, decide_eq_true h2⟩⟩
  obtain ⟨h1, h2⟩ := List.mem_filter.mp ht
  exact ⟨t, h1, of_decide_eq_true h2, of_decide_eq_true h⟩
section
variable {P : Program} {w : World} {K : PySem.W.Frag} {mg : Str → Option Value} {base : Heap}
abbrev nLx : List Str := ["making", "deed", "own", "one", "other"]
theorem scLawEx : FnScope nLx ["making"] (defScope sLawEx) := ⟨rfl, rfl, rfl, by decide +kernel, rfl, by decide +kernel, by decide +kernel⟩
def spLawEx : Sp := fun vs H Q _ => ∃ (d : Addr) (M : MK), vs = [.ref d] ∧ H d = some (.dK (kvM M)) ∧ Stand H M ∧ Fit M ∧ ∀ (H' : Hp) (b : Bool), Same H H' → (b = true ↔ Kf.Exact (pm M)) → Q (.bl b) H'
theorem ok_lawEx {f : Addr} {fd : FuncData} (F : Fun K "_law_is_exact" "_law_is_exact" sLawEx f fd) (N : Nones mg) : FnOk P w K mg base CX0 1 f fd ["making"] spLawEx := by
  refine F.ok scLawEx (fun vs H Q E h => ?_) (fun cdv A outer s H vs Q E hr h => ?_)
  · obtain ⟨d, M, rfl, _⟩ := h
    rfl
  · obtain ⟨d, M, rfl, hd, hM, ft, q⟩ := h
    refine ⟨_, pss_cons (ps_lock (ps_for PassesOwn.never rfl (pi_keys (pv 0)) (pg_name (i := 1) scLawEx.nd rfl (.inr rfl))
        (pss_cons (ps_setLc (i := 2) (own := [("one", 3)]) (g := gName 3) rfl scLawEx.nd rfl rfl (sw_true rfl rfl rfl rfl) (pi_tup (pe_dget (hu_of hr) (pv 0) (pv 1) (fun _ _ => rfl))) (blkOk_by (own := [("one", 3)]) (N := nLx) (sc := defScope sLawEx) (by decide +kernel)) (fun _ _ _ _ _ => pg_name (i := 3) scLawEx.nd rfl (Or.inr rfl))
            (fun _ _ _ _ _ => pts_one (pt_not (pt_val (pe_callB (any_at (K := K) rfl rfl) (by rfl) N.any (by decide +kernel) (pa_cons (pe_lc (own := [("other", 4)]) (g := gName 4) rfl scLawEx.nd (pi_keys (pv 0)) (blkOk_by (own := [("other", 4)]) (N := nLx) (sc := ownSc) (by decide +kernel)) (fun _ _ _ _ _ => pg_name (i := 4) scLawEx.nd rfl (Or.inl rfl))
              (fun _ _ _ _ _ => pts_one (pt_cmpR op_ne (pv 4) (pv 1) (nomark _))) (fun _ _ _ _ _ => pe_cmpR (inSeq_at (K := K) rfl) (pv 3) (pe_dget (hu_of hr) (pv 0) (pv 4) (fun _ _ => rfl)) (by rfl))) pa_nil)))))
            (fun _ _ _ _ _ => pv 3))
        (pss_one (ps_if (pt_cmpR op_eq (pe_callB call_len_seq (by rfl) N.len PySem.boot_len (pa_cons (pv 2) pa_nil)) pe_int (nomark _)) (pss_one (ps_ret pe_bl)) pss_nil)))))
      (pss_one (ps_ret pe_bl)), ?_⟩
    refine ⟨d, _, hd, True.intro, fun od => ?_⟩
    generalize hL0 : upd H d (.frz od (.dK (kvM M))) = L
    have kL : But d H L := by rw [← hL0]; exact But.upd
    have fL : L d = some (.frz od (.dK (kvM M))) := by rw [← hL0]; exact upd_same
    have few := ft.few
    have ML : Stand L M := fun t ht => kL _ _ (fun e => by
      have := hM t ht
      rw [e, hd] at this
      cases this) (hM t ht)
    refine ⟨.ref d, rfl, d, od, rfl, .inl ⟨kvM M, fL, ?_⟩⟩
    refine for_it (walk_keys (d := d) (o := od) (kvs := kvM M)) (fun i σ G => ∃ (y1 y2 : Option V), σ = [some (.ref d), y1, y2, none, none] ∧ Same L G ∧ ∀ t ∈ M.take i, ∃ x, Kf.Own (pm M) t.1 x)
      ⟨none, none, rfl, (fun _ _ e => e), (fun t ht => nomatch ht)⟩ (fun i σ G _ ⟨_, _, _, k, _⟩ => k _ _ fL) (fun i x σ G G' hi h y => ?_) (fun σ G h => ?_)
    · obtain ⟨rfl, ky, va, hkv, rfl⟩ := y
      obtain ⟨y1, y2, rfl, k, hall⟩ := h
      obtain ⟨t, ht, ekv⟩ := get_map hkv
      cases ekv
      have htM := List.mem_of_getElem? ht
      have r5 := ft.rows t htM
      refine ⟨.ref d, rfl, .str t.1, rfl, d, _, rfl, get_M (.inr ⟨od, k _ _ fL⟩) ft.nd htM, t.2.1, rfl, ⟨_, sqT_new (k _ _ (ML t htM))⟩, fun D nD => ?_⟩
      refine lc_it (walk_tup (K := K) (a := t.2.1) (xs := t.2.2.map V.str)) (fun j Z => Same G' Z ∧ Z D = some (.lst (((t.2.2.take j).filter (ownB M t.1)).map V.str)))
        ⟨same_new nD, upd_same⟩ (fun j Z _ h => sqT_new (h.1 _ _ (k _ _ (ML t htM)))) (fun j y Z Z' hj h yy => ?_) (fun Z h => ?_)
      · obtain ⟨rfl, hy⟩ := yy
        obtain ⟨z, hz, rfl⟩ := get_map hy
        obtain ⟨sZ, eD⟩ := h
        have sLZ := k.trans sZ
        refine ⟨rfl, .ref d, rfl, d, od, rfl, .inl ⟨kvM M, sLZ _ _ fL, fun D2 nD2 => ?_⟩⟩
        refine lc_it (walk_keys (d := d) (o := od) (kvs := kvM M)) (fun i2 W => Same Z' W ∧ W D2 = some (.lst ((((M.take i2).filter fun t2 => decide (t2.1 ≠ t.1)).map fun t2 => decide (z ∈ t2.2.2)).map V.bl))) ⟨same_new nD2, upd_same⟩ (fun i2 W _ h => h.1 _ _ (sLZ _ _ fL)) (fun i2 x W W' hi2 h y => ?_) (fun W h => ?_)
        · obtain ⟨rfl, ky, va, hkv, rfl⟩ := y
          obtain ⟨sW, eD2⟩ := h
          obtain ⟨t2, ht2, ekv⟩ := get_map hkv
          cases ekv
          have htM2 := List.mem_of_getElem? ht2
          have sLW := sLZ.trans sW
          refine ⟨rfl, .str t2.1, rfl, .str t.1, rfl, rfl, _, rfl, ite2 (fun c => ?_) (fun c => ?_)⟩
          · have c : t2.1 ≠ t.1 := by
              intro e
              rw [e] at c
              simp at c
            refine ⟨.str z, rfl, .ref d, rfl, .str t2.1, rfl, d, _, rfl, get_M (.inr ⟨od, sLW _ _ fL⟩) ft.nd htM2, t2.2.1, _, rfl, .inr (sqT_new (sLW _ _ (ML t2 htM2))), rfl, flat_strs t2.2.2, ?_⟩
            rw [inV_str]
            refine ⟨_, eD2, ?_, fun c' u e => ?_, ?_⟩
            · rw [List.length_map, List.length_map]
              have := List.length_filter_le (fun t2 : Str × Addr × List Str => decide (t2.1 ≠ t.1)) (M.take i2)
              rw [List.length_take] at this
              exact small (by omega)
            · rw [upd_ne (ne_of_none e nD2)]
              exact sW c' u e
            · rw [upd_same, take_of_get ht2, filt_yes (p := fun t2 : Str × Addr × List Str => decide (t2.1 ≠ t.1)) (x := t2) (decide_eq_true c), List.map_append, List.map_append]
              rfl
          · have c : decide (t2.1 ≠ t.1) = false := by
              apply decide_eq_false
              intro e
              apply c
              simp [e]
            refine ⟨sW, ?_⟩
            rw [take_of_get ht2, filt_no (p := fun t2 : Str × Addr × List Str => decide (t2.1 ≠ t.1)) (x := t2) c]
            exact eD2
        · obtain ⟨sW, eD2⟩ := h
          rw [kvM_len, List.take_length] at eD2
          refine ⟨D2, _, rfl, sqL_new eD2, _, rfl, ?_⟩
          have e1 : (!(((M.filter fun t2 => decide (t2.1 ≠ t.1)).map fun t2 => decide (z ∈ t2.2.2)).any id)) = ownB M t.1 z := by
            unfold ownB
            rw [List.any_map]
            rfl
          refine ite2 (c := (!(((M.filter fun t2 => decide (t2.1 ≠ t.1)).map fun t2 => decide (z ∈ t2.2.2)).any id)) = true) (fun c => ?_) (fun c => ?_)
          · rw [e1] at c
            refine ⟨.str z, rfl, _, sW _ _ eD, ?_, fun c' u e => ?_, ?_⟩
            · rw [List.length_map]
              have := List.length_filter_le (ownB M t.1) (t.2.2.take j)
              rw [List.length_take] at this
              exact small (by omega)
            · rw [upd_ne (ne_of_none e nD)]
              exact sW _ _ (sZ c' u e)
            · rw [upd_same, take_of_get hz, filt_yes c, List.map_append]
              rfl
          · rw [e1] at c
            refine ⟨sZ.trans sW, ?_⟩
            rw [take_of_get hz, filt_no (Bool.eq_false_iff.mpr c)]
            exact sW _ _ eD
      · obtain ⟨sZ, eD⟩ := h
        rw [List.length_map, List.take_length] at eD
        have sLZ := k.trans sZ
        have hown : ∀ x, x ∈ t.2.2.filter (ownB M t.1) ↔ Kf.Own (pm M) t.1 x := fun x => by
          rw [List.mem_filter, ownB_iff, own_iff ft.nd htM]
        refine ⟨.ref D, rfl, D, _, rfl, .inl (sqL_new eD), rfl, _, rfl, ite2 (fun c => ?_) (fun c => ?_)⟩
        · have c := V.int.inj (of_decide_eq_true c)
          rw [List.length_map] at c
          refine ⟨sLZ _ _ fL, q _ false (unlock hd (kL.trans (But.of sLZ))) ⟨(fun z => nomatch z), fun hx => ?_⟩⟩
          obtain ⟨x, hx⟩ := hx t.1 (by rw [pm_names]; exact List.mem_map.mpr ⟨t, htM, rfl⟩)
          have := List.length_pos_of_mem ((hown x).mpr hx)
          omega
        · refine ⟨_, _, rfl, sLZ, fun t' ht' => ?_⟩
          rw [take_of_get ht] at ht'
          rcases List.mem_append.mp ht' with w | w
          · exact hall t' w
          · rw [List.mem_singleton.mp w]
            cases hf : t.2.2.filter (ownB M t.1) with
            | nil =>
              rw [hf] at c
              exact absurd (decide_eq_true rfl) c
            | cons x l => exact ⟨x, (hown x).mp (by rw [hf]; exact List.mem_cons_self)⟩
    · obtain ⟨y1, y2, rfl, k, hall⟩ := h
      rw [kvM_len, List.take_length] at hall
      refine ⟨k _ _ fL, q _ true (unlock hd (kL.trans (But.of k))) ⟨fun _ dd hdd => ?_, fun _ => rfl⟩⟩
      rw [pm_names] at hdd
      obtain ⟨t, ht, rfl⟩ := name_M hdd
      exact hall t ht
end
end Kb
namespace Kb
open PySem PySem.Spec PyProof.Rows L2
section
variable {P : Program} {w : World} {K : PySem.W.Frag} {mg : Str → Option Value} {base : Heap}
/-- what more the written part says of the class Refused at C -/
structure CatchC (K : PySem.W.Frag) (C : Addr) : Prop where
  te : PySem.W.exmOne K (.ref C) (.ref C) = some true
  xf : XfC K C
theorem word_field (z : Str) : List.lookup ("word" : Str) [(("word" : Str), V.str z)] = some (V.str z) := by
  rw [List.lookup_cons]
  have : ((("word" : Str)) == ("word" : Str)) = true := by decide +kernel
  rw [this]
/-- needs and unmade with all that they rest on -/
structure NeedC (K : PySem.W.Frag) (mg : Str → Option Value) where
  (fN fU fI fO fW fF fB fX fD fA C fE : Addr)
  (dN dU dI dO dW dF dB dX dD dA dE : FuncData)
  (t24 t40 : Nat)
  R : RefC K mg C fE dE
  N : Fun K "needs" "needs" sNeeds fN dN
  bN : Binds K dN ["making", "row"] []
  gN : mg "needs" = some (.ref fN)
  U : Fun K "unmade" "unmade" sUnmade fU dU
  bU : Binds K dU ["making", "row"] []
  gU : mg "unmade" = some (.ref fU)
  F : Fun K "few_least_rows" "few_least_rows" sFew fF dF
  bF : Binds K dF ["rows", "most"] []
  gF : mg "few_least_rows" = some (.ref fF)
  I : Fun K "in_order" "in_order" sInOrder fI dI
  bI : Binds K dI ["rows"] []
  gI : mg "in_order" = some (.ref fI)
  O : Fun K "row_order" "row_order" sOrder fO dO
  gO : mg "row_order" = some (.ref fO)
  W : Fun K "within" "within" sWithin fW dW
  bW : Binds K dW ["u", "v"] []
  gW : mg "within" = some (.ref fW)
  B : Fun K "begun" "begun" sBegun fB dB
  bB : Binds K dB ["row", "other"] []
  gB : mg "begun" = some (.ref fB)
  X : Fun K "is_exact" "is_exact" sExact fX dX
  bX : Binds K dX ["making"] []
  gX : mg "is_exact" = some (.ref fX)
  D : Fun K "own_deeds" "own_deeds" sOwnD fD dD
  bD : Binds K dD ["making"] []
  gD : mg "own_deeds" = some (.ref fD)
  A : Fun K "ascending" "ascending" sAsc fA dA
  bA : Binds K dA ["table"] []
  gA : mg "ascending" = some (.ref fA)
  g24 : mg "LONGEST_ROW" = some (.int 24 t24)
  g40 : mg "MOST_NEEDS" = some (.int 40 t40)
  no : Nones mg
theorem NeedC.ok (T : NeedC K mg) : FnOk P w K mg base (L2.CX P w) 4 T.fN T.dN ["making", "row"] (spNeeds K T.C) := ok_needs T.R T.N T.F T.bF T.gF T.I T.bI T.gI T.O T.gO T.W T.bW T.gW T.B T.bB T.gB T.g24 T.g40 T.no
theorem NeedC.okU (T : NeedC K mg) : FnOk P w K mg base (L2.CX P w) 4 T.fU T.dU ["making", "row"] (spUnmade K T.C) := ok_unmade T.R T.U T.X T.bX T.gX T.D T.bD T.gD T.A T.bA T.gA T.no
abbrev nTd : List Str := ["making", "row", "back", "e"]
theorem scTold : FnScope nTd ["making", "row", "back"] (defScope sTold) := ⟨rfl, rfl, rfl, by decide +kernel, rfl, by decide +kernel, by decide +kernel⟩
/-- it is answered with a refusal -/
def SaidR (H : Hp) (Q : VK) (z : Str) : Prop := ∀ (H' : Hp) (p : Addr), Same H H' → H' p = some (.lst [.str (Str.ofString "refused"), .str z]) → Q (.ref p) H'
def spTold (K : PySem.W.Frag) : Sp := fun vs H Q _ => ∃ (d b : Addr) (M : MK) (us : List Str) (bk : Bool), vs = [.ref d, .ref b, .bl bk] ∧ Rd H d (.dK (kvM M)) ∧ (bk = true → H d = some (.dK (kvM M))) ∧ Stand H M ∧ Fit M ∧ (∀ t ∈ M, ∀ z ∈ t.2.2, isName z = true) ∧ SqT K H b (us.map V.str) ∧ us.length ≤ 1000 ∧ (∀ z ∈ us, isName z = true) ∧
  (bk = false → (24 < us.length → SaidR H Q "long") ∧
    (us.length ≤ 24 → ∀ (j : Nat) (L : List (List Str)), j ≤ us.length → Kg.Good (pm M) (M.map (·.1)) (Kf.suf us j) L → 40 < L.length → SaidR H Q "wide") ∧
    (us.length ≤ 24 → ∀ (H' : Hp) (p r : Addr) (ts : List Ka.Row), Same H H' → H' p = some (.lst [.str (Str.ofString "told"), .ref r]) → H' r = some (.tup (adV ts)) → Rows H' ts → (∀ j : Nat, j ≤ us.length → ∃ L : List (List Str), Kg.Good (pm M) (M.map (·.1)) (Kf.suf us j) L ∧ L.length ≤ 40) → Kg.Good (pm M) (M.map (·.1)) us (ts.map (·.2)) → ts.length ≤ 40 → (ts.map (·.2)).Pairwise (fun a b => Ka.rowLe a b = true) → Q (.ref p) H')) ∧
  (bk = true → (¬ Kf.Exact (pm M) → SaidR H Q "inexact") ∧
    (Kf.Exact (pm M) → (∀ q, ¬ Md M q us) → ∀ (H' : Hp) (p : Addr), Same H H' → H' p = some (.lst [.str (Str.ofString "told"), .non]) → Q (.ref p) H') ∧
    (Kf.Exact (pm M) → ∀ (H' : Hp) (p r : Addr) (q : List Str), Same H H' → H' p = some (.lst [.str (Str.ofString "told"), .ref r]) → H' r = some (.tup (q.map V.str)) → Md M q us → Q (.ref p) H'))
theorem ok_told {f : Addr} {fd : FuncData} (F : Fun K "_law_told" "_law_told" sTold f fd) (T : NeedC K mg) (Z : CatchC K T.C) : FnOk P w K mg base CX0 5 f fd ["making", "row", "back"] (spTold K) := by
  have GN : FnOk P w K mg base (L2.CX P w) 4 T.fN T.dN ["making", "row"] (spNeeds K T.C) := T.ok
  have GU : FnOk P w K mg base (L2.CX P w) 4 T.fU T.dU ["making", "row"] (spUnmade K T.C) := T.okU
  refine F.ok scTold (fun vs H Q E h => ?_) (fun cdv A outer s H vs Q E hr h => ?_)
  · obtain ⟨d, b, M, us, bk, rfl, _⟩ := h
    rfl
  · obtain ⟨d, b, M, us, bk, rfl, hd, hdT, hM, ft, nM, hB, hu, nU, hN, hU⟩ := h
    refine ⟨_, pss_one (ps_try_as (i := 3) (tb := fun W => tSeq (tIfS (tB (tVar 2)) (tRet (tLst (tCons (tC (.str (Str.ofString "told"))) (tCons (tCallS (spUnmade K T.C) (WE W) (tCons (tVar 0) (tCons (tVar 1) tNil))) tNil)))) tNext) (tRet (tLst (tCons (tC (.str (Str.ofString "told"))) (tCons (tCallS (spNeeds K T.C) (WE W) (tCons (tVar 0) (tCons (tVar 1) tNil))) tNil)))))
        (ts := fun a cls d => tRet (tLst (tCons (tC (.str (Str.ofString "refused"))) (tCons (tXf a cls d T.C "word" (tVar 3)) tNil)))) (Wout := fun _ _ _ _ => False) rfl rfl scTold.nd rfl rfl ⟨rfl, by decide, .inl T.R.gC⟩ takes0
        (fun W pn xe tk _ => pss_cons (ps_if (pt_val (pv 2)) (pss_one (ps_ret (pe_lst (pa_cons pe_str (pa_cons (by exact (pe_callS GU (hr.mono (by decide)) rfl T.gU T.U.kp T.bU (fun σ => passAt tk σ) (by exact (pa_cons (pv 0) (pa_cons (pv 1) pa_nil))))) pa_nil))))) pss_nil)
          (pss_one (ps_ret (pe_lst (pa_cons pe_str (pa_cons (by exact (pe_callS GN (hr.mono (by decide)) rfl T.gN T.N.kp T.bN (fun σ => passAt tk σ) (by exact (pa_cons (pv 0) (pa_cons (pv 1) pa_nil))))) pa_nil))))))
        (fun a oe cls d pn hz hf => pss_one (ps_ret (pe_lst (pa_cons pe_str (pa_cons (pe_xf Z.xf T.R.no hz hf (pv 3)) pa_nil)))))), ?_⟩
    refine ⟨.bl bk, rfl, bk, rfl, ?_⟩
    cases bk with
    | true =>
      obtain ⟨h1, h2, h3⟩ := hU rfl
      refine iteT ?_
      refine ⟨.ref d, rfl, .ref b, rfl, ?_⟩
      dsimp only [tNil]
      refine ⟨d, b, M, us, rfl, hdT rfl, hM, ft, nM, hB, hu, nU, fun hx => ?_, fun hx hn H' s' => ?_, fun hx H' p q s' ep hq => ?_⟩
      · intro H' dx s' nd ed
        refine ⟨true, Z.te, fun _ a na => ?_, fun w => Bool.noConfusion w⟩
        refine ⟨.ref a, rfl, rfl, rfl, dx, _, .str _, rfl, ed, word_field _, smallE (show 2 ≤ 1000000 by decide), fun p np => ?_⟩
        exact h1 hx _ p (s'.trans (same_new np)) upd_same
      · refine ⟨smallE (show 2 ≤ 1000000 by decide), fun p np => ?_⟩
        exact h2 hx hn _ p (s'.trans (same_new np)) upd_same
      · refine ⟨smallE (show 2 ≤ 1000000 by decide), fun r nr => ?_⟩
        exact h3 hx _ r p q (s'.trans (same_new nr)) upd_same (same_new nr _ _ ep) hq
    | false =>
      obtain ⟨h1, h2, h3⟩ := hN rfl
      refine iteF ?_
      refine ⟨.ref d, rfl, .ref b, rfl, ?_⟩
      dsimp only [tNil]
      have ref : ∀ {z : Str}, SaidR H Q z → ∀ (H' : Hp) (dx : Addr), Same H H' → H dx = none → H' dx = some (.xd [("word", .str z)]) → ∀ (a p : Addr), H' a = none → H' p = none → Q (.ref p) (upd H' p (.lst [.str (Str.ofString "refused"), .str z])) := fun h H' dx s' _ _ a p _ np => h _ p (s'.trans (same_new np)) upd_same
      refine ⟨d, b, M, us, rfl, hd, hM, ft, hB, hu, fun hx => ?_, fun hl j L hj hg h40 => ?_, fun hl H' p ts s' ep hR hall hg h40 hp => ?_⟩
      · intro H' dx s' nd ed
        refine ⟨true, Z.te, fun _ a na => ?_, fun w => Bool.noConfusion w⟩
        refine ⟨.ref a, rfl, rfl, rfl, dx, _, .str _, rfl, ed, word_field _, smallE (show 2 ≤ 1000000 by decide), fun p np => ?_⟩
        exact h1 hx _ p (s'.trans (same_new np)) upd_same
      · intro H' dx s' nd ed
        refine ⟨true, Z.te, fun _ a na => ?_, fun w => Bool.noConfusion w⟩
        refine ⟨.ref a, rfl, rfl, rfl, dx, _, .str _, rfl, ed, word_field _, smallE (show 2 ≤ 1000000 by decide), fun p np => ?_⟩
        exact h2 hl j L hj hg h40 _ p (s'.trans (same_new np)) upd_same
      · refine ⟨smallE (show 2 ≤ 1000000 by decide), fun r nr => ?_⟩
        exact h3 hl _ r p ts (s'.trans (same_new nr)) upd_same (same_new nr _ _ ep) (hR.mono (same_new nr)) hall hg h40 hp
end
end Kb
namespace Kb
open PySem PySem.Spec PyProof.Rows L2
section
variable {P : Program} {w : World} {K : PySem.W.Frag} {mg : Str → Option Value} {base : Heap}
theorem scLawIn : FnScope ["u", "v", "left", "deed"] ["u", "v"] (defScope sLawIn) := ⟨rfl, rfl, rfl, by decide +kernel, rfl, by decide +kernel, by decide +kernel⟩
def spLawIn (K : PySem.W.Frag) : Sp := fun vs H Q _ => ∃ (a b : Addr) (us zs : List Str), vs = [.ref a, .ref b] ∧ SqT K H a (us.map V.str) ∧ SqT K H b (zs.map V.str) ∧ ∀ H', Same H H' → Q (.bl (Kf.lies us zs)) H'
theorem ok_lawIn {f : Addr} {fd : FuncData} (F : Fun K "_law_within" "_law_within" sLawIn f fd) (ml : mg "len" = none) (mt : mg "list" = none) : FnOk P w K mg base CX0 1 f fd ["u", "v"] (spLawIn K) := by
  refine F.ok scLawIn (fun vs H Q E h => ?_) (fun cdv A outer s H vs Q E hr h => ?_)
  · obtain ⟨a, b, us, zs, rfl, _⟩ := h
    rfl
  · obtain ⟨a, b, us, zs, rfl, hA, hB, q⟩ := h
    refine ⟨_, pss_cons (ps_set (i := 2) scLawIn.nd rfl (.inl rfl) (pe_callTy call_list_of (by rfl) mt (by decide +kernel) (pa_cons (pv 0) pa_nil)))
      (pss_cons (ps_for PassesOwn.never rfl (pi_tup (Ka.pe_revT (pv 1))) (pg_name (i := 3) scLawIn.nd rfl (.inl rfl))
        (pss_one (ps_if (PW.pt (pw_and (pt_cmpR op_gt (pe_callB call_len_seq (by rfl) ml PySem.boot_len (pa_cons (pv 2) pa_nil)) pe_int (nomark _)) (pw_and1 (pt_cmpR op_eq (pe_ix ix_list (pv 2) (pe_op op_sub (pe_callB call_len_seq (by rfl) ml PySem.boot_len (pa_cons (pv 2) pa_nil)) pe_int) (fun _ _ => rfl)) (pv 3) (nomark _)))))
          (pss_one (ps_expr (pe_bm0 PySem.F.plainAttrs_list PySem.F.slot_list_pop PySem.F.type_list_pop mt_pop (pv 2)))) pss_nil)))
      (pss_one (ps_ret (pe_cmpR op_eq (pe_callB call_len_seq (by rfl) ml PySem.boot_len (pa_cons (pv 2) pa_nil)) pe_int (nomark _))))), ?_⟩
    refine ⟨.ref a, rfl, a, _, rfl, .inr hA, fun l nl => ?_⟩
    have s1 : Same H (upd H l (.lst (us.map V.str))) := same_new nl
    have el : upd H l (.lst (us.map V.str)) l = some (.lst (us.map V.str)) := upd_same
    generalize upd H l (.lst (us.map V.str)) = H1 at s1 el
    refine ⟨.ref b, rfl, b, _, rfl, Same.sqT s1 hB, fun r nr => ?_⟩
    have er : upd H1 r (.tup (zs.map V.str).reverse) r = some (.tup (zs.reverse.map V.str)) := by rw [upd_same, List.map_reverse]
    have s2 := s1.trans (same_new (o := .tup (zs.map V.str).reverse) nr)
    have el2 := same_new (o := .tup (zs.map V.str).reverse) nr _ _ el
    generalize upd H1 r (.tup (zs.map V.str).reverse) = H2 at er s2 el2
    have hlr : r ≠ l := fun e => by
      rw [e, el2] at er
      cases er
    refine ⟨r, rfl, ⟨_, sqT_new er⟩, ?_⟩
    refine for_tup (K := K) (a := r) (xs := zs.reverse.map V.str) (fun i σ H' => ∃ (c : Nat) (d : Option V), σ = [some (.ref a), some (.ref b), some (.ref l), d] ∧ But l H2 H' ∧ H' l = some (.lst ((us.take (us.length - c)).map V.str)) ∧ c ≤ us.length ∧ c + Kf.beg (us.reverse.drop c) (zs.reverse.drop i) = Kf.beg us.reverse zs.reverse)
      ⟨0, none, rfl, But.refl, by rw [Nat.sub_zero, List.take_length]; exact el2, Nat.zero_le _, by rw [List.drop_zero, List.drop_zero, Nat.zero_add]⟩ (fun i σ H' _ ⟨_, _, _, k, _⟩ => sqT_new (k _ _ hlr er)) ?_ ?_
    · rintro i x σ H' hx ⟨c, d, rfl, k, e1, hc, eq⟩
      obtain ⟨z, hz, rfl⟩ := get_map hx
      rw [drop_of_get hz, Kf.beg_step] at eq
      have hlen : ((us.take (us.length - c)).map V.str).length = us.length - c := by
        rw [List.length_map, List.length_take]
        omega
      refine ⟨.ref l, rfl, l, _, rfl, .inl (sqL_new e1), _, 0, rfl, rfl, _, rfl, ite2 (fun q => ?_) (fun q => ?_)⟩
      · have q := of_decide_eq_true q
        rw [hlen] at q
        have hcn : c < us.length := by omega
        have hg : us.reverse[c]? = some us[us.length - c - 1] := by
          rw [List.getElem?_reverse hcn, List.getElem?_eq_getElem (by omega)]
          congr 1
          congr 1
          omega
        have hg2 : ((us.take (us.length - c)).map V.str)[us.length - c - 1]? = some (.str us[us.length - c - 1]) := by
          rw [List.getElem?_map, List.getElem?_take, if_pos (by omega), List.getElem?_eq_getElem (by omega)]
          rfl
        refine ⟨.ref l, rfl, .ref l, rfl, l, _, rfl, .inl (sqL_new e1), _, 1, rfl, rfl, l, _, _, _, rfl, rfl, sqL_new e1, at_of (j := us.length - c - 1) (by rw [hlen]; omega) hg2, .str z, rfl, rfl, _, rfl, ite2 (fun q2 => ?_) (fun q2 => ?_)⟩
        · have e2 : us[us.length - c - 1] = z := V.str.inj (of_decide_eq_true q2)
          rw [hg, e2, if_pos rfl] at eq
          refine ⟨.ref l, rfl, .inl ⟨rfl, _, sqL_new e1⟩, l, _, _, rfl, rfl, e1, by rw [hlen]; exact hg2, ?_⟩
          refine ⟨c + 1, _, rfl, fun a' u ha e => ?_, ?_, hcn, by omega⟩
          · rw [upd_ne ha]
            exact k _ _ ha e
          · rw [upd_same, List.dropLast_eq_take, hlen, ← List.map_take, List.take_take]
            congr 4
            omega
        · have e2 : us[us.length - c - 1] ≠ z := fun e => q2 (decide_eq_true (by rw [e]))
          rw [hg, if_neg fun e => e2 (Option.some.inj e)] at eq
          exact ⟨c, _, rfl, k, e1, hc, eq⟩
      · have q : ¬ (0 : Int) < (((us.take (us.length - c)).map V.str).length : Nat) := fun z => q (decide_eq_true z)
        rw [hlen] at q
        rw [List.getElem?_eq_none (by rw [List.length_reverse]; omega), if_neg fun e => nomatch e] at eq
        exact ⟨c, _, rfl, k, e1, hc, eq⟩
    · rintro σ H' ⟨c, d, rfl, k, e1, hc, eq⟩
      rw [List.length_map, List.drop_length, Kf.beg_nil, Nat.add_zero] at eq
      have hlen : ((us.take (us.length - c)).map V.str).length = us.length - c := by
        rw [List.length_map, List.length_take]
        omega
      refine ⟨.ref l, rfl, l, _, rfl, .inl (sqL_new e1), rfl, ?_⟩
      rw [hlen]
      have e : decide (V.int ((us.length - c : Nat) : Int) = V.int 0) = Kf.lies us zs := by
        rw [← Kf.lies_rev]
        unfold Kf.lies
        rw [← eq, List.length_reverse]
        refine decide_eq_decide.mpr ⟨fun h => ?_, fun h => by rw [h, Nat.sub_self]; rfl⟩
        have := V.int.inj h
        omega
      rw [e]
      refine q _ fun c' u e => ?_
      exact k _ _ (ne_of_none e nl) (s2 _ _ e)
theorem catXX {H : Hp} {a b : Addr} {xs ys : List V} {Q : VK} (hx : H a = some (.tup xs)) (hy : H b = some (.tup ys)) (hl : xs.length + ys.length ≤ 100000) (q : ∀ H' p, Same H H' → H' p = some (.tup (xs ++ ys)) → Q (.ref p) H') : rCatA K (.ref a) (.ref b) H Q := by
  refine ⟨a, b, xs, ys, rfl, rfl, sqT_new hx, sqT_new hy, smallE (by omega), fun e => ?_, fun _ e => ?_, fun _ _ p np => ?_⟩
  · exact q H b (fun _ _ h => h) (by rw [e]; exact hy)
  · exact q H a (fun _ _ h => h) (by rw [e, List.append_nil]; exact hx)
  · exact q _ p (same_new np) upd_same
theorem scLawMade : FnScope ["making", "row", "found", "deed"] ["making", "row"] (defScope sLawMade) := ⟨rfl, rfl, rfl, by decide +kernel, rfl, by decide +kernel, by decide +kernel⟩
def spLawMade (K : PySem.W.Frag) : Sp := fun vs H Q _ => ∃ (d b : Addr) (M : MK) (zs : List Str), vs = [.ref d, .ref b] ∧ Rd H d (.dK (kvM M)) ∧ Stand H M ∧ Fit M ∧ SqT K H b (zs.map V.str) ∧ (∀ z ∈ zs, z ∈ M.map (·.1)) ∧ zs.length ≤ 1000 ∧
  ∀ (H' : Hp) (p : Addr), Same H H' → H' p = some (.tup ((Kf.mad (pm M) zs).map V.str)) → Q (.ref p) H'
theorem ok_lawMade {f : Addr} {fd : FuncData} (F : Fun K "_law_made" "_law_made" sLawMade f fd) : FnOk P w K mg base CX0 1 f fd ["making", "row"] (spLawMade K) := by
  refine F.ok scLawMade (fun vs H Q E h => ?_) (fun cdv A outer s H vs Q E hr h => ?_)
  · obtain ⟨d, b, M, zs, rfl, _⟩ := h
    rfl
  · obtain ⟨d, b, M, zs, rfl, hd, hM, ft, hB, hin, hz, q⟩ := h
    refine ⟨_, pss_cons (ps_set (i := 2) scLawMade.nd rfl (.inl rfl) (pe_tup pa_nil))
      (pss_cons (ps_for PassesOwn.never rfl (pi_tup (pv 1)) (pg_name (i := 3) scLawMade.nd rfl (.inl rfl))
        (pss_one (ps_set (i := 2) scLawMade.nd rfl (.inl rfl) (pe_op op_catA (pv 2) (pe_dget (hu_of hr) (pv 0) (pv 3) (fun _ _ => rfl))))))
      (pss_one (ps_ret (pv 2)))), ?_⟩
    refine ⟨Nat.zero_le _, fun o no => ?_⟩
    refine ⟨.ref b, rfl, b, rfl, ⟨_, Same.sqT (same_new no) hB⟩, ?_⟩
    refine for_tup (K := K) (a := b) (xs := zs.map V.str) (fun i σ H' => ∃ (p : Addr) (x : Option V), σ = [some (.ref d), some (.ref b), some (.ref p), x] ∧ Same H H' ∧ H' p = some (.tup ((Kf.mad (pm M) (zs.take i)).map V.str)))
      ⟨o, none, rfl, same_new no, upd_same⟩ (fun i σ H' _ ⟨_, _, _, s, _⟩ => Same.sqT s hB) ?_ ?_
    · rintro i x σ H' hx ⟨p, y, rfl, sm, ep⟩
      obtain ⟨z, hz2, rfl⟩ := get_map hx
      obtain ⟨t, ht, rfl⟩ := name_M (hin z (List.mem_of_getElem? hz2))
      have hlen := mad_len ft (zs := zs.take i) fun x hx => hin x (List.mem_of_mem_take hx)
      have hr5 := ft.rows t ht
      refine ⟨.ref p, rfl, .ref d, rfl, .str t.1, rfl, d, _, rfl, get_M (Rd.mono hd sm) ft.nd ht, ?_⟩
      refine catXX ep (sm _ _ (hM t ht)) ?_ fun H2 p2 s2 h2 => ?_
      · rw [List.length_map, List.length_map]
        rw [List.length_take] at hlen
        omega
      · refine ⟨p2, _, rfl, sm.trans s2, ?_⟩
        rw [take_of_get hz2, Kf.mad_snoc, look_M ft.nd ht, List.map_append]
        exact h2
    · rintro σ H' ⟨p, y, rfl, sm, ep⟩
      rw [List.length_map, List.take_length] at ep
      exact ⟨_, rfl, q _ p sm ep⟩
end
end Kb
namespace Kb
open PySem PySem.Spec PyProof.Rows L2
theorem all_at {X : Cx} {K : PySem.W.Frag} (h : X.K = K) (hc : X.calm = true) : CallR X (.builtin "all") (rAll K) := by
  subst h
  exact cr_all hc
theorem nd_sub {α : Type} [DecidableEq α] : ∀ {ys zs : List α}, ys.Nodup → (∀ x ∈ ys, x ∈ zs) → ys.length ≤ zs.length
  | [], _, _, _ => Nat.zero_le _
  | y :: ys, zs, nd, h => by
    have nd := List.nodup_cons.mp nd
    have hy := h y List.mem_cons_self
    have := nd_sub (zs := zs.erase y) nd.2 fun x hx => (List.mem_erase_of_ne fun (e : x = y) => nd.1 (by rw [← e]; exact hx)).mpr (h x (List.mem_cons_of_mem _ hx))
    rw [List.length_erase_of_mem hy] at this
    have hp : 0 < zs.length := List.length_pos_of_mem hy
    rw [List.length_cons]
    omega
/-- the scope of the comprehension over lines -/
def lineSc : Scope := { kind := .function, names := [(".0", .local), ("line", .cell), ("any", .globalImplicit), ("told", .cell)], isGenerator := false, isCoroutine := false }
section
variable {P : Program} {w : World} {K : PySem.W.Frag} {mg : Str → Option Value} {base : Heap}
structure LawC (K : PySem.W.Frag) (mg : Str → Option Value) where
  (fL fF fT fO fI fM : Addr)
  (dL dF dT dO dI dM : FuncData)
  T : NeedC K mg
  Z : CatchC K T.C
  L : Fun K "_law_lines" "_law_lines" sLines fL dL
  bL : Binds K dL ["making", "row"] []
  gL : mg "_law_lines" = some (.ref fL)
  F : Fun K "_law_fitted" "_law_fitted" sFitted fF dF
  bF : Binds K dF ["row", "place", "shown"] []
  gF : mg "_law_fitted" = some (.ref fF)
  D : Fun K "_law_told" "_law_told" sTold fT dT
  bD : Binds K dT ["making", "row", "back"] []
  gD : mg "_law_told" = some (.ref fT)
  O : Fun K "_law_order" "_law_order" sLawOrd fO dO
  bO : Binds K dO ["rows"] []
  gO : mg "_law_order" = some (.ref fO)
  I : Fun K "_law_within" "_law_within" sLawIn fI dI
  bI : Binds K dI ["u", "v"] []
  gI : mg "_law_within" = some (.ref fI)
  M : Fun K "_law_made" "_law_made" sLawMade fM dM
  bM : Binds K dM ["making", "row"] []
  gM : mg "_law_made" = some (.ref fM)
abbrev nNr : List Str := ["making", "row", "lines", "told", "one", "k", "line"]
theorem scNeedsR : FnScope nNr ["making", "row"] (defScope sNeedsR) := ⟨rfl, rfl, rfl, by decide +kernel, rfl, by decide +kernel, by decide +kernel⟩
def spNeedsR (K : PySem.W.Frag) : Sp := fun vs H Q _ => ∃ (d b : Addr) (M : MK) (us : List Str), vs = [.ref d, .ref b] ∧ H d = some (.dK (kvM M)) ∧ Stand H M ∧ Fit M ∧ M.length ≤ 3 ∧ (∀ t ∈ M, ∀ z ∈ t.2.2, isName z = true) ∧ (∀ t ∈ M, isName t.1 = true) ∧ SqT K H b (us.map V.str) ∧ us.length ≤ 4 ∧ (∀ z ∈ us, isName z = true) ∧ ∀ H', Same H H' → Q (.bl true) H'
theorem ok_needsR {f : Addr} {fd : FuncData} (F : Fun K "_law_needs_right" "_law_needs_right" sNeedsR f fd) (C : LawC K mg) : FnOk P w K mg base CX0 6 f fd ["making", "row"] (spNeedsR K) := by
  have N := C.T.no
  have GL : FnOk P w K mg base CX0 2 C.fL C.dL ["making", "row"] (spLines K) := ok_lines C.L C.F C.bF C.gF N
  have GT : FnOk P w K mg base CX0 5 C.fT C.dT ["making", "row", "back"] (spTold K) := ok_told C.D C.T C.Z
  have GO : FnOk P w K mg base CX0 1 C.fO C.dO ["rows"] (spLawOrd K) := ok_lawOrd C.O N
  have GI : FnOk P w K mg base CX0 1 C.fI C.dI ["u", "v"] (spLawIn K) := ok_lawIn C.I N.len N.list
  have GM : FnOk P w K mg base CX0 1 C.fM C.dM ["making", "row"] (spLawMade K) := ok_lawMade C.M
  refine F.ok scNeedsR (fun vs H Q E h => ?_) (fun cdv A outer s H vs Q E hr h => ?_)
  · obtain ⟨d, b, M, us, rfl, _⟩ := h
    rfl
  · obtain ⟨d, b, M, us, rfl, hd, hM, ft, hm3, nM, nN, hB, hu, nU, q⟩ := h
    have hr1 := hr.mono (show 1 ≤ 5 by decide)
    have hr2 := hr.mono (show 2 ≤ 5 by decide)
    refine ⟨_, pss_cons (ps_set (i := 2) scNeedsR.nd rfl (.inl rfl) (pe_call GL hr2 (by rfl) C.gL C.L.kp C.bL .nil pass0 (pa_cons (pv 0) (pa_cons (pv 1) pa_nil))))
      (pss_cons (ps_if (pt_cmpR op_gt (pe_callB call_len_seq (by rfl) N.len PySem.boot_len (pa_cons (pv 2) pa_nil)) pe_int (nomark _)) (pss_one (ps_ret pe_bl)) pss_nil)
      (pss_cons (ps_set (i := 3) scNeedsR.nd rfl (.inr rfl) (pe_call GT hr (by rfl) C.gD C.D.kp C.bD .nil pass0 (pa_cons (pv 0) (pa_cons (pv 1) (pa_cons pe_bl pa_nil)))))
      (pss_cons (ps_if (PW.pt (pw_or (pt_cmpR op_ne (pe_ix ix_list (pv 3) pe_int (fun _ _ => rfl)) pe_str (nomark _)) (pw_or1 (pt_cmpR (op_neD hr.units) (pe_ix ix_list (pv 3) pe_int (fun _ _ => rfl)) (pe_call GO hr1 (by rfl) C.gO C.O.kp C.bO .nil pass0 (pa_cons (pe_ix ix_list (pv 3) pe_int (fun _ _ => rfl)) pa_nil)) (nomark _))))) (pss_one (ps_ret pe_bl)) pss_nil)
      (pss_cons (ps_for PassesOwn.never rfl (pi_tup (pe_ix ix_list (pv 3) pe_int (fun _ _ => rfl))) (pg_name (i := 4) scNeedsR.nd rfl (.inl rfl))
        (pss_cons (ps_if (pt_not (pt_val (pe_call GI hr1 (by rfl) C.gI C.I.kp C.bI .nil pass0 (pa_cons (pv 1) (pa_cons (pe_call GM hr1 (by rfl) C.gM C.M.kp C.bM .nil pass0 (pa_cons (pv 0) (pa_cons (pv 4) pa_nil))) pa_nil))))) (pss_one (ps_ret pe_bl)) pss_nil)
        (pss_one (ps_for PassesOwn.never rfl (pi_range1 (by rfl) N.range (pa_cons (pe_callB call_len_seq (by rfl) N.len PySem.boot_len (pa_cons (pv 4) pa_nil)) pa_nil)) (pg_name (i := 5) scNeedsR.nd rfl (.inl rfl))
          (pss_one (ps_if (pt_val (pe_call GI hr1 (by rfl) C.gI C.I.kp C.bI .nil pass0 (pa_cons (pv 1) (pa_cons (pe_call GM hr1 (by rfl) C.gM C.M.kp C.bM .nil pass0 (pa_cons (pv 0) (pa_cons (pe_op op_catA (pe_slice sl_tupA (pv 4) po_none (po_some (pv 5))) (pe_slice sl_tupA (pv 4) (po_some (pe_op op_add (pv 5) pe_int)) po_none)) pa_nil))) pa_nil)))) (pss_one (ps_ret pe_bl)) pss_nil))))))
      (pss_one (ps_ret (pe_callB (cr_all rfl) (by rfl) N.all (by decide +kernel) (pa_cons
        (pe_lc (own := [("line", 6)]) (g := gName 6) (tt := tYes) rfl scNeedsR.nd (pi_list (pv 2)) (blkOk_by (own := [("line", 6)]) (N := nNr) (sc := defScope sNeedsR) (by decide +kernel)) (fun _ _ _ _ _ => pg_name (i := 6) scNeedsR.nd rfl (Or.inr rfl)) (fun _ _ _ _ _ => pts_nil)
          (fun _ _ _ _ _ => pe_callB (any_at (K := K) rfl rfl) (by rfl) N.any (by decide +kernel) (pa_cons
            (pe_lc (own := [("one", 4)]) (g := gName 4) (tt := tYes) rfl scNeedsR.nd (piT_at (K := K) rfl (pe_ix (ixL_at (K := K) rfl) (pv 3) pe_int (fun _ _ => rfl))) (blkOk_by (own := [("one", 4)]) (N := nNr) (sc := lineSc) (by decide +kernel)) (fun _ _ _ _ _ => pg_name (i := 4) scNeedsR.nd rfl (Or.inl rfl)) (fun _ _ _ _ _ => pts_nil)
              (fun _ _ _ _ _ => pe_call GI hr1 (by rfl) C.gI C.I.kp C.bI .nil pass0 (pa_cons (pv 4) (pa_cons (pv 6) pa_nil)))) pa_nil))) pa_nil)))))))), ?_⟩
    have lenU : ((us.map V.str).length : Nat) = us.length := List.length_map _
    refine ⟨.ref d, rfl, .ref b, rfl, d, b, M, us, rfl, hd, hM, ft, hm3, hB, hu, fun H1 lp ls s1 el hRl hll hall hl2 => ?_⟩
    refine ⟨.ref lp, rfl, lp, _, rfl, .inl (sqL_new el), _, 40, rfl, rfl, _, rfl, ite2 (fun c => q H1 s1) (fun c => ?_)⟩
    have hl40 : ls.length ≤ 40 := by
      have c : ¬ ((40 : Int) < ((adV ls).length : Nat)) := fun z => c (decide_eq_true z)
      rw [adV_len] at c
      omega
    refine ⟨.ref d, rfl, .ref b, rfl, d, b, M, us, false, rfl, .inl (s1 _ _ hd), (fun h => nomatch h), hM.mono s1, ft, nM, Same.sqT s1 hB, by omega, nU, fun _ => ⟨fun h => absurd h (by omega), fun _ j L hj hg h40 => absurd h40 ?_, fun _ H2 tp r ts s2 et er hR _ hg h40 hp => ?_⟩, fun h => nomatch h⟩
    · have nlen : (M.map (·.1)).length ≤ 3 := by rw [List.length_map]; exact hm3
      by_cases h3 : j ≤ 3
      · have h1 := hg.few
        rw [Kf.suf_len hj] at h1
        have h2 : (M.map (·.1)).length ^ j ≤ 3 ^ j := Nat.pow_le_pow_left nlen j
        have h4 : 3 ^ j ≤ 3 ^ 3 := Nat.pow_le_pow_right (by decide) h3
        have h5 : 3 ^ 3 = 27 := by decide
        omega
      · obtain rfl : j = us.length := by omega
        rw [Kf.suf_all] at hg
        have h1 := nd_sub (Kg.anti_nd hg.anti) fun x hx => hall x (hg.line x hx)
        rw [List.length_map] at h1
        omega
    have s12 := s1.trans s2
    have hts : ts.length ≤ 40 := h40
    have hnd := Kg.anti_nd hg.anti
    have hnames : ∀ g ∈ ts, ∀ z ∈ g.2, z ∈ M.map (·.1) := fun g hgm => (Kg.line_holds _ _ (hg.line g.2 (List.mem_map.mpr ⟨g, hgm, rfl⟩))).2.1
    have hnmN : ∀ g ∈ ts, ∀ z ∈ g.2, isName z = true := fun g hgm z hz => by
      obtain ⟨t, ht, rfl⟩ := name_M (hnames g hgm z hz)
      exact nN t ht
    have hlen4 : ∀ g ∈ ts, g.2.length ≤ 4 := fun g hgm => by
      have := (Kg.line_holds _ _ (hg.line g.2 (List.mem_map.mpr ⟨g, hgm, rfl⟩))).2.2
      omega
    refine ⟨.ref tp, rfl, tp, _, 0, _, rfl, rfl, sqL_new et, atI_nat (j := 0) rfl, rfl, _, rfl, ite2 (fun c => absurd c (by decide +kernel)) (fun _ => ?_)⟩
    refine ⟨.ref tp, rfl, tp, _, 1, _, rfl, rfl, sqL_new et, atI_nat (j := 1) rfl, .ref tp, rfl, tp, _, 1, _, rfl, rfl, sqL_new et, atI_nat (j := 1) rfl, r, ts, rfl, sqT_new er, hR, by omega, hp, hnd, hnmN, fun H3 p3 s3 e3 => ?_⟩
    have shT : SeqAt.shaped (.tuple ((ts.map (·.2)).map Ka.rowD)) = true := (shRows fun g hg' => by
      obtain ⟨g', hg'', rfl⟩ := List.mem_map.mp hg'
      exact hnmN g' hg'').2
    refine ⟨.tuple ((ts.map (·.2)).map Ka.rowD), .tuple ((ts.map (·.2)).map Ka.rowD), .tup (sqT_new (s3 _ _ er)) (dpAdV (hR.mono s3)), .tup (sqT_new e3) (dpAdV (hR.mono s3)), shT, shT, ?_⟩
    have eT : PyData.eqv (.tuple ((ts.map (·.2)).map Ka.rowD)) (.tuple ((ts.map (·.2)).map Ka.rowD)) = true := by
      rw [PyData.eqv, eqRows]
      exact decide_eq_true rfl
    rw [eT]
    refine ⟨_, rfl, iteF ?_⟩
    have s13 := s12.trans s3
    have et3 := s3 _ _ et
    have er3 := s3 _ _ er
    have hR3 := hR.mono s3
    have el3 := s3 _ _ (s2 _ _ el)
    have hRl3 := (hRl.mono s2).mono s3
    have hM3 := hM.mono s13
    have hd3 := s13 _ _ hd
    have hB3 := Same.sqT s13 hB
    refine ⟨.ref tp, rfl, tp, _, 1, _, rfl, rfl, sqL_new et3, atI_nat (j := 1) rfl, r, rfl, ⟨_, sqT_new er3⟩, ?_⟩
    refine for_tup (K := K) (a := r) (xs := adV ts) (fun i σ H' => ∃ (y4 y5 : Option V), σ = [some (.ref d), some (.ref b), some (.ref lp), some (.ref tp), y4, y5, none] ∧ Same H3 H')
      ⟨none, none, rfl, fun _ _ e => e⟩ (fun i σ H' _ ⟨_, _, _, k⟩ => sqT_new (k _ _ er3)) (fun i x σ H' hx h => ?_) (fun σ H' h => ?_)
    · obtain ⟨y4, y5, rfl, k⟩ := h
      obtain ⟨g, hg', rfl⟩ := get_map hx
      have hgm := List.mem_of_getElem? hg'
      have hgm2 : g.2 ∈ ts.map (·.2) := List.mem_map.mpr ⟨g, hgm, rfl⟩
      have h4 := hlen4 g hgm
      refine ⟨.ref b, rfl, .ref d, rfl, .ref g.1, rfl, d, g.1, M, g.2, rfl, .inl (k _ _ hd3), hM3.mono k, ft, sqT_new (k _ _ (hR3 g hgm)), hnames g hgm, by omega, fun H4 p4 s4 h4' => ?_⟩
      have h4' := sqT_new (K := K) h4'
      refine ⟨b, p4, us, _, rfl, Same.sqT (k.trans s4) hB3, h4', fun H5 s5 => ?_⟩
      have hh : Kf.lies us (Kf.mad (pm M) g.2) = true := hg.holds hgm2
      rw [hh]
      refine ⟨_, rfl, iteF ?_⟩
      have k5 := (k.trans s4).trans s5
      have eg5 := k5 _ _ (hR3 g hgm)
      refine ⟨.ref g.1, rfl, g.1, _, rfl, .inr (sqT_new eg5), (g.2.length : Nat), by rw [List.length_map], by omega, by omega, ?_⟩
      refine for_range (lo := 0) (n := g.2.length) (fun j σ H' => ∃ (y5 : Option V), σ = [some (.ref d), some (.ref b), some (.ref lp), some (.ref tp), some (.ref g.1), y5, none] ∧ Same H3 H')
        ⟨y5, rfl, k5⟩ (fun j σ H' hj h => ?_) (fun σ H' h => ?_)
      · obtain ⟨y5, rfl, k⟩ := h
        have e0 : (0 : Int) + (j : Int) = ((j : Nat) : Int) := by omega
        rw [e0]
        have egj := k _ _ (hR3 g hgm)
        refine ⟨.ref b, rfl, .ref d, rfl, .ref g.1, rfl, .int (j : Nat), rfl, _, rfl, ?_⟩
        refine takeX egj fun H6 p6 s6 e6 => ?_
        refine ⟨.ref g.1, rfl, .int (j : Nat), rfl, _, 1, rfl, rfl, _, rfl, ?_⟩
        dsimp only [tNoPart]
        rw [show ((j : Int) + 1) = ((j + 1 : Nat) : Int) by omega]
        refine dropX (s6 _ _ egj) fun H7 p7 s7 e7 => ?_
        refine catX (s7 _ _ e6) e7 (by rw [List.length_take, List.length_drop, List.length_map]; omega) fun H8 p8 s8 e8 => ?_
        have k8 := ((k.trans s6).trans s7).trans s8
        have e8' : H8 p8 = some (.tup ((g.2.take j ++ g.2.drop (j + 1)).map V.str)) := by rw [e8, List.map_append, List.map_take, List.map_drop]
        have hsub : (g.2.take j ++ g.2.drop (j + 1)).Sublist g.2 := by
          have h1 : (g.2.take j ++ g.2.drop (j + 1)).Sublist (g.2.take j ++ g.2.drop j) := (List.Sublist.refl _).append (by
            rw [List.drop_eq_getElem_cons hj]
            exact List.sublist_cons_self _ _)
          rwa [List.take_append_drop] at h1
        have hln : (g.2.take j ++ g.2.drop (j + 1)).length < g.2.length := by
          rw [List.length_append, List.length_take, List.length_drop]
          omega
        refine ⟨d, p8, M, _, rfl, .inl (k8 _ _ hd3), hM3.mono k8, ft, sqT_new e8', fun z hz => hnames g hgm z (hsub.subset hz), by omega, fun H9 p9 s9 h9 => ?_⟩
        have h9 := sqT_new (K := K) h9
        refine ⟨b, p9, us, _, rfl, Same.sqT (k8.trans s9) hB3, h9, fun H10 s10 => ?_⟩
        have hh : Kf.lies us (Kf.mad (pm M) (g.2.take j ++ g.2.drop (j + 1))) = false := hg.least hgm2 hsub hln
        rw [hh]
        exact ⟨_, rfl, iteF ⟨_, rfl, (k8.trans s9).trans s10⟩⟩
      · obtain ⟨y5, rfl, k⟩ := h
        exact ⟨_, _, rfl, k⟩
    · obtain ⟨y4, y5, rfl, k⟩ := h
      refine ⟨.ref lp, rfl, lp, rfl, ⟨_, sqL_new (k _ _ el3)⟩, fun D nD => ?_⟩
      refine lc_it (walk_list (K := K) (a := lp) (xs := adV ls)) (fun i Z => Same H' Z ∧ Z D = some (.lst ((List.replicate i true).map V.bl)))
        ⟨same_new nD, upd_same⟩ (fun i Z _ h => sqL_new (h.1 _ _ (k _ _ el3))) (fun i y Z Z' hi h yy => ?_) (fun Z h => ?_)
      · obtain ⟨rfl, hy⟩ := yy
        obtain ⟨l, hl, rfl⟩ := get_map hy
        have hlm := List.mem_of_getElem? hl
        have hil := lt_of_get hl
        obtain ⟨sZ, eD⟩ := h
        have kZ := k.trans sZ
        refine ⟨rfl, .ref tp, rfl, tp, _, 1, _, rfl, rfl, sqL_new (kZ _ _ et3), atI_nat (j := 1) rfl, r, rfl, ⟨_, sqT_new (kZ _ _ er3)⟩, fun D2 nD2 => ?_⟩
        refine lc_it (walk_tup (K := K) (a := r) (xs := adV ts)) (fun j W => Same Z' W ∧ W D2 = some (.lst (((ts.take j).map fun g => Kf.lies g.2 l.2).map V.bl)))
          ⟨same_new nD2, upd_same⟩ (fun j W _ h => sqT_new (h.1 _ _ (kZ _ _ er3))) (fun j y W W' hj h yy => ?_) (fun W h => ?_)
        · obtain ⟨rfl, hy⟩ := yy
          obtain ⟨g, hg', rfl⟩ := get_map hy
          have hgm := List.mem_of_getElem? hg'
          obtain ⟨sW, eD2⟩ := h
          have kW := kZ.trans sW
          refine ⟨rfl, .ref g.1, rfl, .ref l.1, rfl, g.1, l.1, g.2, l.2, rfl, sqT_new (kW _ _ (hR3 g hgm)), sqT_new (kW _ _ (hRl3 l hlm)), fun H4 s4 => ?_⟩
          refine ⟨_, s4 _ _ eD2, ?_, fun c u e => ?_, ?_⟩
          · rw [List.length_map, List.length_map, List.length_take]
            exact small (by omega)
          · rw [upd_ne (ne_of_none e nD2)]
            exact s4 _ _ (sW _ _ e)
          · rw [upd_same, take_of_get hg', List.map_append, List.map_append]
            rfl
        · obtain ⟨sW, eD2⟩ := h
          rw [adV_len, List.take_length] at eD2
          have hany : (ts.map fun g => Kf.lies g.2 l.2).any id = true := by
            have hline := hll l hlm
            have hh := Kg.line_holds _ _ hline
            obtain ⟨x, hx, hs⟩ := hg.cover l.2 hh.2.1 hh.1
            obtain ⟨g, hgm, rfl⟩ := List.mem_map.mp hx
            rw [List.any_map, List.any_eq_true]
            exact ⟨g, hgm, Kf.lies_iff.mpr hs⟩
          refine ⟨D2, _, rfl, sqL_new eD2, ?_⟩
          rw [hany]
          refine ⟨_, sW _ _ eD, ?_, fun c u e => ?_, ?_⟩
          · rw [List.length_map, List.length_replicate]
            exact small (by omega)
          · rw [upd_ne (ne_of_none e nD)]
            exact sW _ _ (sZ _ _ e)
          · rw [upd_same, List.replicate_succ', List.map_append]
            rfl
      · obtain ⟨sZ, eD⟩ := h
        refine ⟨D, _, rfl, sqL_new eD, ?_⟩
        have : (List.replicate (adV ls).length true).all id = true := by
          rw [List.all_eq_true]
          intro x hx
          exact List.eq_of_mem_replicate hx
        rw [this]
        exact q Z ((s13.trans k).trans sZ)
end
end Kb
/-! A call of a def by keywords alone. -/
namespace Ka
open PySem PySem.Spec PyProof.Rows L2
section
variable {X : Cx} {CX : CXT} {k : Nat} {f : Addr} {fd : FuncData} {ps ks : List Str} {sp : Sp} {E : XK} {x : Str} {p pos : Pos} {kws : List Keyword} {tk : TA} {g : List Value → List Value → List Value} {gV : List V → List V → List V}
def tCallK0 (sp : Sp) (gV : List V → List V → List V) (E : XK) (tk : TA) : TE := fun σ H Q => tk σ H fun zs H2 => sp (gV [] zs) H2 Q E
theorem pe_callK0 (F : FnOk X.prog X.w X.K X.mg X.base CX k f fd ps sp) (hr : Room k X.A) (hg : Gl X x) (hm : X.mg x = some (.ref f)) (hk : PySem.W.keepIn X.K (.ref f) = true) (hb : KBinds X.K fd ps ks g gV) (hx : Passes CX X E) (hkw : PK X kws tk)
    (hall : (backToKw pos (keywordEach kws X.env)).all (·.1.isSome) = true := by rfl) (hks : (backToKw pos (keywordEach kws X.env)).filterMap (·.1) = ks := by rfl) (hdb : (x == ("__debug__" : Str)) = false := by decide)
    (hpl : ((backTo pos (starEach [] X.env)).any (·.1) || (backToKw pos (keywordEach kws X.env)).any (·.1.isNone)) = false := by rfl) : PE X (.Call (.Name x p) [] kws pos) (tCallK0 sp gV E tk) := by
  constructor
  intro pins s σ H Q I h
  apply wpAny_Call_Name_kw
  apply ld_glob I hg hm ?_ hdb
  apply PySem.W.callWith_KW0 (h₀ := X.base) I.ok.mod.kin hk hall ?_ hpl
  apply thn (hkw.run pos pins s σ H _ I h)
  rintro ws s2 ⟨zs, H2, I2, rz, q2⟩
  rw [hks]
  exact ⟨I2.kIn, run_fnk F hr hb hx I2 .nil rz q2⟩
end
/-- two parameters, given by name in the other order -/
def swG {α : Type} (us ws : List α) : List α := match us, ws with
  | [], [a, b] => [b, a]
  | _, _ => []
theorem kb_swap {K : PySem.W.Frag} {fd : FuncData} {a b : Str} (h : ∀ x y : Value, bindArgs fd ⟨[], [(b, x), (a, y)]⟩ = pure [(a, y), (b, x)]) : KBinds K fd [a, b] [b, a] swG swG := by
  constructor
  · intro s us ws _ hl
    match us, ws, hl with
    | [], [x, y], _ => exact BindsTo.of_eq (h x y)
    | [], [], hl => exact absurd hl (by simp [swG])
    | [], [_], hl => exact absurd hl (by simp [swG])
    | [], _ :: _ :: _ :: _, hl => exact absurd hl (by simp [swG])
    | _ :: _, _, hl => exact absurd hl (by simp [swG])
  · intro vs us zs ws r rz
    cases r with
    | nil =>
      cases rz with
      | nil => exact .nil
      | cons a r =>
        cases r with
        | nil => exact .nil
        | cons b r =>
          cases r with
          | nil => exact .cons b (.cons a .nil)
          | cons _ _ => exact .nil
    | cons _ _ => exact .nil
/-- one parameter, given by name -/
def snG {α : Type} (us ws : List α) : List α := match us, ws with
  | [], [a] => [a]
  | _, _ => []
theorem kb_one {K : PySem.W.Frag} {fd : FuncData} {a : Str} (h : ∀ x : Value, bindArgs fd ⟨[], [(a, x)]⟩ = pure [(a, x)]) : KBinds K fd [a] [a] snG snG := by
  constructor
  · intro s us ws _ hl
    match us, ws, hl with
    | [], [x], _ => exact BindsTo.of_eq (h x)
    | [], [], hl => exact absurd hl (by simp [snG])
    | [], _ :: _ :: _, hl => exact absurd hl (by simp [snG])
    | _ :: _, _, hl => exact absurd hl (by simp [snG])
  · intro vs us zs ws r rz
    cases r with
    | nil =>
      cases rz with
      | nil => exact .nil
      | cons a r =>
        cases r with
        | nil => exact .cons a .nil
        | cons _ _ => exact .nil
    | cons _ _ => exact .nil
end Ka
namespace Kg
open Kf
variable {α : Type} [DecidableEq α]
/-- each row has one deed -/
def Sing (m : List (α × List α)) (ns : List α) : Prop := ∀ d ∈ ns, ∃ c, look m d = [c]
theorem beg_one {x c : α} {s : List α} : 0 < beg (x :: s) [c] ↔ x = c := by
  rw [beg]
  by_cases h : x = c
  · rw [if_pos h]
    exact ⟨fun _ => h, fun _ => Nat.succ_pos _⟩
  · rw [if_neg h, beg_nil]
    exact ⟨fun z => absurd z (Nat.lt_irrefl 0), fun z => absurd z h⟩
theorem beg_one_rest {c : α} {s : List α} : (c :: s).drop (beg (c :: s) [c]) = s := by
  rw [beg, if_pos rfl, beg_nil]
  rfl
theorem line_mad {m : List (α × List α)} {ns : List α} (h1 : Sing m ns) : ∀ {r s : List α}, Line m ns s r → mad m r = s
  | [], s, h => by
    have h : s = [] := h
    rw [h]
    rfl
  | d :: r, s, h => by
    obtain ⟨hd, hb, hr⟩ := h
    obtain ⟨c, hc⟩ := h1 d hd
    cases s with
    | nil =>
      rw [beg] at hb
      exact absurd hb (Nat.lt_irrefl 0)
    | cons x s =>
      rw [hc] at hb
      obtain rfl := beg_one.mp hb
      have e : rest m (x :: s) d = s := by
        unfold rest
        rw [hc]
        exact beg_one_rest
      rw [e] at hr
      rw [mad_cons, line_mad h1 hr, hc]
      rfl
theorem mad_drop {m : List (α × List α)} {ns : List α} (h1 : Sing m ns) : ∀ {q : List α}, (∀ d ∈ q, d ∈ ns) → (mad m q).length = q.length ∧ ∀ k, (mad m q).drop k = mad m (q.drop k)
  | [], _ => ⟨rfl, fun k => by rw [List.drop_nil]; exact List.drop_nil⟩
  | d :: q, h => by
    obtain ⟨c, hc⟩ := h1 d (h d List.mem_cons_self)
    obtain ⟨i1, i2⟩ := mad_drop h1 (q := q) fun x hx => h x (List.mem_cons_of_mem _ hx)
    rw [mad_cons, hc]
    refine ⟨by rw [List.length_append, i1, List.length_cons]; exact Nat.add_comm _ _, fun k => ?_⟩
    cases k with
    | zero => rw [List.drop_zero, List.drop_zero, mad_cons, hc]
    | succ k =>
      show (mad m q).drop k = _
      rw [i2]
      rfl
theorem good_only {m : List (α × List α)} {ns : List α} (h1 : Sing m ns) {q : List α} (hq : ∀ d ∈ q, d ∈ ns) (hu : ∀ r, (∀ d ∈ r, d ∈ ns) → mad m r = mad m q → r = q) {L : List (List α)} (g : Good m ns (mad m q) L) : L = [q] := by
  have key : ∀ r ∈ L, r = q := fun r hr => hu r (line_holds m ns (g.line r hr)).2.1 (line_mad h1 (g.line r hr))
  obtain ⟨t, ht, _⟩ := g.cover q hq (by
    unfold holds
    exact lies_iff.mpr (List.Sublist.refl _))
  have nd := anti_nd g.anti
  cases hL : L with
  | nil => rw [hL] at ht; cases ht
  | cons a l =>
    rw [hL] at key nd
    have ea := key a List.mem_cons_self
    cases l with
    | nil => rw [ea]
    | cons b l =>
      have eb := key b (List.mem_cons_of_mem _ List.mem_cons_self)
      rw [ea, eb] at nd
      exact absurd List.mem_cons_self (List.nodup_cons.mp nd).1
end Kg
namespace Kb
open PySem PySem.Spec PyProof.Rows L2
section
variable {P : Program} {w : World} {K : PySem.W.Frag} {mg : Str → Option Value} {base : Heap}
abbrev nLr : List Str := ["box", "names", "size", "making", "at", "line", "row", "turn"]
theorem scLongR : FnScope nLr ["box", "names", "size"] (defScope sLongR) := ⟨rfl, rfl, rfl, by decide +kernel, rfl, by decide +kernel, by decide +kernel⟩
def spLongR : Sp := fun vs H Q _ => ∃ (x a : Addr) (n : Nat) (ns : List Str), vs = [.ref x, .ref a, .int (n : Nat)] ∧ Box H x ∧ H a = some (.lst (ns.map V.str)) ∧ a ≠ x ∧ ns.length = 4 ∧ ns.Nodup ∧ (∀ z ∈ ns, isName z = true) ∧ n ≤ 24 ∧ ∀ H', But x H H' → Box H' x → Q (.bl true) H'
theorem ok_longR {f fT : Addr} {fd fdT : FuncData} (F : Fun K "_law_long_right" "_law_long_right" sLongR f fd) (FT : Fun K "_law_take" "_law_take" sTake fT fdT) (bT : Binds K fdT ["box", "many"] []) (gT : mg "_law_take" = some (.ref fT)) (C : LawC K mg) (kN : KBinds K C.T.dN ["making", "row"] ["row", "making"] Ka.swG Ka.swG) (kU : KBinds K C.T.dU ["making", "row"] ["row", "making"] Ka.swG Ka.swG) : FnOk P w K mg base CX0 5 f fd ["box", "names", "size"] spLongR := by
  have N := C.T.no
  have GT : FnOk P w K mg base CX0 1 fT fdT ["box", "many"] spTake := ok_take FT N.int
  have GM : FnOk P w K mg base CX0 1 C.fM C.dM ["making", "row"] (spLawMade K) := ok_lawMade C.M
  have GN : FnOk P w K mg base (L2.CX P w) 4 C.T.fN C.T.dN ["making", "row"] (spNeeds K C.T.C) := C.T.ok
  have GU : FnOk P w K mg base (L2.CX P w) 4 C.T.fU C.T.dU ["making", "row"] (spUnmade K C.T.C) := C.T.okU
  refine F.ok scLongR (fun vs H Q E h => ?_) (fun cdv A outer s H vs Q E hr h => ?_)
  · obtain ⟨x, a, n, ns, rfl, _⟩ := h
    rfl
  · obtain ⟨x, a, n, ns, rfl, hx, ha, hax, hl4, hnd, hnm, hn, q⟩ := h
    have hr1 := hr.mono (show 1 ≤ 4 by decide)
    refine ⟨_, pss_cons (ps_set (i := 3) scLongR.nd rfl (.inl rfl) pe_dnewK)
      (pss_cons (ps_for PassesOwn.never rfl (pi_range1 (by rfl) N.range (pa_cons pe_int pa_nil)) (pg_name (i := 4) scLongR.nd rfl (.inl rfl))
        (pss_one (ps_dput (hu_of hr) (pv 3) (pe_ix ix_list (pv 1) (pe_op op_mul pe_int (pv 4)) (fun _ _ => rfl)) (pe_tup (pa_cons (pe_ix ix_list (pv 1) (pe_op op_add (pe_op op_mul pe_int (pv 4)) pe_int) (fun _ _ => rfl)) pa_nil)) rfl)))
      (pss_cons (ps_set (i := 5) scLongR.nd rfl (.inl rfl) (pe_callTy call_tuple_of (by rfl) N.tuple (by decide +kernel) (pa_cons
        (pe_lc (own := [("turn", 7)]) (g := gName 7) (tt := tYes) rfl scLongR.nd (pi_range1 (by rfl) N.range (pa_cons (pv 2) pa_nil)) (blkOk_by (own := [("turn", 7)]) (N := nLr) (sc := defScope sLongR) (by decide +kernel)) (fun _ _ _ _ _ => pg_name (i := 7) scLongR.nd rfl (Or.inl rfl)) (fun _ _ _ _ _ => pts_nil)
          (fun _ _ _ _ _ => pe_ix (ixL_at (K := K) rfl) (pv 1) (pe_op op_mul pe_int (pe_call GT hr1 (by rfl) gT FT.kp bT .nil pass0 (pa_cons (pv 0) (pa_cons pe_int pa_nil)))) (fun _ _ => rfl))) pa_nil)))
      (pss_cons (ps_set (i := 6) scLongR.nd rfl (.inl rfl) (pe_call GM hr1 (by rfl) C.gM C.M.kp C.bM .nil pass0 (pa_cons (pv 3) (pa_cons (pv 5) pa_nil))))
      (pss_one (ps_ret (pe_and (pe_cmpR (op_eqD hr.units) (Ka.pe_callK0 (E := fun _ _ _ => False) GN hr (by rfl) C.T.gN C.T.N.kp kN (passes_call LamX.takes0 (fun _ _ _ _ h => h)) (pk_cons (pv 6) (pk_cons (pv 3) pk_nil))) (pe_tup (pa_cons (pv 5) pa_nil)) (nomark _))
        (pe_one (pe_cmpR (op_eqD hr.units) (Ka.pe_callK0 (E := fun _ _ _ => False) GU hr (by rfl) C.T.gU C.T.U.kp kU (passes_call LamX.takes0 (fun _ _ _ _ h => h)) (pk_cons (pv 6) (pk_cons (pv 3) pk_nil))) (pv 5) (nomark _))))))))), ?_⟩
    obtain ⟨n0, n1, n2, n3, rfl⟩ : ∃ n0 n1 n2 n3, ns = [n0, n1, n2, n3] := by
      match ns, hl4 with
      | [n0, n1, n2, n3], _ => exact ⟨n0, n1, n2, n3, rfl⟩
    have h02 : n0 ≠ n2 := fun e => by
      subst e
      simp at hnd
    have h13 : n1 ≠ n3 := fun e => by
      subst e
      simp at hnd
    obtain ⟨PM, hPM⟩ : ∃ PM : List (Str × List Str), PM = [(n0, [n1]), (n2, [n3])] := ⟨_, rfl⟩
    refine fun g ng => ?_
    have hgx : g ≠ x := hx.ne ng
    have k0 : But x H (upd H g (.dK [])) := But.of (same_new ng)
    have eg0 : upd H g (.dK []) g = some (.dK (kvM [])) := upd_same
    have b0 : Box (upd H g (.dK [])) x := hx.upd hgx
    have hag : a ≠ g := ne_of_none ha ng
    have ha0 := k0 _ _ hax ha
    generalize upd H g (.dK []) = H0 at k0 eg0 b0 ha0
    refine ⟨2, rfl, by decide, by decide, ?_⟩
    refine for_range (lo := 0) (n := 2) (fun i σ H' => ∃ (x4 : Option V) (M : MK), σ = [some (.ref x), some (.ref a), some (.int (n : Nat)), some (.ref g), x4, none, none, none] ∧ But x H H' ∧ Box H' x ∧ H' g = some (.dK (kvM M)) ∧ Stand H' M ∧ pm M = PM.take i)
      ⟨none, [], rfl, k0, b0, eg0, (fun t ht => nomatch ht), rfl⟩ (fun i σ H' hi h => ?_) (fun σ H' h => ?_)
    · obtain ⟨x4, M, rfl, k, b, eg, sM, hM⟩ := h
      have ha' := k _ _ hax ha
      obtain ⟨y0, y1, g0, g1, htk, hnot⟩ : ∃ y0 y1, [n0, n1, n2, n3][2 * i]? = some y0 ∧ [n0, n1, n2, n3][2 * i + 1]? = some y1 ∧ PM.take (i + 1) = PM.take i ++ [(y0, [y1])] ∧ y0 ∉ (PM.take i).map (·.1) := by
        rw [hPM]
        match i, hi with
        | 0, _ => exact ⟨n0, n1, rfl, rfl, rfl, fun z => nomatch z⟩
        | 1, _ => exact ⟨n2, n3, rfl, rfl, rfl, fun z => h02 (List.mem_singleton.mp z).symm⟩
      refine ⟨.ref a, rfl, .int (0 + (i : Int)), rfl, 2, (0 + (i : Int)), rfl, rfl, .inl (by decide), _, 1, rfl, rfl, a, _, _, _, rfl, rfl, sqL_new ha', at_of (j := 2 * i + 1) (by omega) (by rw [List.getElem?_map, g1]; rfl), smallE (show 1 ≤ 1000000 by decide), fun t nt => ?_⟩
      have s5 := same_new (o := .tup [V.str y1]) nt
      have et : upd H' t (.tup [V.str y1]) t = some (.tup [V.str y1]) := upd_same
      have b5 : Box (upd H' t (.tup [V.str y1])) x := b.upd (b.ne nt)
      generalize upd H' t (.tup [V.str y1]) = H5 at s5 et b5
      have eg5 := s5 _ _ eg
      refine ⟨.ref g, rfl, .ref a, rfl, .int (0 + (i : Int)), rfl, 2, (0 + (i : Int)), rfl, rfl, .inl (by decide), a, _, _, _, rfl, rfl, sqL_new (s5 _ _ ha'), at_of (j := 2 * i) (by omega) (by rw [List.getElem?_map, g0]; rfl), g, _, rfl, DPut.k (k := Sum.inr y0) eg5 ?_, ?_⟩
      · rw [kvM_len]
        have := congrArg List.length hM
        unfold pm at this
        rw [List.length_map, List.length_take] at this
        exact small (by omega)
      · have htg : t ≠ g := fun e => by rw [e, eg5] at et; cases et
        refine ⟨_, M ++ [(y0, t, [y1])], rfl, fun c u hc e => ?_, ?_, ?_, fun t' ht' => ?_, ?_⟩
        · rw [upd_ne (ne_of_none e ng)]
          exact s5 _ _ (k c u hc e)
        · obtain ⟨q0, q1, q2, q3⟩ := b5
          exact ⟨q0, q1, q2, by rw [upd_ne (Ne.symm hgx)]; exact q3⟩
        · rw [upd_same, putK_new]
          · unfold kvM
            rw [List.map_append]
            rfl
          · rw [kvM_keys, ← pm_names, hM]
            intro z
            obtain ⟨y, hy, e⟩ := List.mem_map.mp z
            exact hnot (Sum.inr.inj e ▸ hy)
        · rcases List.mem_append.mp ht' with z | z
          · have q1 := s5 _ _ (sM t' z)
            rw [upd_ne (fun e => by rw [e, eg5] at q1; cases q1)]
            exact q1
          · rw [List.mem_singleton.mp z, upd_ne htg]
            exact et
        · rw [htk, ← hM]
          unfold pm
          rw [List.map_append]
          rfl
    · obtain ⟨x4, M, rfl, k, b, eg, sM, hM⟩ := h
      have hM : pm M = [(n0, [n1]), (n2, [n3])] := by rw [hM, hPM]; rfl
      have hns : M.map (·.1) = [n0, n2] := by rw [← pm_names, hM]; rfl
      have ndM : (M.map (·.1)).Nodup := by
        rw [hns]
        simp [h02]
      have hrows : ∀ t ∈ M, t.2.2 = [n1] ∨ t.2.2 = [n3] := fun t ht => by
        have : (t.1, t.2.2) ∈ pm M := List.mem_map.mpr ⟨t, ht, rfl⟩
        rw [hM] at this
        rcases List.mem_cons.mp this with e | e
        · exact .inl (congrArg Prod.snd e)
        · exact .inr (congrArg Prod.snd (List.mem_singleton.mp e))
      have ft : Fit M := ⟨by
        have := congrArg List.length hM
        unfold pm at this
        rw [List.length_map] at this
        rw [this]
        exact (show 2 ≤ 12 by decide), ndM, fun t ht => by
        rcases hrows t ht with e | e <;> rw [e] <;> exact (show 1 ≤ 5 by decide)⟩
      have hl0 : Kf.look (pm M) n0 = [n1] := Kf.look_mem (by rw [pm_names]; exact ndM) (by rw [hM]; exact List.mem_cons_self)
      have hl2 : Kf.look (pm M) n2 = [n3] := Kf.look_mem (by rw [pm_names]; exact ndM) (by rw [hM]; exact List.mem_cons_of_mem _ List.mem_cons_self)
      have hsing : Kg.Sing (pm M) (M.map (·.1)) := fun d hd => by
        rw [hns] at hd
        rcases List.mem_cons.mp hd with e | e
        · exact ⟨n1, by rw [e]; exact hl0⟩
        · exact ⟨n3, by rw [List.mem_singleton.mp e]; exact hl2⟩
      have hex : Kf.Exact (pm M) := fun d hd => by
        rw [pm_names, hns] at hd
        rcases List.mem_cons.mp hd with e | e
        · subst e
          refine ⟨n1, by rw [hl0]; exact List.mem_cons_self, fun e he hne => ?_⟩
          rw [pm_names, hns] at he
          rcases List.mem_cons.mp he with z | z
          · exact absurd z hne
          · rw [List.mem_singleton.mp z, hl2]
            exact fun z => h13 (List.mem_singleton.mp z)
        · rw [List.mem_singleton.mp e]
          refine ⟨n3, by rw [hl2]; exact List.mem_cons_self, fun e he hne => ?_⟩
          rw [pm_names, hns] at he
          rcases List.mem_cons.mp he with z | z
          · rw [z, hl0]
            exact fun z => h13 (List.mem_singleton.mp z).symm
          · exact absurd (List.mem_singleton.mp z) hne
      have hn1 : isName n1 = true := hnm n1 (by simp)
      have hn3 : isName n3 = true := hnm n3 (by simp)
      have nM : ∀ t ∈ M, ∀ z ∈ t.2.2, isName z = true := fun t ht z hz => by
        rcases hrows t ht with e | e <;> rw [e] at hz <;> rw [List.mem_singleton.mp hz]
        · exact hn1
        · exact hn3
      have huniq : ∀ {u v : List Str}, (∀ d ∈ u, d ∈ M.map (·.1)) → (∀ d ∈ v, d ∈ M.map (·.1)) → Kf.mad (pm M) u = Kf.mad (pm M) v → u = v := fun hu hv e => Kg.made_uniq hex (by rw [pm_names]; exact hu) (by rw [pm_names]; exact hv) e
      refine ⟨.int (n : Nat), rfl, (n : Nat), rfl, by omega, by omega, fun D nD => ?_⟩
      have hDx := b.ne nD
      refine lc_it (walk_r0 (n := n)) (fun j Z => But x H' Z ∧ Box Z x ∧ ∃ zs : List Str, zs.length = j ∧ (∀ z ∈ zs, z ∈ M.map (·.1)) ∧ Z D = some (.lst (zs.map V.str)))
        ⟨But.of (same_new nD), b.upd hDx, [], rfl, (fun z hz => nomatch hz), upd_same⟩ (fun _ _ _ _ => True.intro) (fun j y Z Z' hj h yy => ?_) (fun Z h => ?_)
      · obtain ⟨rfl, rfl⟩ := yy
        obtain ⟨kZ, bZ, zs, hzl, hz, eD⟩ := h
        refine ⟨rfl, .ref a, rfl, .ref x, rfl, x, 2, rfl, bZ, by decide, by decide, fun r Z2 hr2 k2 b2 => ?_⟩
        obtain ⟨y, gy, hy⟩ : ∃ y, [n0, n1, n2, n3][2 * r]? = some y ∧ y ∈ M.map (·.1) := by
          rw [hns]
          match r, hr2 with
          | 0, _ => exact ⟨n0, rfl, by simp⟩
          | 1, _ => exact ⟨n2, rfl, by simp⟩
        refine ⟨2, (r : Int), rfl, rfl, .inl (by decide), a, _, _, _, rfl, rfl, sqL_new ((kZ.trans k2) _ _ hax (k _ _ hax ha)), at_of (j := 2 * r) (by omega) (by rw [List.getElem?_map, gy]; rfl), ?_⟩
        refine ⟨_, k2 _ _ hDx eD, by rw [List.length_map]; exact small (by omega), fun c u hc e => ?_, b2.upd hDx, zs ++ [y], by rw [List.length_append, hzl]; rfl, fun z hz' => ?_, by rw [upd_same, List.map_append]; rfl⟩
        · rw [upd_ne (ne_of_none e nD)]
          exact k2 _ _ hc (kZ _ _ hc e)
        · rcases List.mem_append.mp hz' with w | w
          · exact hz z w
          · rw [List.mem_singleton.mp w]
            exact hy
      · obtain ⟨kZ, bZ, zs, hzl, hz, eD⟩ := h
        refine ⟨D, _, rfl, .inl ⟨sqL_new eD, fun l nl => ?_⟩⟩
        have sl := same_new (o := .tup (zs.map V.str)) nl
        have el : upd Z l (.tup (zs.map V.str)) l = some (.tup (zs.map V.str)) := upd_same
        have bl : Box (upd Z l (.tup (zs.map V.str))) x := bZ.upd (bZ.ne nl)
        have kl := kZ.trans (But.of sl)
        generalize upd Z l (.tup (zs.map V.str)) = H5 at sl el bl kl
        have eg5 := kl _ _ hgx eg
        have sM5 : Stand H5 M := fun t ht => kl _ _ (fun e => by
          have := sM t ht
          rw [e] at this
          obtain ⟨q0, q1, q2, q3⟩ := b
          rw [q3] at this
          cases this) (sM t ht)
        refine ⟨.ref g, rfl, .ref l, rfl, g, l, M, zs, rfl, .inl eg5, sM5, ft, sqT_new el, hz, by omega, fun H6 p6 s6 h6 => ?_⟩
        have h6 := sqT_new (K := K) h6
        obtain ⟨hlen, hdrop⟩ := Kg.mad_drop hsing hz
        have nU : ∀ z ∈ Kf.mad (pm M) zs, isName z = true := fun z hz' => by
          unfold Kf.mad at hz'
          obtain ⟨d, hd, hz'⟩ := List.mem_flatMap.mp hz'
          obtain ⟨t, ht, rfl⟩ := name_M (hz d hd)
          rw [look_M ndM ht] at hz'
          exact nM t ht z hz'
        have eg6 := s6 _ _ eg5
        have only : ∀ {L : List (List Str)} {q : List Str}, (∀ d ∈ q, d ∈ M.map (·.1)) → Kg.Good (pm M) (M.map (·.1)) (Kf.mad (pm M) q) L → L = [q] := fun hq hg => Kg.good_only hsing hq (fun r hr e => huniq hr hq e) hg
        refine ⟨.ref p6, rfl, .ref g, rfl, g, p6, M, Kf.mad (pm M) zs, rfl, .inl eg6, sM5.mono s6, ft, h6, by omega, fun h => absurd h (by omega), fun _ j L hj hg h40 => absurd h40 ?_, fun _ H7 p7 ts s7 e7 hR7 _ hg7 h40 hp7 => ?_⟩
        · unfold Kf.suf at hg
          rw [hdrop] at hg
          rw [only (fun d hd => hz d (List.mem_of_mem_drop hd)) hg]
          exact (show ¬ 40 < 1 by decide)
        have ets := only hz hg7
        have hzN : ∀ z ∈ zs, isName z = true := fun z hz' => by
          have := hz z hz'
          rw [hns] at this
          exact hnm z (by
            rcases List.mem_cons.mp this with e | e
            · rw [e]; simp
            · rw [List.mem_singleton.mp e]; simp)
        refine ⟨.ref l, rfl, smallE (show 1 ≤ 1000000 by decide), fun t nt => ?_⟩
        have s8 := s7.trans (same_new (o := .tup [V.ref l]) nt)
        have e8 := same_new (o := .tup [V.ref l]) nt _ _ e7
        have hR8 := hR7.mono (same_new (o := .tup [V.ref l]) nt)
        have et : upd H7 t (.tup [V.ref l]) t = some (.tup [V.ref l]) := upd_same
        generalize upd H7 t (.tup [V.ref l]) = H8 at s8 e8 hR8 et
        have el8 := s8 _ _ (s6 _ _ el)
        have shT : SeqAt.shaped (.tuple ((ts.map (·.2)).map Ka.rowD)) = true := (shRows fun g' hg' => by
          rw [ets] at hg'
          rw [List.mem_singleton.mp hg']
          exact hzN).2
        have shZ : SeqAt.shaped (.tuple (([zs] : List (List Str)).map Ka.rowD)) = true := (shRows fun g' hg' => by
          rw [List.mem_singleton.mp hg']
          exact hzN).2
        refine ⟨.tuple ((ts.map (·.2)).map Ka.rowD), .tuple (([zs] : List (List Str)).map Ka.rowD), .tup (sqT_new e8) (dpAdV hR8), .tup (sqT_new et) (.cons (.tup (sqT_new el8) (dpRs _)) .nil), shT, shZ, ?_⟩
        have eT : PyData.eqv (.tuple ((ts.map (·.2)).map Ka.rowD)) (.tuple (([zs] : List (List Str)).map Ka.rowD)) = true := by
          rw [PyData.eqv, eqRows]
          exact decide_eq_true ets
        rw [eT]
        refine ⟨_, rfl, iteT ?_⟩
        refine ⟨.ref p6, rfl, .ref g, rfl, g, p6, M, Kf.mad (pm M) zs, rfl, s8 _ _ eg6, (sM5.mono s6).mono s8, ft, nM, Same.sqT s8 h6, by omega, nU, fun h => absurd hex h, fun _ h => absurd ⟨hz, rfl⟩ (h zs), fun _ H9 p9 q9 s9 e9 hq => ?_⟩
        have eq9 : q9 = zs := huniq hq.1 hz hq.2
        subst eq9
        refine ⟨.ref l, rfl, Ka.rowD q9, Ka.rowD q9, .tup (sqT_new e9) (dpRs _), .tup (sqT_new (s9 _ _ el8)) (dpRs _), shR hzN, shR hzN, ?_⟩
        rw [eqR, decide_eq_true rfl]
        have sA := (s6.trans s8).trans s9
        exact q H9 ((k.trans kl).trans (But.of sA)) (bl.mono sA)
end
end Kb
/-! Needs of single deeds (own text; no part of the kit). -/
namespace Kg
open Kf
variable {α : Type} [DecidableEq α]
def hits (m : List (α × List α)) (ns : List α) (c : α) : List α := ns.filter fun d => decide (look m d = [c])
def ext (m : List (α × List α)) (ns : List α) (c : α) (L : List (List α)) : List (List α) := (hits m ns c).flatMap fun d => L.map (d :: ·)
theorem ext_mem {m : List (α × List α)} {ns : List α} {c : α} {L : List (List α)} {r : List α} : r ∈ ext m ns c L ↔ ∃ d q, d ∈ ns ∧ look m d = [c] ∧ q ∈ L ∧ r = d :: q := by
  unfold ext hits
  rw [List.mem_flatMap]
  constructor
  · rintro ⟨d, hd, h⟩
    obtain ⟨q, hq, rfl⟩ := List.mem_map.mp h
    rw [List.mem_filter, decide_eq_true_iff] at hd
    exact ⟨d, q, hd.1, hd.2, hq, rfl⟩
  · rintro ⟨d, q, h1, h2, h3, rfl⟩
    exact ⟨d, List.mem_filter.mpr ⟨h1, decide_eq_true h2⟩, List.mem_map.mpr ⟨q, h3, rfl⟩⟩
theorem ext_len (m : List (α × List α)) (ns : List α) (c : α) (L : List (List α)) : (ext m ns c L).length = (hits m ns c).length * L.length := by
  unfold ext
  rw [List.length_flatMap]
  simp only [List.length_map]
  rw [List.map_const', List.sum_replicate_nat]
theorem nd_prod {L : List (List α)} (hL : L.Nodup) : ∀ {D : List α}, D.Nodup → (D.flatMap fun d => L.map (d :: ·)).Nodup
  | [], _ => List.nodup_nil
  | d :: D, h => by
    rw [List.nodup_cons] at h
    rw [List.flatMap_cons, List.nodup_append]
    refine ⟨?_, nd_prod hL h.2, fun a ha b hb => ?_⟩
    · rw [List.nodup_iff_pairwise_ne, List.pairwise_map]
      rw [List.nodup_iff_pairwise_ne] at hL
      exact hL.imp fun h e => h (List.cons.inj e).2
    · obtain ⟨q, _, rfl⟩ := List.mem_map.mp ha
      obtain ⟨e, he, hb⟩ := List.mem_flatMap.mp hb
      obtain ⟨q', _, rfl⟩ := List.mem_map.mp hb
      intro z
      exact h.1 ((List.cons.inj z).1 ▸ he)
theorem anti_of {L : List (List α)} {n : Nat} (nd : L.Nodup) (hl : ∀ r ∈ L, r.length = n) : L.Pairwise fun a b => ¬ a.Sublist b ∧ ¬ b.Sublist a := by
  rw [List.pairwise_iff_getElem]
  rw [List.nodup_iff_pairwise_ne, List.pairwise_iff_getElem] at nd
  intro i j hi hj hij
  have h1 := hl _ (List.getElem_mem hi)
  have h2 := hl _ (List.getElem_mem hj)
  exact ⟨fun s => nd i j hi hj hij (s.eq_of_length (by omega)), fun s => nd i j hi hj hij (s.eq_of_length (by omega)).symm⟩
/-- one deed more -/
theorem good_ext {m : List (α × List α)} {ns : List α} (h1 : Sing m ns) (nd : ns.Nodup) {c : α} {s : List α} {L : List (List α)} {n : Nat} (g : Good m ns s L) (hl : ∀ r ∈ L, r.length = n) :
    Good m ns (c :: s) (ext m ns c L) ∧ ∀ r ∈ ext m ns c L, r.length = n + 1 := by
  have hlen : ∀ r ∈ ext m ns c L, r.length = n + 1 := fun r hr => by
    obtain ⟨d, q, _, _, hq, rfl⟩ := ext_mem.mp hr
    rw [List.length_cons, hl q hq]
  have hnd : (ext m ns c L).Nodup := nd_prod (anti_nd g.anti) (nd.filter _)
  refine ⟨⟨fun r hr => ?_, ?_, anti_of hnd hlen, ?_⟩, hlen⟩
  · obtain ⟨d, q, h2, h3, hq, rfl⟩ := ext_mem.mp hr
    refine ⟨h2, by rw [h3]; exact beg_one.mpr rfl, ?_⟩
    unfold rest
    rw [h3, beg_one_rest]
    exact g.line q hq
  · intro q
    induction q with
    | nil =>
      intro _ h
      rw [holds_nil, decide_eq_true_iff] at h
      cases h
    | cons d q ih =>
      intro hn h
      have hd := hn d List.mem_cons_self
      have hq : ∀ x ∈ q, x ∈ ns := fun x hx => hn x (List.mem_cons_of_mem _ hx)
      rw [holds_cons] at h
      obtain ⟨e, he⟩ := h1 d hd
      by_cases z : c = e
      · subst z
        unfold rest at h
        rw [he, beg_one_rest] at h
        obtain ⟨r, hr, hs⟩ := g.cover q hq h
        exact ⟨d :: r, ext_mem.mpr ⟨d, r, hd, he, hr, rfl⟩, hs.cons_cons d⟩
      · have e0 : rest m (c :: s) d = c :: s := by
          unfold rest
          have : ¬ 0 < beg (c :: s) (look m d) := fun w => by
            rw [he] at w
            exact z (beg_one.mp w)
          rw [show beg (c :: s) (look m d) = 0 by omega, List.drop_zero]
        rw [e0] at h
        obtain ⟨r, hr, hs⟩ := ih hq h
        exact ⟨r, hr, hs.cons d⟩
  · rw [ext_len, List.length_cons, Nat.pow_succ, Nat.mul_comm]
    have h2 : (hits m ns c).length ≤ ns.length := List.length_filter_le _ _
    exact Nat.mul_le_mul g.few h2
/-- two that are good have as many rows -/
theorem good_many {m : List (α × List α)} {ns : List α} {s : List α} {L L' : List (List α)} (g : Good m ns s L) (g' : Good m ns s L') : L.length = L'.length :=
  Nat.le_antisymm (Kb.nd_sub (anti_nd g.anti) fun x hx => g.mem_eq g' hx) (Kb.nd_sub (anti_nd g'.anti) fun x hx => g'.mem_eq g hx)
/-- how many deeds make c -/
theorem hits_len {m : List (α × List α)} (nd : (m.map (·.1)).Nodup) (c : α) : (hits m (m.map (·.1)) c).length = (m.filter fun p => decide (p.2 = [c])).length := by
  unfold hits
  rw [List.filter_map, List.length_map]
  congr 1
  refine List.filter_congr fun p hp => ?_
  show decide (look m p.1 = [c]) = _
  rw [look_mem nd (show (p.1, p.2) ∈ m from hp)]
theorem filt_map (l : List α) (x c : α) : (((l.map fun d => (d, [x])) : List (α × List α)).filter fun p => decide (p.2 = [c])).length = if x = c then l.length else 0 := by
  induction l with
  | nil => simp
  | cons a l ih =>
    rw [List.map_cons, List.filter_cons]
    by_cases h : x = c
    · rw [if_pos (by rw [h]; exact decide_eq_true rfl), List.length_cons, ih, if_pos h, if_pos h]
      rfl
    · rw [if_neg (by
        intro z
        have := of_decide_eq_true z
        exact h (List.cons.inj this).1), ih, if_neg h, if_neg h]
end Kg
namespace Kb
open PySem PySem.Spec PyProof.Rows L2
section
variable {P : Program} {w : World} {K : PySem.W.Frag} {mg : Str → Option Value} {base : Heap}
abbrev nRw : List Str := ["box", "making", "names", "letters", "kind", "place", "row", "turn"]
theorem scRow : FnScope nRw ["box", "making", "names", "letters"] (defScope sRow) := ⟨rfl, rfl, rfl, by decide +kernel, rfl, by decide +kernel, by decide +kernel⟩
def spRow : Sp := fun vs H Q _ => ∃ (x g a l : Addr) (M : MK) (lt : List Str), vs = [.ref x, .ref g, .ref a, .ref l] ∧ Box H x ∧ H g = some (.dK (kvM M)) ∧ g ≠ x ∧ Stand H M ∧ Fit M ∧ (∀ t ∈ M, ∀ z ∈ t.2.2, isName z = true) ∧ H a = some (.lst ((M.map (·.1)).map V.str)) ∧ a ≠ x ∧ 0 < M.length ∧ H l = some (.lst (lt.map V.str)) ∧ l ≠ x ∧ 0 < lt.length ∧ lt.length ≤ 1000 ∧ (∀ z ∈ lt, isName z = true) ∧
  ∀ (H' : Hp) (p : Addr) (us : List Str), But x H H' → Box H' x → H' p = some (.tup (us.map V.str)) → us.length ≤ 11 → (∀ z ∈ us, isName z = true) → Q (.ref p) H'
/-- drawn texts as a tuple -/
theorem ok_row {f fT fP : Addr} {fd fdT fdP : FuncData} (F : Fun K "_law_row" "_law_row" sRow f fd) (FT : Fun K "_law_take" "_law_take" sTake fT fdT) (bT : Binds K fdT ["box", "many"] []) (gT : mg "_law_take" = some (.ref fT)) (FP : Fun K "_law_pick" "_law_pick" sPick fP fdP) (bP : Binds K fdP ["box", "some"] []) (gP : mg "_law_pick" = some (.ref fP)) (C : LawC K mg) : FnOk P w K mg base CX0 3 f fd ["box", "making", "names", "letters"] spRow := by
  have N := C.T.no
  have GT : FnOk P w K mg base CX0 1 fT fdT ["box", "many"] spTake := ok_take FT N.int
  have GP : FnOk P w K mg base CX0 2 fP fdP ["box", "some"] spPick := ok_pick FP FT bT gT N.int N.len
  have GM : FnOk P w K mg base CX0 1 C.fM C.dM ["making", "row"] (spLawMade K) := ok_lawMade C.M
  refine F.ok scRow (fun vs H Q E h => ?_) (fun cdv A outer s H vs Q E hr h => ?_)
  · obtain ⟨x, g, a, l, M, lt, rfl, _⟩ := h
    rfl
  · obtain ⟨x, g, a, l, M, lt, rfl, hx, hg, hgx, hM, ft, nM, ha, hax, hM0, hl, hlx, hl0, hl1, nL, q⟩ := h
    have hr1 := hr.mono (show 1 ≤ 2 by decide)
    refine ⟨_, pss_cons (ps_set (i := 4) scRow.nd rfl (.inl rfl) (pe_call GT hr1 (by rfl) gT FT.kp bT .nil pass0 (pa_cons (pv 0) (pa_cons pe_int pa_nil))))
      (pss_cons (ps_set (i := 5) scRow.nd rfl (.inl rfl) (pe_call GT hr1 (by rfl) gT FT.kp bT .nil pass0 (pa_cons (pv 0) (pa_cons pe_int pa_nil))))
      (pss_cons (ps_set (i := 6) scRow.nd rfl (.inl rfl) (pe_callTy call_tuple_of (by rfl) N.tuple (by decide +kernel) (pa_cons
        (pe_lc (own := [("turn", 7)]) (g := gName 7) (tt := tYes) rfl scRow.nd (pi_range1 (by rfl) N.range (pa_cons (pe_call GT hr1 (by rfl) gT FT.kp bT .nil pass0 (pa_cons (pv 0) (pa_cons pe_int pa_nil))) pa_nil)) (blkOk_by (own := [("turn", 7)]) (N := nRw) (sc := defScope sRow) (by decide +kernel)) (fun _ _ _ _ _ => pg_name (i := 7) scRow.nd rfl (Or.inl rfl)) (fun _ _ _ _ _ => pts_nil)
          (fun _ _ _ _ _ => pe_call GP hr (by rfl) gP FP.kp bP .nil pass0 (pa_cons (pv 0) (pa_cons (pv 3) pa_nil)))) pa_nil)))
      (pss_cons (ps_if (pt_cmpR op_gt (pv 4) pe_int (nomark _)) (pss_one (ps_set (i := 6) scRow.nd rfl (.inl rfl) (pe_call GM hr1 (by rfl) C.gM C.M.kp C.bM .nil pass0 (pa_cons (pv 1) (pa_cons (pe_callTy call_tuple_of (by rfl) N.tuple (by decide +kernel) (pa_cons
        (pe_lc (own := [("turn", 7)]) (g := gName 7) (tt := tYes) rfl scRow.nd (pi_range1 (by rfl) N.range (pa_cons (pe_call GT hr1 (by rfl) gT FT.kp bT .nil pass0 (pa_cons (pv 0) (pa_cons pe_int pa_nil))) pa_nil)) (blkOk_by (own := [("turn", 7)]) (N := nRw) (sc := defScope sRow) (by decide +kernel)) (fun _ _ _ _ _ => pg_name (i := 7) scRow.nd rfl (Or.inl rfl)) (fun _ _ _ _ _ => pts_nil)
          (fun _ _ _ _ _ => pe_call GP hr (by rfl) gP FP.kp bP .nil pass0 (pa_cons (pv 0) (pa_cons (pv 2) pa_nil)))) pa_nil)) pa_nil))))) pss_nil)
      (pss_cons (ps_if (pt_cmpR op_eq (pv 4) pe_int (nomark _)) (pss_one (ps_set (i := 6) scRow.nd rfl (.inl rfl) (pe_op op_catA (pe_slice sl_tupA (pv 6) po_none (po_some (pv 5))) (pe_slice sl_tupA (pv 6) (po_some (pe_op op_add (pv 5) pe_int)) po_none)))) pss_nil)
      (pss_cons (ps_if (pt_cmpR op_eq (pv 4) pe_int (nomark _)) (pss_one (ps_set (i := 6) scRow.nd rfl (.inl rfl) (pe_op op_catA (pe_op op_catA (pe_slice sl_tupA (pv 6) po_none (po_some (pv 5))) (pe_tup (pa_cons (pe_call GP hr (by rfl) gP FP.kp bP .nil pass0 (pa_cons (pv 0) (pa_cons (pv 3) pa_nil))) pa_nil))) (pe_slice sl_tupA (pv 6) (po_some (pv 5)) po_none)))) pss_nil)
      (pss_one (ps_ret (pv 6)))))))), ?_⟩
    refine ⟨.ref x, rfl, x, 4, rfl, hx, by decide, by decide, fun kd H1 hk1 k1 b1 => ?_⟩
    refine ⟨.ref x, rfl, x, 5, rfl, b1, by decide, by decide, fun pl H2 hp2 k2 b2 => ?_⟩
    have k12 := k1.trans k2
    have draw : ∀ {m : Nat} {c : Addr} {cs : List Str}, 0 < m → m ≤ 5 → H c = some (.lst (cs.map V.str)) → c ≠ x → 0 < cs.length → cs.length ≤ 1000 → ∀ {Z0 : Hp}, But x H Z0 → Box Z0 x → ∀ {QD : Addr → Hp → Prop}, True → True := fun _ _ _ _ _ _ _ _ _ _ _ => True.intro
    refine ⟨.ref x, rfl, x, 5, rfl, b2, by decide, by decide, fun m H3 hm3 k3 b3 => ?_⟩
    have k13 := k12.trans k3
    refine ⟨(m : Nat), rfl, by omega, by omega, fun D nD => ?_⟩
    have hDx := b3.ne nD
    have hl3 := k13 _ _ hlx hl
    refine lc_it (walk_r0 (n := m)) (fun j Z => But x H3 Z ∧ Box Z x ∧ ∃ zs : List Str, zs.length = j ∧ (∀ z ∈ zs, isName z = true) ∧ Z D = some (.lst (zs.map V.str)))
      ⟨But.of (same_new nD), b3.upd hDx, [], rfl, (fun z hz => nomatch hz), upd_same⟩ (fun _ _ _ _ => True.intro) (fun j y Z Z' hj h yy => ?_) (fun Z h => ?_)
    · obtain ⟨rfl, rfl⟩ := yy
      obtain ⟨kZ, bZ, zs, hzl, hz, eD⟩ := h
      refine ⟨rfl, .ref x, rfl, .ref l, rfl, x, l, _, rfl, bZ, hlx, kZ _ _ hlx hl3, by rw [List.length_map]; exact hl0, by rw [List.length_map]; omega, fun j2 v Z2 hv kZ2 bZ2 => ?_⟩
      obtain ⟨z, hzz, rfl⟩ := get_map hv
      refine ⟨_, kZ2 _ _ hDx eD, by rw [List.length_map]; exact small (by omega), fun c u hc e => ?_, bZ2.upd hDx, zs ++ [z], by rw [List.length_append, hzl]; rfl, fun y hy => ?_, by rw [upd_same, List.map_append]; rfl⟩
      · rw [upd_ne (ne_of_none e nD)]
        exact kZ2 _ _ hc (kZ _ _ hc e)
      · rcases List.mem_append.mp hy with h | h
        · exact hz y h
        · rw [List.mem_singleton.mp h]
          exact nL z (List.mem_of_getElem? hzz)
    · obtain ⟨kZ, bZ, zs, hzl, hz, eD⟩ := h
      refine ⟨D, _, rfl, .inl ⟨sqL_new eD, fun r nr => ?_⟩⟩
      have k5 : But x H (upd Z r (.tup (zs.map V.str))) := (k13.trans kZ).trans (But.of (same_new nr))
      have er : upd Z r (.tup (zs.map V.str)) r = some (.tup (zs.map V.str)) := upd_same
      have b5 : Box (upd Z r (.tup (zs.map V.str))) x := bZ.upd (bZ.ne nr)
      generalize upd Z r (.tup (zs.map V.str)) = H5 at k5 er b5
      refine ⟨.int (kd : Nat), rfl, _, _, rfl, rfl, _, rfl, ?_⟩
      generalize hX : tSeq (tIfS _ _ _) _ _ = X
      have fin : ∀ (r2 : Addr) (H7 : Hp) (ws : List Str), But x H H7 → Box H7 x → H7 r2 = some (.tup (ws.map V.str)) → ws.length ≤ 10 → (∀ z ∈ ws, isName z = true) → X [some (.ref x), some (.ref g), some (.ref a), some (.ref l), some (.int (kd : Nat)), some (.int (pl : Nat)), some (.ref r2), none] H7 := fun r2 H7 ws k7 b7 e7 hw nw => by
        rw [← hX]
        refine ⟨.int (kd : Nat), rfl, rfl, _, rfl, ?_⟩
        generalize hY : tSeq (tIfS _ _ _) _ _ = Y
        have fin2 : ∀ (r2 : Addr) (H7 : Hp) (ws : List Str), But x H H7 → Box H7 x → H7 r2 = some (.tup (ws.map V.str)) → ws.length ≤ 10 → (∀ z ∈ ws, isName z = true) → Y [some (.ref x), some (.ref g), some (.ref a), some (.ref l), some (.int (kd : Nat)), some (.int (pl : Nat)), some (.ref r2), none] H7 := fun r2 H7 ws k7 b7 e7 hw nw => by
          rw [← hY]
          refine ⟨.int (kd : Nat), rfl, rfl, _, rfl, ite2 (fun c => ?_) (fun c => ?_)⟩
          · refine ⟨.ref r2, rfl, .int (pl : Nat), rfl, _, rfl, ?_⟩
            refine takeX e7 fun H8 p8 s8 e8 => ?_
            have hlk := s8 _ _ (k7 _ _ hlx hl)
            refine ⟨.ref x, rfl, .ref l, rfl, x, l, _, rfl, b7.mono s8, hlx, hlk, by rw [List.length_map]; exact hl0, by rw [List.length_map]; omega, fun j2 v Z2 hv kZ2 bZ2 => ?_⟩
            obtain ⟨z, hzz, rfl⟩ := get_map hv
            have h8x : p8 ≠ x := fun e => by
              obtain ⟨q0, q1, q2, q3⟩ := b7.mono s8
              rw [e, q3] at e8
              cases e8
            have h2x : r2 ≠ x := fun e => by
              obtain ⟨q0, q1, q2, q3⟩ := b7
              rw [e, q3] at e7
              cases e7
            have e9 := kZ2 _ _ h8x e8
            have e79 := kZ2 _ _ h2x (s8 _ _ e7)
            have k9 := (k7.trans (But.of s8)).trans kZ2
            refine ⟨smallE (show 1 ≤ 1000000 by decide), fun t1 nt1 => ?_⟩
            have s10 := same_new (o := .tup [V.str z]) nt1
            have et1 : upd Z2 t1 (.tup [V.str z]) t1 = some (.tup [V.str z]) := upd_same
            generalize upd Z2 t1 (.tup [V.str z]) = H10 at s10 et1
            refine catX (s10 _ _ e9) et1 (by rw [List.length_take, List.length_map]; show _ + 1 ≤ 100000; omega) fun H11 p11 s11 e11 => ?_
            refine ⟨.ref r2, rfl, .int (pl : Nat), rfl, _, rfl, ?_⟩
            dsimp only [tNoPart]
            refine dropX (s11 _ _ (s10 _ _ e79)) fun H12 p12 s12 e12 => ?_
            refine catX (s12 _ _ e11) e12 (by rw [List.length_append, List.length_take, List.length_drop, List.length_map]; show _ + 1 + _ ≤ 100000; omega) fun H13 p13 s13 e13 => ?_
            have sA := ((s10.trans s11).trans s12).trans s13
            refine ⟨.ref p13, rfl, q H13 p13 (ws.take pl ++ [z] ++ ws.drop pl) (k9.trans (But.of sA)) (bZ2.mono sA) (by rw [e13, List.map_append, List.map_append, List.map_take, List.map_drop]; rfl) ?_ fun y hy => ?_⟩
            · rw [List.length_append, List.length_append, List.length_take, List.length_drop]
              show _ + 1 + _ ≤ 11
              omega
            · rcases List.mem_append.mp hy with h | h
              · rcases List.mem_append.mp h with h | h
                · exact nw y (List.mem_of_mem_take h)
                · rw [List.mem_singleton.mp h]
                  exact nL z (List.mem_of_getElem? hzz)
              · exact nw y (List.mem_of_mem_drop h)
          · exact ⟨.ref r2, rfl, q H7 r2 ws k7 b7 e7 (by omega) nw⟩
        refine ite2 (fun c => ?_) (fun c => fin2 r2 H7 ws k7 b7 e7 hw nw)
        refine ⟨.ref r2, rfl, .int (pl : Nat), rfl, _, rfl, ?_⟩
        refine takeX e7 fun H8 p8 s8 e8 => ?_
        refine ⟨.ref r2, rfl, .int (pl : Nat), rfl, _, 1, rfl, rfl, _, rfl, ?_⟩
        dsimp only [tNoPart]
        rw [show ((pl : Int) + 1) = ((pl + 1 : Nat) : Int) by omega]
        refine dropX (s8 _ _ e7) fun H9 p9 s9 e9 => ?_
        refine catX (s9 _ _ e8) e9 (by rw [List.length_take, List.length_drop, List.length_map]; omega) fun H10 p10 s10 e10 => ?_
        have sA := (s8.trans s9).trans s10
        refine fin2 p10 H10 (ws.take pl ++ ws.drop (pl + 1)) (k7.trans (But.of sA)) (b7.mono sA) (by rw [e10, List.map_append, List.map_take, List.map_drop]) ?_ fun y hy => ?_
        · rw [List.length_append, List.length_take, List.length_drop]
          omega
        · rcases List.mem_append.mp hy with h | h
          · exact nw y (List.mem_of_mem_take h)
          · exact nw y (List.mem_of_mem_drop h)
      refine ite2 (fun c => ?_) (fun c => fin r H5 zs k5 b5 er (by omega) hz)
      have hg5 := k5 _ _ hgx hg
      refine ⟨.ref g, rfl, .ref x, rfl, x, 3, rfl, b5, by decide, by decide, fun m2 H6 hm6 k6 b6 => ?_⟩
      have k16 := k5.trans k6
      refine ⟨(m2 : Nat), rfl, by omega, by omega, fun D2 nD2 => ?_⟩
      have hD2x := b6.ne nD2
      have ha6 := k16 _ _ hax ha
      refine lc_it (walk_r0 (n := m2)) (fun j Z => But x H6 Z ∧ Box Z x ∧ ∃ zs : List Str, zs.length = j ∧ (∀ z ∈ zs, z ∈ M.map (·.1)) ∧ Z D2 = some (.lst (zs.map V.str)))
        ⟨But.of (same_new nD2), b6.upd hD2x, [], rfl, (fun z hz => nomatch hz), upd_same⟩ (fun _ _ _ _ => True.intro) (fun j y Z Z' hj h yy => ?_) (fun Z h => ?_)
      · obtain ⟨rfl, rfl⟩ := yy
        obtain ⟨kZ, bZ, zs, hzl, hz, eD⟩ := h
        have few := ft.few
        refine ⟨rfl, .ref x, rfl, .ref a, rfl, x, a, _, rfl, bZ, hax, kZ _ _ hax ha6, by rw [List.length_map, List.length_map]; exact hM0, by rw [List.length_map, List.length_map]; omega, fun j2 v Z2 hv kZ2 bZ2 => ?_⟩
        obtain ⟨z, hzz, rfl⟩ := get_map hv
        refine ⟨_, kZ2 _ _ hD2x eD, by rw [List.length_map]; exact small (by omega), fun c u hc e => ?_, bZ2.upd hD2x, zs ++ [z], by rw [List.length_append, hzl]; rfl, fun y hy => ?_, by rw [upd_same, List.map_append]; rfl⟩
        · rw [upd_ne (ne_of_none e nD2)]
          exact kZ2 _ _ hc (kZ _ _ hc e)
        · rcases List.mem_append.mp hy with h | h
          · exact hz y h
          · rw [List.mem_singleton.mp h]
            exact List.mem_of_getElem? hzz
      · obtain ⟨kZ, bZ, zs, hzl, hz, eD⟩ := h
        refine ⟨D2, _, rfl, .inl ⟨sqL_new eD, fun r2 nr2 => ?_⟩⟩
        have k7 : But x H (upd Z r2 (.tup (zs.map V.str))) := (k16.trans kZ).trans (But.of (same_new nr2))
        have er2 : upd Z r2 (.tup (zs.map V.str)) r2 = some (.tup (zs.map V.str)) := upd_same
        have b7 : Box (upd Z r2 (.tup (zs.map V.str))) x := bZ.upd (bZ.ne nr2)
        generalize upd Z r2 (.tup (zs.map V.str)) = H7 at k7 er2 b7
        have sM7 : Stand H7 M := fun t ht => k7 _ _ (fun e => by
          have := hM t ht
          rw [e] at this
          obtain ⟨q0, q1, q2, q3⟩ := hx
          rw [q3] at this
          cases this) (hM t ht)
        refine ⟨g, r2, M, zs, rfl, .inl (k7 _ _ hgx hg), sM7, ft, sqT_new er2, hz, by omega, fun H8 p8 s8 e8 => ?_⟩
        have hml := mad_len ft hz
        refine fin p8 H8 _ (k7.trans (But.of s8)) (b7.mono s8) e8 (by omega) fun z hz' => ?_
        unfold Kf.mad at hz'
        obtain ⟨d, hd, hz'⟩ := List.mem_flatMap.mp hz'
        obtain ⟨t, ht, rfl⟩ := name_M (hz d hd)
        rw [look_M ft.nd ht] at hz'
        exact nM t ht z hz'
end
end Kb
/-! sum(t), t a tuple of numbers. -/
namespace Ka
open PySem PySem.Spec PyProof.Rows L2
section
variable {P : Program} {w : World} {A : Around} {E : Value → Shared → Prop} {s : Shared}
theorem sum_tup {l : Addr} {its : Array Value} {val : Nat → Int} {Q : Value → Shared → Prop} (cold : A.handled = none) (tl : s.heap.IsTuple l its) (hv : ∀ (i : Nat) (v : Value), its[i]? = some v → ∃ t, v = Value.int (val i) t)
    (fin : ∀ (h2 : Heap) (tk : Nat) (t' : Tok), (∀ b o, s.heap.get? b = some o → h2.get? b = some o) → Q (.int (preSum val its.size) t') { s with heap := h2, toks := tk }) :
    wpAny (model P w) A (call (.builtin "sum") [.ref l]) Q E s := by
  have lt0 : l < s.heap.objs.size := by
    obtain ⟨o, ho, _⟩ := tl
    exact Heap.lt_size ho
  have cold1 : A.in1.handled = none := by simp [cold]
  refine call_sum_walkAnyS ?_
  refine wpAny_pyIter_tuple tl ?_
  refine ⟨_, _, _, _, _, _, _, _, rfl, (Walks.tuple cold1 _ l (Nat.ne_of_lt lt0) its).toS, ⟨⟨_, Heap.get?_push_size _ rfl, rfl, rfl⟩, tl.push _⟩, fun b hb => ?_, hv, fun s' t' mv => ?_⟩
  · show b < (s.heap.push _).objs.size
    rw [Heap.size_push]
    rcases List.mem_cons.mp hb with rfl | hb
    · exact Nat.lt_succ_self _
    · rw [List.mem_singleton.mp hb]
      exact Nat.lt_succ_of_lt lt0
  · obtain ⟨h2, g2, d2, tk2, o2⟩ := s'
    obtain rfl : g2 = s.gens := mv.gens
    obtain rfl : d2 = s.drawn := mv.drawn
    obtain rfl : o2 = s.os := mv.os
    refine fin h2 tk2 t' fun b o e => ?_
    have lt := Heap.lt_size e
    refine mv.heap b o (fun z => ?_) (Heap.get?_push_of_some _ e)
    rw [List.mem_singleton.mp z] at lt
    exact Nat.lt_irrefl _ lt
end
def rSumT (K : PySem.W.Frag) : List V → Hp → VK → Prop := fun vs H Q => ∃ (a : Addr) (ns : List Int), vs = [V.ref a] ∧ SqT K H a (ns.map V.int) ∧ Q (.int (preSum (fun i => ns.getD i 0) ns.length)) H
theorem cr_sumT {X : Cx} (hc : X.calm = true) : CallR X (.builtin "sum") (rSumT X.K) := by
  intro pins s σ H vs us Q I r h
  obtain ⟨a, ns, rfl, hs, q⟩ := h
  rw [Vals.ref1 r]
  obtain ⟨its, rv, ht, _⟩ := I.tuple hs
  have hl := rv.length
  rw [List.length_map] at hl
  obtain ⟨o, ho, hc', n, hd⟩ := ht
  refine sum_tup (val := fun i => ns.getD i 0) (I.ok.hd hc) ⟨o, ho, hc', n, hd⟩ (fun i v hv => ?_) fun h2 tk t' k => ?_
  · have hv : its[i]? = some v := by
      rw [← hv]
      simp
    have hi : i < ns.length := by
      rw [hl]
      exact (List.getElem?_eq_some_iff.mp hv).1
    obtain ⟨u, hu, ru⟩ := rv.get (i := i) (x := .int ns[i]) (by rw [List.getElem?_map, List.getElem?_eq_getElem hi]; rfl)
    rw [hv] at hu
    obtain rfl := Option.some.inj hu
    obtain ⟨t, rfl⟩ := ru
    refine ⟨t, ?_⟩
    show _ = Value.int (ns.getD i 0) t
    rw [List.getD_eq_getElem?_getD, List.getElem?_eq_getElem hi]
    rfl
  · have e : its.toArray.size = ns.length := by
      rw [List.size_toArray]
      exact hl.symm
    rw [e]
    exact ⟨.int _, H, I.kept (t' := tk) k, ⟨t', rfl⟩, q⟩
end Ka
/-! tuple * 0 and tuple * 1. -/
namespace Ka
open PySem PySem.Spec PyProof.Rows L2
theorem tuple_mul_0 (l : Addr) (n : Nat) (dd : Option Addr) (sl : Array (Option Value)) (xs : Array Value) (u : Tok) (h0 : xs.isEmpty = false) :
    Meets (Builtin.«tuple.__mul__» ⟨[.ref l, .int 0 u], []⟩) (fun _ R s => s.heap.get? l = some { cls := .type "tuple", dict := dd, data := .seq xs n, slots := sl } ∧
      R (.ok (.ret (Value.ref s.heap.objs.size))) { s with heap := s.heap.push { cls := .type "tuple", data := .seq #[] }, toks := s.toks }) :=
  .of_wp fun prog w A R s h => by
    obtain ⟨hp, g, d, tk, os⟩ := s
    obtain ⟨hl, h⟩ := h
    have f1 := AutoSeq1.idx_int
    wp_walk using wpAny_loadPart' hl
    exact ⟨_, rfl, h⟩
theorem tuple_mul_1 (l : Addr) (n : Nat) (dd : Option Addr) (sl : Array (Option Value)) (xs : Array Value) (u : Tok) (h0 : xs.isEmpty = false) :
    Meets (Builtin.«tuple.__mul__» ⟨[.ref l, .int 1 u], []⟩) (fun _ R s => s.heap.get? l = some { cls := .type "tuple", dict := dd, data := .seq xs n, slots := sl } ∧
      R (.ok (.ret (Value.ref l))) { s with heap := s.heap, toks := s.toks }) :=
  .of_wp fun prog w A R s h => by
    obtain ⟨hp, g, d, tk, os⟩ := s
    obtain ⟨hl, h⟩ := h
    have f1 := AutoSeq1.idx_int
    wp_walk using wpAny_loadPart' hl
    exact ⟨_, rfl, h⟩
def rRep1 (K : PySem.W.Frag) : R2 := fun x y H Q => ∃ l k xs, x = .ref l ∧ y = .int k ∧ SqT K H l xs ∧ xs ≠ [] ∧ ((k = 0 ∧ ∀ p, H p = none → Q (.ref p) (upd H p (.tup []))) ∨ (k = 1 ∧ Q (.ref l) H))
theorem op_rep1 {X : Cx} : OpR X (binaryOp .Mult) (rRep1 X.K) := by
  intro pins s σ H x y v u Q I rx ry h
  obtain ⟨l, k, xs, rfl, rfl, hT, hne, hq⟩ := h
  cases rx
  obtain ⟨t, rfl⟩ := ry
  obtain ⟨its, r, ⟨⟨cls, dd, data, sl⟩, ho, hc, n, hd⟩, hs⟩ := I.tuple hT
  simp only at hc hd
  subst hc hd
  have h0 : its.toArray.isEmpty = false := by
    cases r with
    | nil => exact absurd rfl hne
    | cons a b => rfl
  rcases hq with ⟨rfl, q⟩ | ⟨rfl, q⟩
  · refine wpAny_binaryOp_repeat_ref (T := "tuple") (U := "int") (by decide) ⟨_, ho, rfl⟩ (fun s' => typeIs_int s' 0 t) noFill_tuple_mul F.fills_int_mul F.slot_int_rmul repeat_tuple F.slot_int_index.lookup
      (call_meets F.slot_int_rmul (typeIs_int s 0 t) F.entry_int_rmul (F.args_int_rmul_2 _ _) (int_rmul_tuple 0 t l its.toArray n dd sl)
        ⟨ho, rfl, ⟨_, ho, rfl⟩, call_meets F.slot_tuple_mul ⟨_, ho, rfl⟩ F.entry_tuple_mul (F.args_tuple_mul_2 _ _) (tuple_mul_0 l n dd sl its.toArray t h0) ⟨ho, ?_⟩⟩)
    refine ⟨.ref s.heap.objs.size, upd H s.heap.objs.size (.tup []), I.laid (t' := s.toks) (fun _ _ e => Heap.get?_push_of_some _ e) (Nat.le_refl _) ?_, rfl, q _ (I.hok.fresh (Nat.le_refl _))⟩
    refine ⟨Nat.zero_le _, [], .nil, ⟨_, Heap.get?_push_size _ rfl, rfl, 0, rfl⟩⟩
  · refine wpAny_binaryOp_repeat_ref (T := "tuple") (U := "int") (by decide) ⟨_, ho, rfl⟩ (fun s' => typeIs_int s' 1 t) noFill_tuple_mul F.fills_int_mul F.slot_int_rmul repeat_tuple F.slot_int_index.lookup
      (call_meets F.slot_int_rmul (typeIs_int s 1 t) F.entry_int_rmul (F.args_int_rmul_2 _ _) (int_rmul_tuple 1 t l its.toArray n dd sl)
        ⟨ho, rfl, ⟨_, ho, rfl⟩, call_meets F.slot_tuple_mul ⟨_, ho, rfl⟩ F.entry_tuple_mul (F.args_tuple_mul_2 _ _) (tuple_mul_1 l n dd sl its.toArray t h0) ⟨ho, ?_⟩⟩)
    exact ⟨.ref l, H, I, rfl, q⟩
end Ka
namespace Kb
open PySem PySem.Spec PyProof.Rows L2
abbrev nMy : List Str := ["names", "sizes", "lost", "making", "at", "size", "name", "row", "told", "many", "one"]
abbrev sX : Str := Str.ofString "x"
abbrev sY : Str := Str.ofString "y"
abbrev sZ : Str := Str.ofString "z"
abbrev sW : Str := Str.ofString "w"
theorem cut_mid {us : List Str} {i n : Nat} (hi : i ≤ us.length) : cutV (us.map V.str) (some (i : Int)) (some ((i + n : Nat) : Int)) = ((us.drop i).take n).map V.str := by
  unfold cutV
  rw [HT.sIx_nat, HT.sIx_nat, List.length_map, List.map_take, List.map_drop, Nat.min_eq_left hi]
  by_cases l : i + n ≤ us.length
  · rw [Nat.min_eq_left l, Nat.add_sub_cancel_left]
  · rw [Nat.min_eq_right (by omega), List.take_of_length_le (by rw [List.length_drop, List.length_map]; exact Nat.le_refl _), List.take_of_length_le (by rw [List.length_drop, List.length_map]; omega)]
theorem slA_midX {K : PySem.W.Frag} {H : Hp} {a : Addr} {us : List Str} {i n : Nat} {Q : VK} (hi : i ≤ us.length) (hA : H a = some (.tup (us.map V.str))) (q : ∀ H' p, Same H H' → H' p = some (.tup (((us.drop i).take n).map V.str)) → Q (.ref p) H') : rSlA K (.ref a) (some (i : Int)) (some ((i + n : Nat) : Int)) H Q := by
  refine ⟨a, us.map V.str, rfl, sqT_new hA, fun hw => ?_, fun _ p np => ?_⟩
  · obtain ⟨h1, h2⟩ := hw
    rw [HT.sIx_nat] at h1 h2
    rw [List.length_map] at h1 h2
    refine q H a (fun _ _ h => h) ?_
    have e0 : i = 0 := by omega
    subst e0
    rw [List.drop_zero, List.take_of_length_le (by omega)]
    exact hA
  · refine q _ p (same_new np) ?_
    rw [upd_same, cut_mid hi]
def ltr (i : Nat) : Str := [sX, sY, sZ].getD i sX
def cutAt (ns : List Str) (ss : List Nat) (i : Nat) : List Str := (ns.drop (ss.take i).sum).take (ss.getD i 0)
def mkP (ns : List Str) (ss : List Nat) : Nat → List (Str × List Str)
  | 0 => []
  | i + 1 => mkP ns ss i ++ (cutAt ns ss i).map fun d => (d, [ltr i])
theorem sum_take {ss : List Nat} {i : Nat} (h : i < ss.length) : (ss.take (i + 1)).sum = (ss.take i).sum + ss.getD i 0 := by
  have hg : ss[i]? = some ss[i] := List.getElem?_eq_getElem h
  rw [take_of_get hg, List.sum_append, List.getD_eq_getElem?_getD, hg]
  simp
theorem mkP_names (ns : List Str) (ss : List Nat) : ∀ i, i ≤ ss.length → (mkP ns ss i).map (·.1) = ns.take (ss.take i).sum
  | 0, _ => by rfl
  | i + 1, h => by
    rw [mkP, List.map_append, mkP_names ns ss i (by omega), sum_take (by omega), List.map_map]
    show _ ++ List.map (fun d => d) (cutAt ns ss i) = _
    rw [List.map_id']
    unfold cutAt
    rw [List.take_add]
theorem mkP_mem {ns : List Str} {ss : List Nat} : ∀ {n : Nat} {p : Str × List Str}, p ∈ mkP ns ss n → ∃ i, i < n ∧ p.2 = [ltr i]
  | 0, _, h => nomatch h
  | n + 1, p, h => by
    rcases List.mem_append.mp h with z | z
    · obtain ⟨i, hi, e⟩ := mkP_mem z
      exact ⟨i, by omega, e⟩
    · obtain ⟨d, _, rfl⟩ := List.mem_map.mp z
      exact ⟨n, Nat.lt_succ_self n, rfl⟩
theorem ltr_name : ∀ i, i < 3 → isName (ltr i) = true
  | 0, _ => by decide +kernel
  | 1, _ => by decide +kernel
  | 2, _ => by decide +kernel
def lostR (lost : Nat) : List Str := if lost = 1 then [sW] else []
theorem rep01 {K : PySem.W.Frag} {H : Hp} {tw : Addr} {lost : Nat} {Q : VK} (etw : H tw = some (.tup [V.str sW])) (hl : lost ≤ 1) (q : ∀ (H2 : Hp) (p : Addr), Same H H2 → H2 p = some (.tup ((lostR lost).map V.str)) → Q (.ref p) H2) : Ka.rRep1 K (.ref tw) (.int (lost : Nat)) H Q := by
  refine ⟨tw, _, _, rfl, rfl, sqT_new etw, (fun z => nomatch z), ?_⟩
  match lost, hl, q with
  | 0, _, q => exact .inl ⟨rfl, fun p np => q _ p (same_new np) upd_same⟩
  | 1, _, q => exact .inr ⟨rfl, q H tw (fun _ _ e => e) etw⟩
def sufR (lost : Nat) (j : Nat) : List Str := ([sW, sX, sY, sZ].drop (4 - j))
theorem suf_us {lost j : Nat} (hl : lost ≤ 1) (hj : j ≤ (lostR lost ++ [sX, sY, sZ]).length) : Kf.suf (lostR lost ++ [sX, sY, sZ]) j = [sW, sX, sY, sZ].drop (4 - j) ∧ j ≤ 3 + lost := by
  match lost, hl, hj with
  | 0, _, hj =>
    have hj : j ≤ 3 := hj
    match j, hj with
    | 0, _ => exact ⟨rfl, by decide⟩
    | 1, _ => exact ⟨rfl, by decide⟩
    | 2, _ => exact ⟨rfl, by decide⟩
    | 3, _ => exact ⟨rfl, by decide⟩
  | 1, _, hj =>
    have hj : j ≤ 4 := hj
    match j, hj with
    | 0, _ => exact ⟨rfl, by decide⟩
    | 1, _ => exact ⟨rfl, by decide⟩
    | 2, _ => exact ⟨rfl, by decide⟩
    | 3, _ => exact ⟨rfl, by decide⟩
    | 4, _ => exact ⟨rfl, by decide⟩
section
variable {P : Program} {w : World} {K : PySem.W.Frag} {mg : Str → Option Value} {base : Heap}
theorem scManyR : FnScope nMy ["names", "sizes", "lost"] (defScope sManyR) := ⟨rfl, rfl, rfl, by decide +kernel, rfl, by decide +kernel, by decide +kernel⟩
def spManyR (K : PySem.W.Frag) : Sp := fun vs H Q _ => ∃ (a sz : Addr) (ns : List Str) (ss : List Nat) (lost : Nat), vs = [.ref a, .ref sz, .int (lost : Nat)] ∧ H a = some (.lst (ns.map V.str)) ∧ ns.length = 12 ∧ ns.Nodup ∧ (∀ z ∈ ns, isName z = true) ∧ H sz = some (.tup (natV ss)) ∧ (ss = [2, 4, 5] ∨ ss = [2, 3, 7] ∨ ss = [3, 3, 4]) ∧ lost ≤ 1 ∧ ∀ H', Same H H' → Q (.bl true) H'
theorem ok_manyR {f : Addr} {fd : FuncData} (F : Fun K "_law_many_right" "_law_many_right" sManyR f fd) (C : LawC K mg) : FnOk P w K mg base CX0 6 f fd ["names", "sizes", "lost"] (spManyR K) := by
  have N := C.T.no
  have GT : FnOk P w K mg base CX0 5 C.fT C.dT ["making", "row", "back"] (spTold K) := ok_told C.D C.T C.Z
  have GO : FnOk P w K mg base CX0 1 C.fO C.dO ["rows"] (spLawOrd K) := ok_lawOrd C.O N
  have GM : FnOk P w K mg base CX0 1 C.fM C.dM ["making", "row"] (spLawMade K) := ok_lawMade C.M
  refine F.ok scManyR (fun vs H Q E h => ?_) (fun cdv A outer s H vs Q E hr h => ?_)
  · obtain ⟨a, sz, ns, ss, lost, rfl, _⟩ := h
    rfl
  · obtain ⟨a, sz, ns, ss, lost, rfl, ha, hl12, hnd, hnm, hsz, hss, hlost, q⟩ := h
    have hr1 := hr.mono (show 1 ≤ 5 by decide)
    refine ⟨_, pss_cons (ps_set (i := 3) scManyR.nd rfl (.inr rfl) pe_dnewK)
      (pss_cons (ps_for PassesOwn.never rfl (Ka.pi_enumT (by rfl) N.enumerate (pa_cons (pv 1) pa_nil)) (pg_tup rfl (pgs_cons (pg_name (i := 4) scManyR.nd rfl (.inl rfl)) (pgs_cons (pg_name (i := 5) scManyR.nd rfl (.inl rfl)) pgs_nil)))
        (pss_one (ps_for PassesOwn.never rfl (pi_list (pe_slice sl_list (pv 0) (po_some (pe_callB (Ka.cr_sumT rfl) (by rfl) N.sum (by decide +kernel) (pa_cons (pe_slice sl_tupA (pv 1) po_none (po_some (pv 4))) pa_nil))) (po_some (pe_op op_add (pe_callB (Ka.cr_sumT rfl) (by rfl) N.sum (by decide +kernel) (pa_cons (pe_slice sl_tupA (pv 1) po_none (po_some (pv 4))) pa_nil)) (pv 5))))) (pg_name (i := 6) scManyR.nd rfl (.inl rfl))
          (pss_one (ps_dput (hu_of hr) (pv 3) (pv 6) (pe_slice sl_tupA (pe_tup (pa_cons pe_str (pa_cons pe_str (pa_cons pe_str pa_nil)))) (po_some (pv 4)) (po_some (pe_op op_add (pv 4) pe_int))) rfl)))))
      (pss_cons (ps_set (i := 7) scManyR.nd rfl (.inr rfl) (pe_op op_catA (pe_op Ka.op_rep1 (pe_tup (pa_cons pe_str pa_nil)) (pv 2)) (pe_tup (pa_cons pe_str (pa_cons pe_str (pa_cons pe_str pa_nil))))))
      (pss_cons (ps_set (i := 8) scManyR.nd rfl (.inl rfl) (pe_call GT hr (by rfl) C.gD C.D.kp C.bD .nil pass0 (pa_cons (pv 3) (pa_cons (pv 7) (pa_cons pe_bl pa_nil)))))
      (pss_cons (ps_set (i := 9) scManyR.nd rfl (.inl rfl) (pe_op op_mul (pe_op op_mul (pe_ix ix_tup (pv 1) pe_int (fun _ _ => rfl)) (pe_ix ix_tup (pv 1) pe_int (fun _ _ => rfl))) (pe_ix ix_tup (pv 1) pe_int (fun _ _ => rfl))))
      (pss_cons (ps_if (PW.pt (pw_or (pt_cmpR op_gt (pv 9) pe_int (nomark _)) (pw_or1 (pt_cmpR op_eq (pv 2) pe_int (nomark _))))) (pss_one (ps_ret (pe_cmpR (op_eqD hr.units) (pv 8) (pe_ix ix_list (pe_lst (pa_cons (pe_lst (pa_cons pe_str (pa_cons (pe_tup pa_nil) pa_nil))) (pa_cons (pe_lst (pa_cons pe_str (pa_cons pe_str pa_nil))) pa_nil))) (pe_callTy call_int1 (by rfl) N.int (by decide +kernel) (pa_cons (pe_cmpR op_gt (pv 9) pe_int (nomark _)) pa_nil)) (fun _ _ => rfl)) (nomark _)))) pss_nil)
      (pss_cons (ps_if (PW.pt (pw_or (pt_cmpR op_ne (pe_ix ix_list (pv 8) pe_int (fun _ _ => rfl)) pe_str (nomark _)) (pw_or (pt_cmpR op_ne (pe_callB call_len_seq (by rfl) N.len PySem.boot_len (pa_cons (pe_ix ix_list (pv 8) pe_int (fun _ _ => rfl)) pa_nil)) (pv 9) (nomark _)) (pw_or1 (pt_cmpR (op_neD hr.units) (pe_ix ix_list (pv 8) pe_int (fun _ _ => rfl)) (pe_call GO hr1 (by rfl) C.gO C.O.kp C.bO .nil pass0 (pa_cons (pe_ix ix_list (pv 8) pe_int (fun _ _ => rfl)) pa_nil)) (nomark _)))))) (pss_one (ps_ret pe_bl)) pss_nil)
      (pss_one (ps_ret (pe_callB (cr_all rfl) (by rfl) N.all (by decide +kernel) (pa_cons
        (pe_lc (own := [("one", 10)]) (g := gName 10) (tt := tYes) rfl scManyR.nd (pi_tup (pe_ix ix_list (pv 8) pe_int (fun _ _ => rfl))) (blkOk_by (own := [("one", 10)]) (N := nMy) (sc := defScope sManyR) (by decide +kernel)) (fun _ _ _ _ _ => pg_name (i := 10) scManyR.nd rfl (Or.inl rfl)) (fun _ _ _ _ _ => pts_nil)
          (fun _ _ _ _ _ => pe_cmpR (eqD_at (K := K) rfl hr.units) (pe_call GM hr1 (by rfl) C.gM C.M.kp C.bM .nil pass0 (pa_cons (pv 3) (pa_cons (pv 10) pa_nil))) (pv 7) (nomark _))) pa_nil)))))))))), ?_⟩
    refine fun g ng => ?_
    have k0 : Same H (upd H g (.dK [])) := same_new ng
    have eg0 : upd H g (.dK []) g = some (.dK (kvM [])) := upd_same
    have hag : a ≠ g := ne_of_none ha ng
    have hsg : sz ≠ g := ne_of_none hsz ng
    have ha0 := k0 _ _ ha
    have hsz0 := k0 _ _ hsz
    generalize upd H g (.dK []) = H0 at k0 eg0 ha0 hsz0
    have lss : ss.length = 3 := by rcases hss with h | h | h <;> rw [h] <;> rfl
    have tot : (ss.take 3).sum ≤ 12 := by rcases hss with h | h | h <;> rw [h] <;> decide
    have part : ∀ i, i < 3 → (ss.take i).sum + ss.getD i 0 ≤ 12 := fun i hi => by
      rcases hss with h | h | h <;> rw [h] <;> (match i, hi with
        | 0, _ => decide
        | 1, _ => decide
        | 2, _ => decide)
    have hpre : ∀ i, i < 3 → PySem.preSum (fun j => ((ss.take i).map fun n : Nat => (n : Int)).getD j 0) ((ss.take i).map fun n : Nat => (n : Int)).length = (((ss.take i).sum : Nat) : Int) := fun i hi => by
      rcases hss with h | h | h <;> rw [h] <;> (match i, hi with
        | 0, _ => rfl
        | 1, _ => rfl
        | 2, _ => rfl)
    refine ⟨.ref sz, rfl, sz, natV ss, rfl, sqT_new hsz0, ?_⟩
    refine Ka.for_enumT (xs := natV ss) (fun i σ H' => ∃ (y4 y5 y6 : Option V) (M : MK), σ = [some (.ref a), some (.ref sz), some (.int (lost : Nat)), some (.ref g), y4, y5, y6, none, none, none, none] ∧ But g H0 H' ∧ H' g = some (.dK (kvM M)) ∧ Stand H' M ∧ pm M = mkP ns ss i)
      ⟨none, none, none, [], rfl, But.refl, eg0, (fun t ht => nomatch ht), rfl⟩ (fun i σ H' ⟨_, _, _, _, _, k, _⟩ => sqT_new (k _ _ hsg hsz0)) ?_ ?_
    · rintro i x T σ H' hx ⟨y4, y5, y6, M, rfl, k, eg, sM, hM⟩ nT
      obtain ⟨si, hsi, rfl⟩ := get_map hx
      have hi3 := lt_of_get hsi
      rw [lss] at hi3
      have esi : ss.getD i 0 = si := by rw [List.getD_eq_getElem?_getD, hsi]; rfl
      have sT := same_new (o := .tup [V.int (i : Nat), .int (si : Nat)]) nT
      have eT : upd H' T (.tup [V.int (i : Nat), .int (si : Nat)]) T = some (.tup [V.int (i : Nat), .int (si : Nat)]) := upd_same
      generalize upd H' T (.tup [V.int (i : Nat), .int (si : Nat)]) = H2 at sT eT
      have k2 := k.trans (But.of sT)
      have eg2 := sT _ _ eg
      have sM2 := sM.mono sT
      have hsz2 := k2 _ _ hsg hsz0
      have ha2 := k2 _ _ hag ha0
      have enat : (natV ss).take i = ((ss.take i).map fun n : Nat => (n : Int)).map V.int := by
        rw [← natV_int]
        unfold natV
        rw [List.map_take]
      refine ⟨T, _, rfl, sqT_new eT, rfl, _, _, rfl, _, _, rfl, rfl, ?_⟩
      refine ⟨.ref a, rfl, .ref sz, rfl, .int (i : Nat), rfl, _, rfl, ?_⟩
      refine slR_take (sqT_new hsz2) fun H3 p3 s3 h3 => ?_
      rw [enat] at h3
      refine ⟨p3, _, rfl, h3, ?_⟩
      rw [hpre i hi3]
      refine ⟨_, rfl, .ref sz, rfl, .int (i : Nat), rfl, _, rfl, ?_⟩
      refine slR_take (sqT_new (s3 _ _ hsz2)) fun H4 p4 s4 h4 => ?_
      rw [enat] at h4
      refine ⟨p4, _, rfl, h4, ?_⟩
      rw [hpre i hi3]
      refine ⟨.int (si : Nat), rfl, _, _, rfl, rfl, _, rfl, ?_⟩
      have s34 := s3.trans s4
      refine ⟨a, _, rfl, sqL_new (s34 _ _ ha2), fun l2 nl2 => ?_⟩
      have hst : (ss.take i).sum ≤ ns.length := by
        have := part i hi3
        omega
      rw [show ((((ss.take i).sum : Nat) : Int) + (si : Nat)) = (((ss.take i).sum + si : Nat) : Int) by omega, cut_mid hst]
      have hcut : (ns.drop (ss.take i).sum).take si = cutAt ns ss i := by
        unfold cutAt
        rw [esi]
      rw [hcut]
      have s5 := s34.trans (same_new (o := .lst ((cutAt ns ss i).map V.str)) nl2)
      have el2 : upd H4 l2 (.lst ((cutAt ns ss i).map V.str)) l2 = some (.lst ((cutAt ns ss i).map V.str)) := upd_same
      have hlg : l2 ≠ g := Ne.symm (ne_of_none (s34 _ _ eg2) nl2)
      generalize upd H4 l2 (.lst ((cutAt ns ss i).map V.str)) = H5 at s5 el2
      refine ⟨l2, rfl, ⟨_, sqL_new el2⟩, ?_⟩
      refine for_it (walk_list (K := K) (a := l2) (xs := (cutAt ns ss i).map V.str)) (fun j σ Z => ∃ (y6 : Option V) (M : MK), σ = [some (.ref a), some (.ref sz), some (.int (lost : Nat)), some (.ref g), some (.int (i : Nat)), some (.int (si : Nat)), y6, none, none, none, none] ∧ But g H5 Z ∧ Z g = some (.dK (kvM M)) ∧ Stand Z M ∧ pm M = mkP ns ss i ++ ((cutAt ns ss i).take j).map fun d => (d, [ltr i]))
        ⟨y6, M, rfl, But.refl, s5 _ _ eg2, sM2.mono s5, by rw [hM]; exact (List.append_nil _).symm⟩ (fun j σ Z _ ⟨_, _, _, kk, _⟩ => sqL_new (kk _ _ hlg el2)) (fun j x σ Z Z' hj h y => ?_) (fun σ Z h => ?_)
      · obtain ⟨rfl, hy⟩ := y
        obtain ⟨y6, M, rfl, kk, egZ, sMZ, hMZ⟩ := h
        obtain ⟨z, hz, rfl⟩ := get_map hy
        have hjl := lt_of_get hz
        have hcl : (cutAt ns ss i).length ≤ si := by
          unfold cutAt
          rw [esi]
          exact List.length_take_le _ _
        have hkeys : M.map (·.1) = ns.take ((ss.take i).sum + j) := by
          rw [← pm_names, hMZ, List.map_append, mkP_names ns ss i (by omega), List.map_map]
          show _ ++ List.map (fun d => d) ((cutAt ns ss i).take j) = _
          rw [List.map_id', ← hcut, List.take_take, Nat.min_eq_left (by omega), List.take_add]
        have hzn : ns[(ss.take i).sum + j]? = some z := by
          rw [← hcut, List.getElem?_take, if_pos (by omega), List.getElem?_drop] at hz
          exact hz
        refine ⟨smallE (show 3 ≤ 1000000 by decide), fun t nt => ?_⟩
        have s6 := same_new (o := .tup [V.str sX, .str sY, .str sZ]) nt
        have et : upd Z' t (.tup [V.str sX, .str sY, .str sZ]) t = some (.tup ([sX, sY, sZ].map V.str)) := upd_same
        generalize upd Z' t (.tup [V.str sX, .str sY, .str sZ]) = Z6 at s6 et
        refine ⟨.int (i : Nat), rfl, _, rfl, .int (i : Nat), rfl, _, 1, rfl, rfl, _, rfl, ?_⟩
        rw [show ((i : Int) + 1) = ((i + 1 : Nat) : Int) by omega]
        refine slA_midX (by show i ≤ 3; omega) et fun Z7 p7 s7 e7 => ?_
        have eltr : ([sX, sY, sZ].drop i).take 1 = [ltr i] := by
          match i, hi3 with
          | 0, _ => rfl
          | 1, _ => rfl
          | 2, _ => rfl
        rw [eltr] at e7
        have s67 := s6.trans s7
        have eg7 := s67 _ _ egZ
        have h7g : p7 ≠ g := fun e => by rw [e, eg7] at e7; cases e7
        refine ⟨.ref g, rfl, .str z, rfl, g, _, rfl, DPut.k (k := Sum.inr z) eg7 ?_, ?_⟩
        · rw [kvM_len]
          have := congrArg List.length hkeys
          rw [List.length_map, List.length_take] at this
          exact small (by omega)
        · refine ⟨_, M ++ [(z, p7, [ltr i])], rfl, fun c u hc e => ?_, ?_, fun t' ht' => ?_, ?_⟩
          · rw [upd_ne hc]
            exact s67 _ _ (kk c u hc e)
          · rw [upd_same, putK_new]
            · unfold kvM
              rw [List.map_append]
              rfl
            · rw [kvM_keys, hkeys]
              intro w
              obtain ⟨y, hy, e⟩ := List.mem_map.mp w
              exact not_before hnd hzn (Sum.inr.inj e ▸ hy)
          · rcases List.mem_append.mp ht' with w | w
            · have q1 := s67 _ _ (sMZ t' w)
              rw [upd_ne (fun e => by rw [e, eg7] at q1; cases q1)]
              exact q1
            · rw [List.mem_singleton.mp w, upd_ne h7g]
              exact e7
          · rw [take_of_get hz, List.map_append, ← List.append_assoc, ← hMZ]
            unfold pm
            rw [List.map_append]
            rfl
      · obtain ⟨y6, M, rfl, kk, egZ, sMZ, hMZ⟩ := h
        rw [List.length_map, List.take_length] at hMZ
        exact ⟨_, _, _, M, rfl, (k2.trans (But.of s5)).trans kk, egZ, sMZ, hMZ⟩
    · rintro σ H' ⟨y4, y5, y6, M, rfl, k, eg, sM, hM⟩
      rw [natV_len, lss] at hM
      have hnames : M.map (·.1) = ns.take (ss.take 3).sum := by rw [← pm_names, hM, mkP_names ns ss 3 (by omega)]
      have ndM : (M.map (·.1)).Nodup := by
        rw [hnames]
        exact hnd.sublist (List.take_sublist _ _)
      have hMl : M.length ≤ 12 := by
        have := congrArg List.length hnames
        rw [List.length_map, List.length_take] at this
        omega
      have hrow : ∀ t ∈ M, ∃ i, i < 3 ∧ t.2.2 = [ltr i] := fun t ht => by
        have : (t.1, t.2.2) ∈ pm M := List.mem_map.mpr ⟨t, ht, rfl⟩
        rw [hM] at this
        exact mkP_mem this
      have ft : Fit M := ⟨hMl, ndM, fun t ht => by
        obtain ⟨i, _, e⟩ := hrow t ht
        rw [e]
        exact (show 1 ≤ 5 by decide)⟩
      have nM : ∀ t ∈ M, ∀ z ∈ t.2.2, isName z = true := fun t ht z hz => by
        obtain ⟨i, hi, e⟩ := hrow t ht
        rw [e] at hz
        rw [List.mem_singleton.mp hz]
        exact ltr_name i hi
      have nN : ∀ t ∈ M, isName t.1 = true := fun t ht => by
        have : t.1 ∈ M.map (·.1) := List.mem_map.mpr ⟨t, ht, rfl⟩
        rw [hnames] at this
        exact hnm _ (List.mem_of_mem_take this)
      have hsing : Kg.Sing (pm M) (M.map (·.1)) := fun d hd => by
        obtain ⟨t, ht, rfl⟩ := name_M hd
        obtain ⟨i, _, e⟩ := hrow t ht
        exact ⟨ltr i, by rw [look_M ndM ht]; exact e⟩
      have hcl : ∀ i, i < 3 → (cutAt ns ss i).length = ss.getD i 0 := fun i hi => by
        have := part i hi
        unfold cutAt
        rw [List.length_take, List.length_drop]
        omega
      have hh : ∀ c, (Kg.hits (pm M) (M.map (·.1)) c).length = (if ltr 0 = c then ss.getD 0 0 else 0) + (if ltr 1 = c then ss.getD 1 0 else 0) + (if ltr 2 = c then ss.getD 2 0 else 0) := fun c => by
        rw [← pm_names, Kg.hits_len (by rw [pm_names]; exact ndM), hM, mkP, mkP, mkP, mkP, List.nil_append, List.filter_append, List.filter_append, List.length_append, List.length_append, Kg.filt_map, Kg.filt_map, Kg.filt_map, hcl 0 (by decide), hcl 1 (by decide), hcl 2 (by decide)]
      have hX := hh sX
      rw [if_pos (show ltr 0 = sX from rfl), if_neg (show ¬ ltr 1 = sX by decide +kernel), if_neg (show ¬ ltr 2 = sX by decide +kernel)] at hX
      simp only [Nat.add_zero, Nat.zero_add] at hX
      have hY := hh sY
      rw [if_neg (show ¬ ltr 0 = sY by decide +kernel), if_pos (show ltr 1 = sY from rfl), if_neg (show ¬ ltr 2 = sY by decide +kernel)] at hY
      simp only [Nat.add_zero, Nat.zero_add] at hY
      have hZ := hh sZ
      rw [if_neg (show ¬ ltr 0 = sZ by decide +kernel), if_neg (show ¬ ltr 1 = sZ by decide +kernel), if_pos (show ltr 2 = sZ from rfl)] at hZ
      simp only [Nat.add_zero, Nat.zero_add] at hZ
      have hW := hh sW
      rw [if_neg (show ¬ ltr 0 = sW by decide +kernel), if_neg (show ¬ ltr 1 = sW by decide +kernel), if_neg (show ¬ ltr 2 = sW by decide +kernel)] at hW
      simp only [Nat.add_zero, Nat.zero_add] at hW
      have G0 := Kg.good_nil (pm M) (M.map (·.1))
      have G1 := Kg.good_ext hsing ndM (c := sZ) G0 (n := 0) (fun r hr => by rw [List.mem_singleton.mp hr]; rfl)
      have G2 := Kg.good_ext hsing ndM (c := sY) G1.1 G1.2
      have G3 := Kg.good_ext hsing ndM (c := sX) G2.1 G2.2
      have G4 := Kg.good_ext hsing ndM (c := sW) G3.1 G3.2
      have E1 := Kg.ext_len (pm M) (M.map (·.1)) sZ [[]]
      have E2 := Kg.ext_len (pm M) (M.map (·.1)) sY (Kg.ext (pm M) (M.map (·.1)) sZ [[]])
      have E3 := Kg.ext_len (pm M) (M.map (·.1)) sX (Kg.ext (pm M) (M.map (·.1)) sY (Kg.ext (pm M) (M.map (·.1)) sZ [[]]))
      have E4 := Kg.ext_len (pm M) (M.map (·.1)) sW (Kg.ext (pm M) (M.map (·.1)) sX (Kg.ext (pm M) (M.map (·.1)) sY (Kg.ext (pm M) (M.map (·.1)) sZ [[]])))
      rw [hZ] at E1
      rw [hY, E1] at E2
      rw [hX, E2] at E3
      rw [hW] at E4
      generalize Kg.ext (pm M) (M.map (·.1)) sZ [[]] = L1 at G1 G2 G3 G4 E1 E2 E3 E4
      generalize Kg.ext (pm M) (M.map (·.1)) sY L1 = L2 at G2 G3 G4 E2 E3 E4
      generalize Kg.ext (pm M) (M.map (·.1)) sX L2 = L3 at G3 G4 E3 E4
      generalize Kg.ext (pm M) (M.map (·.1)) sW L3 = L4 at G4 E4
      have E0 : ([[]] : List (List Str)).length = 1 := rfl
      rw [E0] at E1 E2 E3
      have hL : ∀ (j : Nat) (L : List (List Str)), j ≤ 4 → Kg.Good (pm M) (M.map (·.1)) ([sW, sX, sY, sZ].drop (4 - j)) L → (j = 3 → L.length = ss.getD 0 0 * (ss.getD 1 0 * (ss.getD 2 0 * 1))) ∧ (j = 4 → L.length = 0) ∧ (j ≠ 3 → L.length ≤ 40) := fun j L hj hg => by
        have h21 : ss.getD 2 0 * 1 ≤ 40 ∧ ss.getD 1 0 * (ss.getD 2 0 * 1) ≤ 40 := by
          rcases hss with h | h | h <;> rw [h] <;> decide
        match j, hj with
        | 0, _ =>
          have := Kg.good_many hg G0
          exact ⟨(fun z => nomatch z), (fun z => nomatch z), fun _ => by rw [this, E0]; decide⟩
        | 1, _ =>
          have := Kg.good_many hg G1.1
          exact ⟨(fun z => nomatch z), (fun z => nomatch z), fun _ => by rw [this, E1]; exact h21.1⟩
        | 2, _ =>
          have := Kg.good_many hg G2.1
          exact ⟨(fun z => nomatch z), (fun z => nomatch z), fun _ => by rw [this, E2]; exact h21.2⟩
        | 3, _ =>
          have := Kg.good_many hg G3.1
          exact ⟨fun _ => by rw [this, E3], (fun z => nomatch z), fun z => absurd rfl z⟩
        | 4, _ =>
          have := Kg.good_many hg G4.1
          have e0 : L4.length = 0 := by
            rw [E4]
            simp
          exact ⟨(fun z => nomatch z), fun _ => by rw [this, e0], fun _ => by rw [this, e0]; decide⟩
      have upH : Same H H' := fun c u e => k c u (ne_of_none e ng) (k0 c u e)
      refine ⟨smallE (show 1 ≤ 1000000 by decide), fun tw ntw => ⟨.int (lost : Nat), rfl, ?_⟩⟩
      have s5 := same_new (o := .tup [V.str sW]) ntw
      have etw : upd H' tw (.tup [V.str sW]) tw = some (.tup [V.str sW]) := upd_same
      generalize upd H' tw (.tup [V.str sW]) = H5 at s5 etw
      refine rep01 etw hlost fun H6 p6 s6 e6 => ?_
      refine ⟨smallE (show 3 ≤ 1000000 by decide), fun t3 nt3 => ?_⟩
      have s7 := same_new (o := .tup [V.str sX, .str sY, .str sZ]) nt3
      have et3 : upd H6 t3 (.tup [V.str sX, .str sY, .str sZ]) t3 = some (.tup [V.str sX, .str sY, .str sZ]) := upd_same
      have e67 := s7 _ _ e6
      generalize upd H6 t3 (.tup [V.str sX, .str sY, .str sZ]) = H7 at s7 et3 e67
      have hlr : (lostR lost).length ≤ 1 := by
        unfold lostR
        split
        · exact Nat.le_refl _
        · exact Nat.zero_le _
      refine catX e67 et3 (by rw [List.length_map]; show _ + 3 ≤ 100000; omega) fun H8 p8 s8 e8 => ?_
      have e8 : H8 p8 = some (.tup ((lostR lost ++ [sX, sY, sZ]).map V.str)) := by
        rw [e8, List.map_append]
        rfl
      have s58 := ((s5.trans s6).trans s7).trans s8
      have eg8 := s58 _ _ eg
      have sM8 := sM.mono s58
      have up8 := upH.trans s58
      obtain ⟨us, hus⟩ : ∃ us, us = lostR lost ++ [sX, sY, sZ] := ⟨_, rfl⟩
      rw [← hus] at e8
      have hul : us.length = (lostR lost).length + 3 := by rw [hus, List.length_append]; rfl
      have nU : ∀ z ∈ us, isName z = true := fun z hz => by
        rw [hus] at hz
        have : z ∈ [sW, sX, sY, sZ] := by
          rcases List.mem_append.mp hz with h | h
          · unfold lostR at h
            split at h
            · rw [List.mem_singleton.mp h]
              exact List.mem_cons_self
            · cases h
          · exact List.mem_cons_of_mem _ h
        simp only [List.mem_cons, List.not_mem_nil, or_false] at this
        rcases this with e | e | e | e <;> rw [e] <;> decide +kernel
      have hgj : ∀ (j : Nat) (L : List (List Str)), j ≤ us.length → Kg.Good (pm M) (M.map (·.1)) (Kf.suf us j) L → j ≤ 3 + lost ∧ (j = 3 → L.length = ss.getD 0 0 * (ss.getD 1 0 * (ss.getD 2 0 * 1))) ∧ (j = 4 → L.length = 0) ∧ (j ≠ 3 → L.length ≤ 40) := fun j L hj hg => by
        rw [hus] at hj hg
        obtain ⟨h1, h2⟩ := suf_us hlost hj
        rw [h1] at hg
        exact ⟨h2, hL j L (by omega) hg⟩
      refine ⟨.ref g, rfl, .ref p8, rfl, g, p8, M, us, false, rfl, .inl eg8, (fun h => nomatch h), sM8, ft, nM, sqT_new e8, by omega, nU, fun _ => ⟨fun h => absurd h (by omega), fun _ j L hj hg h40 => ?_, fun _ H9 tp r ts s9 et er hR hall hg h40 hp => ?_⟩, fun h => nomatch h⟩
      · intro H9 tp s9 et
        have hsz9 := s9 _ _ (up8 _ _ hsz)
        have hg3 := hgj j L hj hg
        have e42 : ss = [2, 3, 7] := by
          rcases hss with h | h | h
          · exfalso
            rw [h] at hg3
            by_cases z : j = 3
            · have := hg3.2.1 z
              rw [this] at h40
              exact absurd h40 (by decide)
            · have := hg3.2.2.2 z
              omega
          · exact h
          · exfalso
            rw [h] at hg3
            by_cases z : j = 3
            · have := hg3.2.1 z
              rw [this] at h40
              exact absurd h40 (by decide)
            · have := hg3.2.2.2 z
              omega
        subst e42
        refine ⟨.ref sz, rfl, sz, _, 0, _, rfl, rfl, sqT_new hsz9, atI_nat (j := 0) rfl, .ref sz, rfl, sz, _, 1, _, rfl, rfl, sqT_new hsz9, atI_nat (j := 1) rfl, _, _, rfl, rfl, .inl (by decide), .ref sz, rfl, sz, _, 2, _, rfl, rfl, sqT_new hsz9, atI_nat (j := 2) rfl, _, _, rfl, rfl, .inl (by decide), ?_⟩
        refine ⟨_, rfl, _, 40, rfl, rfl, _, rfl, ite2 (fun c => ?_) (fun c => absurd (by decide) c)⟩
        refine iteT ?_
        refine ⟨.ref tp, rfl, Nat.zero_le _, fun q0 nq0 => ⟨smallE (show 2 ≤ 1000000 by decide), fun q1 nq1 => ⟨smallE (show 2 ≤ 1000000 by decide), fun q2 nq2 => ⟨smallE (show 2 ≤ 1000000 by decide), fun q3 nq3 => ?_⟩⟩⟩⟩
        have t1 := same_new (o := .tup []) nq0
        have t2 := t1.trans (same_new (o := .lst [V.str (Str.ofString "told"), .ref q0]) nq1)
        have t3' := t2.trans (same_new (o := .lst [V.str (Str.ofString "refused"), .str (Str.ofString "wide")]) nq2)
        have t4 := t3'.trans (same_new (o := .lst [V.ref q1, .ref q2]) nq3)
        have f2 := same_new (o := .lst [V.ref q1, .ref q2]) nq3 _ _ (upd_same (a := q2) (o := .lst [V.str (Str.ofString "refused"), .str (Str.ofString "wide")]) (H := upd (upd H9 q0 (.tup [])) q1 (.lst [V.str (Str.ofString "told"), .ref q0])))
        have f3 : upd (upd (upd (upd H9 q0 (.tup [])) q1 (.lst [V.str (Str.ofString "told"), .ref q0])) q2 (.lst [V.str (Str.ofString "refused"), .str (Str.ofString "wide")])) q3 (.lst [V.ref q1, .ref q2]) q3 = some (.lst [V.ref q1, .ref q2]) := upd_same
        generalize upd (upd (upd (upd H9 q0 (.tup [])) q1 (.lst [V.str (Str.ofString "told"), .ref q0])) q2 (.lst [V.str (Str.ofString "refused"), .str (Str.ofString "wide")])) q3 (.lst [V.ref q1, .ref q2]) = H10 at t4 f2 f3
        refine ⟨_, rfl, _, 40, rfl, rfl, .inr ⟨_, rfl, ?_⟩⟩
        refine ⟨q3, _, _, _, rfl, rfl, sqL_new f3, at_of (j := 1) (by rfl) rfl, ?_⟩
        refine ⟨.list [.str (Str.ofString "refused"), .str (Str.ofString "wide")], .list [.str (Str.ofString "refused"), .str (Str.ofString "wide")], .lst (sqL_new (t4 _ _ et)) (.cons (.str _) (.cons (.str _) .nil)), .lst (sqL_new f2) (.cons (.str _) (.cons (.str _) .nil)), by decide +kernel, by decide +kernel, ?_⟩
        rw [show PyData.eqv (.list [.str (Str.ofString "refused"), .str (Str.ofString "wide")]) (.list [.str (Str.ofString "refused"), .str (Str.ofString "wide")]) = true from by decide +kernel]
        exact q _ ((up8.trans s9).trans t4)
      · have hsz9 := s9 _ _ (up8 _ _ hsz)
        have hlr2 : (lostR lost).length = lost := by
          unfold lostR
          split
          · rename_i h
            rw [h]
            rfl
          · show 0 = lost
            omega
        have hne42 : ss ≠ [2, 3, 7] := fun e => by
          obtain ⟨L, hgL, hL40⟩ := hall 3 (by omega)
          have := (hgj 3 L (by omega) hgL).2.1 rfl
          rw [e] at this
          rw [this] at hL40
          exact absurd hL40 (by decide)
        have hss2 : ss = [2, 4, 5] ∨ ss = [3, 3, 4] := by
          rcases hss with h | h | h
          · exact .inl h
          · exact absurd h hne42
          · exact .inr h
        have hlen := hgj us.length (ts.map (·.2)) (Nat.le_refl _) (by rw [Kf.suf_all]; exact hg)
        rw [List.length_map] at hlen
        have hnd2 := Kg.anti_nd hg.anti
        have hnames2 : ∀ g' ∈ ts, ∀ z ∈ g'.2, z ∈ M.map (·.1) := fun g' hgm => (Kg.line_holds _ _ (hg.line g'.2 (List.mem_map.mpr ⟨g', hgm, rfl⟩))).2.1
        have hnmN : ∀ g' ∈ ts, ∀ z ∈ g'.2, isName z = true := fun g' hgm z hz => by
          obtain ⟨t, ht, rfl⟩ := name_M (hnames2 g' hgm z hz)
          exact nN t ht
        have hlen4 : ∀ g' ∈ ts, g'.2.length ≤ 4 := fun g' hgm => by
          have := (Kg.line_holds _ _ (hg.line g'.2 (List.mem_map.mpr ⟨g', hgm, rfl⟩))).2.2
          omega
        have hmade : ∀ g' ∈ ts, Kf.mad (pm M) g'.2 = us := fun g' hgm => Kg.line_mad hsing (hg.line g'.2 (List.mem_map.mpr ⟨g', hgm, rfl⟩))
        have shT : SeqAt.shaped (.tuple ((ts.map (·.2)).map Ka.rowD)) = true := (shRows fun g' hg' => by
          obtain ⟨g'', hg'', rfl⟩ := List.mem_map.mp hg'
          exact hnmN g'' hg'').2
        have eT : PyData.eqv (.tuple ((ts.map (·.2)).map Ka.rowD)) (.tuple ((ts.map (·.2)).map Ka.rowD)) = true := by
          rw [PyData.eqv, eqRows]
          exact decide_eq_true rfl
        rcases hss2 with rfl | rfl
        all_goals
          refine ⟨.ref sz, rfl, sz, _, 0, _, rfl, rfl, sqT_new hsz9, atI_nat (j := 0) rfl, .ref sz, rfl, sz, _, 1, _, rfl, rfl, sqT_new hsz9, atI_nat (j := 1) rfl, _, _, rfl, rfl, .inl (by decide), .ref sz, rfl, sz, _, 2, _, rfl, rfl, sqT_new hsz9, atI_nat (j := 2) rfl, _, _, rfl, rfl, .inl (by decide), ?_⟩
          refine ⟨_, rfl, _, 40, rfl, rfl, _, rfl, ite2 (fun c => absurd c (by decide)) (fun c => ?_)⟩
          refine ⟨.int (lost : Nat), rfl, rfl, _, rfl, ite2 (fun c2 => ?_) (fun c2 => ?_)⟩
          · have c2 := V.int.inj (of_decide_eq_true c2)
            have hts0 : ts = [] := List.eq_nil_of_length_eq_zero (hlen.2.2.1 (by omega))
            subst hts0
            refine ⟨.ref tp, rfl, Nat.zero_le _, fun q0 nq0 => ⟨smallE (show 2 ≤ 1000000 by decide), fun q1 nq1 => ⟨smallE (show 2 ≤ 1000000 by decide), fun q2 nq2 => ⟨smallE (show 2 ≤ 1000000 by decide), fun q3 nq3 => ?_⟩⟩⟩⟩
            have t1 := same_new (o := .tup []) nq0
            have f0 : upd H9 q0 (.tup []) q0 = some (.tup []) := upd_same
            generalize upd H9 q0 (.tup []) = Ha at t1 f0 nq1 nq2 nq3
            have t2 := same_new (o := .lst [V.str (Str.ofString "told"), .ref q0]) nq1
            have f1 : upd Ha q1 (.lst [V.str (Str.ofString "told"), .ref q0]) q1 = some (.lst [V.str (Str.ofString "told"), .ref q0]) := upd_same
            generalize upd Ha q1 (.lst [V.str (Str.ofString "told"), .ref q0]) = Hb at t2 f1 nq2 nq3
            have t3' := same_new (o := .lst [V.str (Str.ofString "refused"), .str (Str.ofString "wide")]) nq2
            generalize upd Hb q2 (.lst [V.str (Str.ofString "refused"), .str (Str.ofString "wide")]) = Hc at t3' nq3
            have t4 := same_new (o := .lst [V.ref q1, .ref q2]) nq3
            have f3 : upd Hc q3 (.lst [V.ref q1, .ref q2]) q3 = some (.lst [V.ref q1, .ref q2]) := upd_same
            generalize upd Hc q3 (.lst [V.ref q1, .ref q2]) = Hd at t4 f3
            have tA := ((t1.trans t2).trans t3').trans t4
            refine ⟨_, rfl, _, 40, rfl, rfl, .inr ⟨_, rfl, ?_⟩⟩
            refine ⟨q3, _, _, _, rfl, rfl, sqL_new f3, at_of (j := 0) (by rfl) rfl, ?_⟩
            refine ⟨.list [.str (Str.ofString "told"), .tuple []], .list [.str (Str.ofString "told"), .tuple []], .lst (sqL_new (tA _ _ et)) (.cons (.str _) (.cons (.tup (sqT_new (tA _ _ er)) .nil) .nil)), .lst (sqL_new (t4 _ _ (t3' _ _ f1))) (.cons (.str _) (.cons (.tup (sqT_new (t4 _ _ (t3' _ _ (t2 _ _ f0)))) .nil) .nil)), by decide +kernel, by decide +kernel, ?_⟩
            rw [show PyData.eqv (.list [.str (Str.ofString "told"), .tuple []]) (.list [.str (Str.ofString "told"), .tuple []]) = true from by decide +kernel]
            exact q _ ((up8.trans s9).trans tA)
          · have c2 : lost ≠ 1 := fun z => c2 (decide_eq_true (by rw [z]; rfl))
            have hl0 : lost = 0 := by omega
            have htl := hlen.2.1 (by omega)
            refine ⟨.ref tp, rfl, tp, _, 0, _, rfl, rfl, sqL_new et, atI_nat (j := 0) rfl, rfl, _, rfl, ite2 (fun c => absurd c (by decide +kernel)) (fun _ => ?_)⟩
            refine ⟨.ref tp, rfl, tp, _, 1, _, rfl, rfl, sqL_new et, atI_nat (j := 1) rfl, r, _, rfl, .inr (sqT_new er), _, rfl, rfl, _, rfl, ite2 (fun c => absurd c (by rw [adV_len, htl]; decide +kernel)) (fun _ => ?_)⟩
            refine ⟨.ref tp, rfl, tp, _, 1, _, rfl, rfl, sqL_new et, atI_nat (j := 1) rfl, .ref tp, rfl, tp, _, 1, _, rfl, rfl, sqL_new et, atI_nat (j := 1) rfl, r, ts, rfl, sqT_new er, hR, by omega, hp, hnd2, hnmN, fun H10 p3 s10 e3 => ?_⟩
            refine ⟨.tuple ((ts.map (·.2)).map Ka.rowD), .tuple ((ts.map (·.2)).map Ka.rowD), .tup (sqT_new (s10 _ _ er)) (dpAdV (hR.mono s10)), .tup (sqT_new e3) (dpAdV (hR.mono s10)), shT, shT, ?_⟩
            rw [eT]
            refine ⟨_, rfl, iteF ?_⟩
            have et2 := s10 _ _ et
            have er2 := s10 _ _ er
            have hR2 := hR.mono s10
            have s810 := s9.trans s10
            refine ⟨.ref tp, rfl, tp, _, 1, _, rfl, rfl, sqL_new et2, atI_nat (j := 1) rfl, r, rfl, ⟨_, sqT_new er2⟩, fun D nD => ?_⟩
            refine lc_it (walk_tup (K := K) (a := r) (xs := adV ts)) (fun i Z => Same H10 Z ∧ Z D = some (.lst ((List.replicate i true).map V.bl)))
              ⟨same_new nD, upd_same⟩ (fun i Z _ h => sqT_new (h.1 _ _ er2)) (fun i y Z Z' hi h yy => ?_) (fun Z h => ?_)
            · obtain ⟨rfl, hy⟩ := yy
              obtain ⟨g', hg', rfl⟩ := get_map hy
              have hgm := List.mem_of_getElem? hg'
              have hil := lt_of_get hg'
              obtain ⟨sZ, eD⟩ := h
              have sA := s810.trans sZ
              have h4 := hlen4 g' hgm
              refine ⟨rfl, .ref g, rfl, .ref g'.1, rfl, g, g'.1, M, g'.2, rfl, .inl (sA _ _ eg8), sM8.mono sA, ft, sqT_new (sZ _ _ (hR2 g' hgm)), hnames2 g' hgm, by omega, fun Z5 p5 s5 e5 => ?_⟩
              rw [hmade g' hgm] at e5
              refine ⟨.ref p8, rfl, Ka.rowD us, Ka.rowD us, .tup (sqT_new e5) (dpRs _), .tup (sqT_new (s5 _ _ (sA _ _ e8))) (dpRs _), shR nU, shR nU, ?_⟩
              rw [eqR, decide_eq_true rfl]
              refine ⟨_, s5 _ _ eD, ?_, fun c u e => ?_, ?_⟩
              · rw [List.length_map, List.length_replicate]
                exact small (by omega)
              · rw [upd_ne (ne_of_none e nD)]
                exact s5 _ _ (sZ _ _ e)
              · rw [upd_same, List.replicate_succ', List.map_append]
                rfl
            · obtain ⟨sZ, eD⟩ := h
              refine ⟨D, _, rfl, sqL_new eD, ?_⟩
              have : (List.replicate (adV ts).length true).all id = true := by
                rw [List.all_eq_true]
                intro x hx
                exact List.eq_of_mem_replicate hx
              rw [this]
              exact q Z ((up8.trans s810).trans sZ)
end
end Kb
namespace Kb
open PySem PySem.Spec PyProof.Rows L2
section
variable {P : Program} {w : World} {K : PySem.W.Frag} {mg : Str → Option Value} {base : Heap}
theorem scBox : FnScope ["script", "k", "cell", "great"] ["script", "k"] (defScope sBox) := ⟨rfl, rfl, rfl, by decide +kernel, rfl, by decide +kernel, by decide +kernel⟩
def spBox (K : PySem.W.Frag) : Sp := fun vs H Q _ => ∃ (a : Addr) (k : Nat) (ns : List Int), vs = [.ref a, .int (k : Nat)] ∧ SqL K H a (intV ns) ∧ k ≤ 3 ∧ ∀ H' p, Same H H' → H p = none → Box H' p → Q (.ref p) H'
theorem ok_box {f : Addr} {fd : FuncData} (F : Fun K "_law_box" "_law_box" sBox f fd) (mi : mg "int" = none) (ml : mg "len" = none) (ma : mg "abs" = none) : FnOk P w K mg base CX0 1 f fd ["script", "k"] (spBox K) := by
  refine F.ok scBox (fun vs H Q E h => ?_) (fun cdv A outer s H vs Q E hr h => ?_)
  · obtain ⟨a, k, ns, rfl, _⟩ := h
    rfl
  · obtain ⟨a, k, ns, rfl, hA, hk, q⟩ := h
    refine ⟨_, pss_cons (ps_set (i := 2) scBox.nd rfl (.inl rfl) (pe_op op_add (pe_op op_mul pe_int (pv 1)) pe_int))
      (pss_cons (ps_if (pt_cmpR op_lt (pv 1) (pe_callB call_len_seq (by rfl) ml PySem.boot_len (pa_cons (pv 0) pa_nil)) (nomark _))
        (pss_one (ps_set (i := 2) scBox.nd rfl (.inl rfl) (pe_callB call_abs (by rfl) ma (by decide +kernel) (pa_cons (pe_ix ix_list (pv 0) (pv 1) (fun _ _ => rfl)) pa_nil))))
        (pss_one (ps_if (pt_cmpR op_gt (pe_callB call_len_seq (by rfl) ml PySem.boot_len (pa_cons (pv 0) pa_nil)) pe_int (nomark _))
          (pss_one (ps_set (i := 2) scBox.nd rfl (.inl rfl) (pe_op op_add (pv 2) (pe_op op_mul (pe_op op_mod (pe_callTy call_int1 (by rfl) mi (by decide +kernel) (pa_cons (pe_callB call_abs (by rfl) ma (by decide +kernel) (pa_cons
              (pe_ix ix_list (pv 0) (pe_op op_mod (pe_callTy call_int1 (by rfl) mi (by decide +kernel) (pa_cons (pv 1) pa_nil)) (pe_callB call_len_seq (by rfl) ml PySem.boot_len (pa_cons (pv 0) pa_nil))) (fun _ _ => rfl)) pa_nil)) pa_nil)) pe_int) pe_int)))) pss_nil)))
      (pss_cons (ps_set (i := 3) scBox.nd rfl (.inl rfl) (pe_callTy call_int1 (by rfl) mi (by decide +kernel) (pa_cons (pe_cmpR op_ge (pv 2) (pe_op op_pow pe_int pe_int) (nomark _)) pa_nil)))
      (pss_one (ps_ret (pe_lst (pa_cons (pe_ix ix_list (pe_lst (pa_cons pe_int (pa_cons (pv 2) pa_nil))) (pv 3) (fun _ _ => rfl))
        (pa_cons (pe_op op_add (pe_op op_mod (pe_callTy call_int1 (by rfl) mi (by decide +kernel) (pa_cons (pe_op op_add (pe_op op_add (pe_op op_mul (pe_op op_mod (pe_callTy call_int1 (by rfl) mi (by decide +kernel) (pa_cons (pv 2) pa_nil)) pe_int) pe_int) (pe_op op_mul pe_int (pv 1))) pe_int) pa_nil)) pe_int) pe_int) (pa_cons pe_int pa_nil)))))))), ?_⟩
    have s1000 : ∀ n, n ≤ 1000000 → n ≤ sizeLine := fun n h => smallE h
    refine ⟨.int (k : Nat), rfl, 8009, (k : Nat), rfl, rfl, .inl (by decide), _, 50021, rfl, rfl, ?_⟩
    refine ⟨.int (k : Nat), rfl, .ref a, rfl, a, _, rfl, .inl hA, _, _, rfl, rfl, _, rfl, ?_⟩
    generalize hX : tSeq (tAsg _ (gName 3)) _ _ = X
    have fin : ∀ c : Int, X [some (.ref a), some (.int (k : Nat)), some (.int c), none] H := fun c => by
      rw [← hX]
      refine ⟨.int c, rfl, 10, 18, rfl, rfl, ⟨by decide, by decide, by decide⟩, _, _, rfl, rfl, .inr ⟨_, rfl, ?_⟩⟩
      refine ⟨.int c, rfl, s1000 2 (by decide), fun l nl => ?_⟩
      have s1 := same_new (o := .lst [.int 0, .int c]) nl
      have hat : ∃ e : Int, atI [V.int 0, V.int c] (if decide ((10 : Int) ^ (18 : Int).toNat ≤ c) = true then 1 else 0) = some (.int e) := by
        by_cases h : decide ((10 : Int) ^ (18 : Int).toNat ≤ c) = true
        · rw [if_pos h]
          exact ⟨c, rfl⟩
        · rw [if_neg h]
          exact ⟨0, rfl⟩
      obtain ⟨e, he⟩ := hat
      refine ⟨_, rfl, l, _, _, .int e, rfl, rfl, sqL_new upd_same, he, ?_⟩
      refine ⟨.int c, rfl, .inl ⟨c, rfl, c, 2147483629, rfl, rfl, (by show (0 : Int) < 2147483629; decide), _, 48271, rfl, rfl, .inr (by decide), .int (k : Nat), rfl, 30013, _, rfl, rfl, .inl (by decide), _, _, rfl, rfl, _, 991, rfl, rfl, .inl ⟨_, rfl, _, 2147483629, rfl, rfl, (by show (0 : Int) < 2147483629; decide), _, 1, rfl, rfl, ?_⟩⟩⟩
      refine ⟨s1000 3 (by decide), fun l2 nl2 => ?_⟩
      exact q _ l2 (s1.trans (same_new nl2)) (s1.free nl2) ⟨_, _, _, upd_same⟩
    refine ite2 (fun c => ?_) (fun c => ?_)
    · have c := of_decide_eq_true c
      rw [intV_len] at c
      have hg : ns[k]? = some (ns[k]'(by omega)) := List.getElem?_eq_getElem (by omega)
      exact ⟨.ref a, rfl, .int (k : Nat), rfl, a, _, _, _, rfl, rfl, hA, atI_nat (intV_get hg), _, rfl, fin _⟩
    · refine ⟨.ref a, rfl, a, _, rfl, .inl hA, _, 0, rfl, rfl, _, rfl, ite2 (fun c2 => ?_) (fun c2 => ?_)⟩
      · have c2 := of_decide_eq_true c2
        rw [intV_len] at c2
        obtain ⟨r, hr1, hr2⟩ := mod_nat (k : Int) (n := ns.length) (by omega)
        have hg : ns[r]? = some (ns[r]'(by omega)) := List.getElem?_eq_getElem (by omega)
        refine ⟨_, rfl, .ref a, rfl, .int (k : Nat), rfl, .inl ⟨_, rfl, .ref a, rfl, a, _, rfl, .inl hA, _, _, rfl, rfl, ?_, ?_⟩⟩
        · show (0 : Int) < (((intV ns).length : Nat) : Int)
          rw [intV_len]
          exact c2
        · refine ⟨a, _, _, _, rfl, rfl, hA, at_of (by rw [intV_len]; exact hr2) (intV_get hg), _, rfl, .inl ⟨_, rfl, _, 2147483629, rfl, rfl, (by show (0 : Int) < 2147483629; decide), _, 60727, rfl, rfl, .inr (by decide), _, _, rfl, rfl, fin _⟩⟩
      · exact fin _
end
end Kb
namespace Kb
open PySem PySem.Spec PyProof.Rows L2
structure Cl (K : PySem.W.Frag) (mg : Str → Option Value) (name : Str) (f : Addr) (fd : FuncData) (ps : List Str) : Prop where
  kp : PySem.W.keepIn K (.ref f) = true
  b : Binds K fd ps []
  g : mg name = some (.ref f)
theorem shTold {l : List (List Str)} (h : ∀ r ∈ l, ∀ z ∈ r, isName z = true) : SeqAt.shaped (.list [.str (Str.ofString "told"), .tuple (l.map Ka.rowD)]) = true := by
  have h1 := dep_le (f := Ka.rowD) (n := 2) depR l
  have h2 := lay_all (f := Ka.rowD) l fun r hr => layR (h r hr)
  refine shaped_of ?_ ?_
  · rw [PyData.canLay0, PyData.canLayAll0, PyData.canLayAll0, PyData.canLayAll0, PyData.canLay0, PyData.canLay0, h2]
    decide +kernel
  · simp only [PyData.depth, PyData.depthAll]
    omega
theorem shTold1 {q : List Str} (h : ∀ z ∈ q, isName z = true) : SeqAt.shaped (.list [.str (Str.ofString "told"), Ka.rowD q]) = true := by
  have h1 := depR q
  refine shaped_of ?_ ?_
  · rw [PyData.canLay0, PyData.canLayAll0, PyData.canLayAll0, PyData.canLayAll0, PyData.canLay0, layR h]
    decide +kernel
  · simp only [PyData.depth, PyData.depthAll]
    omega
theorem eqTold1 (q r : List Str) : PyData.eqv (.list [.str (Str.ofString "told"), Ka.rowD q]) (.list [.str (Str.ofString "told"), Ka.rowD r]) = decide (q = r) := by
  rw [PyData.eqv, PyData.eqvAll, PyData.eqvAll, PyData.eqvAll, eq_str, decide_eq_true rfl, eqR]
  simp
theorem iteYes {c : Bool} {A B : Prop} (h : c = true) (a : A) : if c = true then A else B := by
  rw [if_pos h]
  exact a
theorem iteNo {c : Bool} {A B : Prop} (h : c = false) (b : B) : if c = true then A else B := by
  rw [h]
  exact iteF b
theorem eqTold (l m : List (List Str)) : PyData.eqv (.list [.str (Str.ofString "told"), .tuple (l.map Ka.rowD)]) (.list [.str (Str.ofString "told"), .tuple (m.map Ka.rowD)]) = decide (l = m) := by
  rw [PyData.eqv, PyData.eqvAll, PyData.eqvAll, PyData.eqvAll, eq_str, decide_eq_true rfl, PyData.eqv, eqRows]
  simp
theorem eqRefT (z : Str) (m : List (List Str)) : PyData.eqv (.list [.str (Str.ofString "refused"), .str z]) (.list [.str (Str.ofString "told"), .tuple (m.map Ka.rowD)]) = false := by
  rw [PyData.eqv, PyData.eqvAll, eq_str, decide_eq_false (by decide +kernel)]
  rfl
section
variable {P : Program} {w : World} {K : PySem.W.Frag} {mg : Str → Option Value} {base : Heap}
abbrev nLw : List Str := ["script", "k", "box", "kind", "names", "letters", "making", "row", "exact", "alone", "due", "found", "deed"]
theorem scLaw : FnScope nLw ["script"] (defScope sLaw) := ⟨rfl, rfl, rfl, by decide +kernel, rfl, by decide +kernel, by decide +kernel⟩
def spLaw (K : PySem.W.Frag) : Sp := fun vs H Q _ => ∃ (a : Addr) (ns : List Int), vs = [.ref a] ∧ SqL K H a (intV ns) ∧ ∀ H', Q (.bl true) H'
theorem ok_law {f fB fNa fT fMk fRw fNr fLx fSo fMy fLo : Addr} {fd dB dNa dT dMk dRw dNr dLx dSo dMy dLo : FuncData} (F : Fun K "law" "law" sLaw f fd)
    (GB : FnOk P w K mg base CX0 1 fB dB ["script", "k"] (spBox K)) (CB : Cl K mg "_law_box" fB dB ["script", "k"])
    (GNa : FnOk P w K mg base CX0 2 fNa dNa ["box", "many"] spNames) (CNa : Cl K mg "_law_names" fNa dNa ["box", "many"])
    (GT : FnOk P w K mg base CX0 1 fT dT ["box", "many"] spTake) (CT : Cl K mg "_law_take" fT dT ["box", "many"])
    (GMk : FnOk P w K mg base CX0 3 fMk dMk ["box", "names", "letters", "most"] spMaking) (CMk : Cl K mg "_law_making" fMk dMk ["box", "names", "letters", "most"])
    (GRw : FnOk P w K mg base CX0 3 fRw dRw ["box", "making", "names", "letters"] spRow) (CRw : Cl K mg "_law_row" fRw dRw ["box", "making", "names", "letters"])
    (GNr : FnOk P w K mg base CX0 6 fNr dNr ["making", "row"] (spNeedsR K)) (CNr : Cl K mg "_law_needs_right" fNr dNr ["making", "row"])
    (GLx : FnOk P w K mg base CX0 1 fLx dLx ["making"] spLawEx) (CLx : Cl K mg "_law_is_exact" fLx dLx ["making"])
    (GSo : FnOk P w K mg base CX0 1 fSo dSo ["making", "row"] (spSources K)) (CSo : Cl K mg "_law_sources" fSo dSo ["making", "row"])
    (GMy : FnOk P w K mg base CX0 6 fMy dMy ["names", "sizes", "lost"] (spManyR K)) (CMy : Cl K mg "_law_many_right" fMy dMy ["names", "sizes", "lost"])
    (GLo : FnOk P w K mg base CX0 5 fLo dLo ["box", "names", "size"] spLongR) (CLo : Cl K mg "_law_long_right" fLo dLo ["box", "names", "size"]) (C : LawC K mg) : FnOk P w K mg base CX0 7 f fd ["script"] (spLaw K) := by
  have N := C.T.no
  have GTd : FnOk P w K mg base CX0 5 C.fT C.dT ["making", "row", "back"] (spTold K) := ok_told C.D C.T C.Z
  refine F.ok scLaw (fun vs H Q E h => ?_) (fun cdv A outer s H vs Q E hr h => ?_)
  · obtain ⟨a, ns, rfl, _⟩ := h
    rfl
  · obtain ⟨a, ns, rfl, hA, q⟩ := h
    have hr1 := hr.mono (show 1 ≤ 6 by decide)
    have hr2 := hr.mono (show 2 ≤ 6 by decide)
    have hr3 := hr.mono (show 3 ≤ 6 by decide)
    have hr5 := hr.mono (show 5 ≤ 6 by decide)
    refine ⟨_, pss_cons (ps_for PassesOwn.never rfl (pi_range1 (by rfl) N.range (pa_cons (pe_op op_add pe_int (pe_callTy call_int1 (by rfl) N.int (by decide +kernel) (pa_cons (pe_cmpR op_gt (pe_callB call_len_seq (by rfl) N.len PySem.boot_len (pa_cons (pv 0) pa_nil)) pe_int (nomark _)) pa_nil))) pa_nil)) (pg_name (i := 1) scLaw.nd rfl (.inl rfl))
        (pss_cons (ps_set (i := 2) scLaw.nd rfl (.inl rfl) (pe_call GB hr1 (by rfl) CB.g CB.kp CB.b .nil pass0 (pa_cons (pv 0) (pa_cons (pv 1) pa_nil))))
        (pss_cons (ps_set (i := 3) scLaw.nd rfl (.inl rfl) (pe_call GT hr1 (by rfl) CT.g CT.kp CT.b .nil pass0 (pa_cons (pv 2) (pa_cons pe_int pa_nil))))
        (pss_cons (ps_set (i := 4) scLaw.nd rfl (.inl rfl) (pe_call GNa hr2 (by rfl) CNa.g CNa.kp CNa.b .nil pass0 (pa_cons (pv 2) (pa_cons (pe_op op_add pe_int (pe_call GT hr1 (by rfl) CT.g CT.kp CT.b .nil pass0 (pa_cons (pv 2) (pa_cons pe_int pa_nil)))) pa_nil))))
        (pss_cons (ps_set (i := 5) scLaw.nd rfl (.inl rfl) (pe_call GNa hr2 (by rfl) CNa.g CNa.kp CNa.b .nil pass0 (pa_cons (pv 2) (pa_cons (pe_op op_add pe_int (pe_call GT hr1 (by rfl) CT.g CT.kp CT.b .nil pass0 (pa_cons (pv 2) (pa_cons pe_int pa_nil)))) pa_nil))))
        (pss_cons (ps_set (i := 6) scLaw.nd rfl (.inr rfl) (pe_call GMk hr3 (by rfl) CMk.g CMk.kp CMk.b .nil pass0 (pa_cons (pv 2) (pa_cons (pv 4) (pa_cons (pv 5) (pa_cons pe_int pa_nil))))))
        (pss_cons (ps_set (i := 7) scLaw.nd rfl (.inl rfl) (pe_call GRw hr3 (by rfl) CRw.g CRw.kp CRw.b .nil pass0 (pa_cons (pv 2) (pa_cons (pv 6) (pa_cons (pv 4) (pa_cons (pv 5) pa_nil))))))
        (pss_cons (ps_if (pt_not (pt_val (pe_call GNr hr (by rfl) CNr.g CNr.kp CNr.b .nil pass0 (pa_cons (pv 6) (pa_cons (pe_slice sl_tupA (pv 7) po_none (po_some pe_int)) pa_nil))))) (pss_one (ps_ret pe_bl)) pss_nil)
        (pss_cons (ps_set (i := 8) scLaw.nd rfl (.inl rfl) (pe_call GLx hr1 (by rfl) CLx.g CLx.kp CLx.b .nil pass0 (pa_cons (pv 6) pa_nil)))
        (pss_cons (ps_set (i := 9) scLaw.nd rfl (.inl rfl) (pe_callB (cr_all rfl) (by rfl) N.all (by decide +kernel) (pa_cons
          (pe_lock (pe_lc (own := [("deed", 12)]) (g := gName 12) (tt := tYes) rfl scLaw.nd (pi_keys (pv 6)) (blkOk_by (own := [("deed", 12)]) (N := nLw) (sc := defScope sLaw) (by decide +kernel)) (fun _ _ _ _ _ => pg_name (i := 12) scLaw.nd rfl (Or.inl rfl)) (fun _ _ _ _ _ => pts_nil)
            (fun _ _ _ _ _ => pe_cmpR (eqD_at (K := K) rfl hr.units) (pe_call GTd hr5 (by rfl) C.gD C.D.kp C.bD .nil pass0 (pa_cons (pv 6) (pa_cons (pe_dget (hu_of hr) (pv 6) (pv 12) (fun _ _ => rfl)) (pa_cons pe_bl pa_nil)))) (pe_lst (pa_cons pe_str (pa_cons (pe_tup (pa_cons (pe_tup (pa_cons (pv 12) pa_nil)) pa_nil)) pa_nil))) (nomark _)))) pa_nil)))
        (pss_cons (ps_if (pt_cmpR op_ne (pv 9) (pv 8) (nomark _)) (pss_one (ps_ret pe_bl)) pss_nil)
        (pss_cons (ps_set (i := 10) scLaw.nd rfl (.inl rfl) (pe_lst (pa_cons pe_str (pa_cons pe_str pa_nil))))
        (pss_cons (ps_if (pt_val (pv 8)) (pss_cons (ps_set (i := 11) scLaw.nd rfl (.inl rfl) (pe_call GSo hr1 (by rfl) CSo.g CSo.kp CSo.b .nil pass0 (pa_cons (pv 6) (pa_cons (pv 7) pa_nil))))
            (pss_cons (ps_set (i := 10) scLaw.nd rfl (.inl rfl) (pe_lst (pa_cons pe_str (pa_cons pe_non pa_nil))))
            (pss_one (ps_if (pt_cmpR op_gt (pe_callB call_len_seq (by rfl) N.len PySem.boot_len (pa_cons (pv 11) pa_nil)) pe_int (nomark _)) (pss_one (ps_set (i := 10) scLaw.nd rfl (.inl rfl) (pe_lst (pa_cons pe_str (pa_cons (pe_ix ix_list (pv 11) pe_int (fun _ _ => rfl)) pa_nil))))) pss_nil)))) pss_nil)
        (pss_cons (ps_if (pt_cmpR (op_neD hr.units) (pe_call GTd hr5 (by rfl) C.gD C.D.kp C.bD .nil pass0 (pa_cons (pv 6) (pa_cons (pv 7) (pa_cons pe_bl pa_nil)))) (pv 10) (nomark _)) (pss_one (ps_ret pe_bl)) pss_nil)
        (pss_cons (ps_if (pt_cmpR (op_neD hr.units) (pe_call GTd hr5 (by rfl) C.gD C.D.kp C.bD .nil pass0 (pa_cons (pv 6) (pa_cons (pe_op op_repT (pe_tup (pa_cons (pe_ix ix_list (pv 5) pe_int (fun _ _ => rfl)) pa_nil)) pe_int) (pa_cons pe_bl pa_nil)))) (pe_lst (pa_cons pe_str (pa_cons pe_str pa_nil))) (nomark _)) (pss_one (ps_ret pe_bl)) pss_nil)
        (pss_cons (ps_if (PW.pt (pw_and (pt_cmpR op_lt (pv 3) pe_int (nomark _)) (pw_and1 (pt_not (pt_val (pe_call GMy hr (by rfl) CMy.g CMy.kp CMy.b .nil pass0 (pa_cons (pe_call GNa hr2 (by rfl) CNa.g CNa.kp CNa.b .nil pass0 (pa_cons (pv 2) (pa_cons pe_int pa_nil))) (pa_cons (pe_ix ix_list (pe_lst (pa_cons (pe_tup (pa_cons pe_int (pa_cons pe_int (pa_cons pe_int pa_nil)))) (pa_cons (pe_tup (pa_cons pe_int (pa_cons pe_int (pa_cons pe_int pa_nil)))) (pa_cons (pe_tup (pa_cons pe_int (pa_cons pe_int (pa_cons pe_int pa_nil)))) pa_nil)))) (pv 3) (fun _ _ => rfl)) (pa_cons (pe_call GT hr1 (by rfl) CT.g CT.kp CT.b .nil pass0 (pa_cons (pv 2) (pa_cons pe_int pa_nil))) pa_nil))))))))) (pss_one (ps_ret pe_bl)) pss_nil)
        (pss_one (ps_if (PW.pt (pw_and (pt_cmpR op_eq (pv 3) pe_int (nomark _)) (pw_and1 (pt_not (pt_val (pe_call GLo hr5 (by rfl) CLo.g CLo.kp CLo.b .nil pass0 (pa_cons (pv 2) (pa_cons (pe_call GNa hr2 (by rfl) CNa.g CNa.kp CNa.b .nil pass0 (pa_cons (pv 2) (pa_cons pe_int pa_nil))) (pa_cons (pe_op op_add pe_int (pe_call GT hr1 (by rfl) CT.g CT.kp CT.b .nil pass0 (pa_cons (pv 2) (pa_cons pe_int pa_nil)))) pa_nil))))))))) (pss_one (ps_ret pe_bl)) pss_nil))))))))))))))))))
      (pss_one (ps_ret pe_bl)), ?_⟩
    refine ⟨.ref a, rfl, a, _, rfl, .inl hA, _, 2, rfl, rfl, .inr ⟨_, rfl, 1, _, rfl, rfl, ?_⟩⟩
    obtain ⟨m, hm2, hm⟩ : ∃ m : Nat, m ≤ 2 ∧ (1 : Int) + (if decide ((2 : Int) < ((intV ns).length : Nat)) = true then 1 else 0) = (m : Int) := by
      by_cases h : decide ((2 : Int) < ((intV ns).length : Nat)) = true
      · rw [if_pos h]
        exact ⟨2, Nat.le_refl _, rfl⟩
      · rw [if_neg h]
        exact ⟨1, by decide, rfl⟩
    refine ⟨(m : Int), congrArg (fun z => [V.int z]) hm, by omega, by omega, ?_⟩
    refine for_range (lo := 0) (n := m) (fun i σ H' => ∃ d1 d2 d3 d4 d5 d6 d7 d8 d9 d10 d11, σ = [some (.ref a), d1, d2, d3, d4, d5, d6, d7, d8, d9, d10, d11, none] ∧ Same H H') ⟨none, none, none, none, none, none, none, none, none, none, none, rfl, fun _ _ e => e⟩ ?_ ?_
    · rintro i σ H0 hi ⟨d1, d2, d3, d4, d5, d6, d7, d8, d9, d10, d11, rfl, s00⟩
      rw [Int.zero_add]
      refine ⟨.ref a, rfl, .int (i : Nat), rfl, a, i, ns, rfl, s00.seq hA, by omega, fun H1 x s01 nx b1 => ?_⟩
      have nxH : H x = none := s00.free nx
      have sH1 := s00.trans s01
      have toS : ∀ {G : Hp}, But x H1 G → Same H G := fun k c u e => k c u (ne_of_none e nxH) (sH1 _ _ e)
      refine ⟨.ref x, rfl, x, 8, rfl, b1, by decide, by decide, fun kd H2 hk8 k2 b2 => ?_⟩
      refine ⟨.ref x, rfl, .ref x, rfl, x, 3, rfl, b2, by decide, by decide, fun r H3 hr3' k3 b3 => ?_⟩
      refine ⟨1, _, rfl, rfl, x, 1 + r, (by show [V.ref x, V.int (1 + (r : Int))] = _; rw [show (1 : Int) + (r : Int) = ((1 + r : Nat) : Int) by omega]), b3, by omega, fun pn nl H4 hnl nd nam k4 b4 npn epn => ?_⟩
      have hpx : pn ≠ x := b3.ne npn
      refine ⟨.ref x, rfl, .ref x, rfl, x, 2, rfl, b4, by decide, by decide, fun r2 H5 hr2' k5 b5 => ?_⟩
      refine ⟨2, _, rfl, rfl, x, 2 + r2, (by show [V.ref x, V.int (2 + (r2 : Int))] = _; rw [show (2 : Int) + (r2 : Int) = ((2 + r2 : Nat) : Int) by omega]), b5, by omega, fun pl ll H6 hll ndl naml k6 b6 npl epl => ?_⟩
      have hlx : pl ≠ x := b5.ne npl
      have epn6 := (k5.trans k6) _ _ hpx epn
      refine ⟨.ref x, rfl, .ref pn, rfl, .ref pl, rfl, x, pn, pl, 4, nl, ll, rfl, b6, epn6, epl, hpx, hlx, nd, by omega, by omega, by omega, by omega, naml, by decide, by decide, fun dm M H7 k7 b7 ndm edm sM hM rM nM => ?_⟩
      have hdx : dm ≠ x := fun e => by
        obtain ⟨q0, q1, q2, q3⟩ := b7
        rw [e, q3] at edm
        cases edm
      have Mlen : M.length = nl.length := by
        have := congrArg List.length hM
        rwa [List.length_map] at this
      have hm3 : M.length ≤ 3 := by omega
      have ft : Fit M := ⟨by omega, by rw [hM]; exact nd, fun t ht => Nat.le_trans (rM t ht) (by decide)⟩
      have nN : ∀ t ∈ M, isName t.1 = true := fun t ht => nam _ (by rw [← hM]; exact List.mem_map.mpr ⟨t, ht, rfl⟩)
      have epn7 := k7 _ _ hpx epn6
      have epl7 := k7 _ _ hlx epl
      refine ⟨.ref x, rfl, .ref dm, rfl, .ref pn, rfl, .ref pl, rfl, x, dm, pn, pl, M, ll, rfl, b7, edm, hdx, sM, ft, nM, by rw [hM]; exact epn7, hpx, by omega, epl7, hlx, by omega, by omega, naml, fun H8 pr us k8 b8 er hul nU => ?_⟩
      have edm8 := k8 _ _ hdx edm
      have epl8 := k8 _ _ hlx epl7
      have sM8 : Stand H8 M := fun t ht => k8 _ _ (fun e => by
        have h7 := sM t ht
        obtain ⟨q0, q1, q2, q3⟩ := b7
        rw [e, q3] at h7
        cases h7) (sM t ht)
      have kA : But x H1 H8 := (((((k2.trans k3).trans k4).trans k5).trans k6).trans k7).trans k8
      refine ⟨.ref dm, rfl, .ref pr, rfl, _, rfl, ?_⟩
      refine takeX (j := 4) er fun H9 p9 s9 e9 => ?_
      have e9 : H9 p9 = some (.tup ((us.take 4).map V.str)) := by rw [e9, List.map_take]
      refine ⟨dm, p9, M, us.take 4, rfl, s9 _ _ edm8, sM8.mono s9, ft, hm3, nM, nN, sqT_new e9, List.length_take_le _ _, fun z hz => nU z (List.mem_of_mem_take hz), fun H10 s10 => ?_⟩
      refine ⟨true, rfl, iteF ?_⟩
      have sB := s9.trans s10
      refine ⟨.ref dm, rfl, dm, M, rfl, sB _ _ edm8, sM8.mono sB, ft, fun H11 ex s11 hex => ?_⟩
      have sC := sB.trans s11
      have edm11 := sC _ _ edm8
      have sM11 := sM8.mono sC
      have er11 := sC _ _ er
      have epl11 := sC _ _ epl8
      have b11 := b8.mono sC
      refine ⟨dm, _, edm11, True.intro, fun od => ?_⟩
      generalize hL0 : upd H11 dm (.frz od (.dK (kvM M))) = L
      have kL : But dm H11 L := by rw [← hL0]; exact But.upd
      have fL : L dm = some (.frz od (.dK (kvM M))) := by rw [← hL0]; exact upd_same
      have ML : Stand L M := fun t ht => kL _ _ (fun e => by
        have := sM11 t ht
        rw [e, edm11] at this
        cases this) (sM11 t ht)
      refine ⟨.ref dm, rfl, dm, od, rfl, .inl ⟨kvM M, fL, fun D nD => ?_⟩⟩
      refine lc_it (walk_keys (d := dm) (o := od) (kvs := kvM M)) (fun i2 G => Same L G ∧ ∃ bs : List Bool, G D = some (.lst (bs.map V.bl)) ∧ bs.length ≤ i2 ∧ (bs.all id = true ↔ ∀ t ∈ M.take i2, ∃ z, Kf.Own (pm M) t.1 z))
        ⟨same_new nD, [], upd_same, Nat.le_refl _, ⟨(fun _ t ht => nomatch ht), fun _ => rfl⟩⟩ (fun i2 G _ h => h.1 _ _ fL) (fun i2 y G G' hi2 h yy => ?_) (fun G h => ?_)
      · obtain ⟨rfl, ky, va, hkv, rfl⟩ := yy
        obtain ⟨sG, bs, eD, hbl, hbs⟩ := h
        obtain ⟨t, ht, ekv⟩ := get_map hkv
        cases ekv
        have htM := List.mem_of_getElem? ht
        have him := lt_of_get ht
        have f4 : t.2.2.length ≤ 4 := rM t htM
        have elk : Kf.look (pm M) t.1 = t.2.2 := look_M ft.nd htM
        have tN : t.1 ∈ M.map (·.1) := List.mem_map.mpr ⟨t, htM, rfl⟩
        have nlen : (M.map (·.1)).length ≤ 3 := by rw [List.length_map]; exact hm3
        have own1 : ∀ {L2 : List (List Str)} {z : Str}, Kf.Own (pm M) t.1 z → Kg.Good (pm M) (M.map (·.1)) t.2.2 L2 → L2 = [[t.1]] := fun hz hg => by
          rw [← elk] at hg
          exact Kg.good_own True.intro tN (fun e he => by rw [pm_names]; exact he) hz hg
        have fin : ∀ (Z : Hp) (b : Bool), Same G' Z → (b = true ↔ ∃ z, Kf.Own (pm M) t.1 z) → ∃ acc, Z D = some (.lst acc) ∧ acc.length < sizeLine ∧ (Same L (upd Z D (.lst (acc ++ [V.bl b]))) ∧ ∃ bs : List Bool, upd Z D (.lst (acc ++ [V.bl b])) D = some (.lst (bs.map V.bl)) ∧ bs.length ≤ i2 + 1 ∧ (bs.all id = true ↔ ∀ t ∈ M.take (i2 + 1), ∃ z, Kf.Own (pm M) t.1 z)) := fun Z b sZ hb => by
          refine ⟨_, sZ _ _ eD, by rw [List.length_map]; exact small (by omega), fun c u e => ?_, bs ++ [b], ?_, by rw [List.length_append, List.length_singleton]; omega, ?_⟩
          · rw [upd_ne (ne_of_none e nD)]
            exact sZ _ _ (sG c u e)
          · rw [upd_same, List.map_append]
            rfl
          · rw [take_of_get ht, List.all_append, Bool.and_eq_true, hbs]
            constructor
            · rintro ⟨h1, h2⟩ t' ht'
              rcases List.mem_append.mp ht' with z | z
              · exact h1 t' z
              · rw [List.mem_singleton.mp z]
                refine hb.mp ?_
                simpa using h2
            · intro h
              refine ⟨fun t' ht' => h t' (List.mem_append_left _ ht'), ?_⟩
              have := hb.mpr (h t (List.mem_append_right _ (List.mem_singleton.mpr rfl)))
              simpa using this
        have hd1 : ∀ r ∈ ([[t.1]] : List (List Str)), ∀ z ∈ r, isName z = true := fun r hr z hz => by
          rw [List.mem_singleton.mp hr] at hz
          rw [List.mem_singleton.mp hz]
          exact nN t htM
        refine ⟨rfl, .ref dm, rfl, .ref dm, rfl, .str t.1, rfl, dm, _, rfl, get_M (.inr ⟨od, sG _ _ fL⟩) ft.nd htM, dm, t.2.1, M, t.2.2, false, rfl, .inr ⟨od, sG _ _ fL⟩, (fun h => nomatch h), ML.mono sG, ft, nM, sqT_new (sG _ _ (ML t htM)), by omega, nM t htM, fun _ => ⟨fun h => absurd h (by omega), fun _ j L2 hj hg h40 => ?_, fun _ H12 tp rr ts s12 et er12 hR12 _ hg h40 hp => ?_⟩, fun h => nomatch h⟩
        · intro H12 tp s12 et
          refine ⟨.str t.1, rfl, smallE (show 1 ≤ 1000000 by decide), fun q1 nq1 => ⟨smallE (show 1 ≤ 1000000 by decide), fun q2 nq2 => ⟨smallE (show 2 ≤ 1000000 by decide), fun q3 nq3 => ?_⟩⟩⟩
          have u1 := same_new (o := .tup [V.str t.1]) nq1
          have g1 : upd H12 q1 (.tup [V.str t.1]) q1 = some (.tup [V.str t.1]) := upd_same
          generalize upd H12 q1 (.tup [V.str t.1]) = Ha at u1 g1 nq2 nq3
          have u2 := same_new (o := .tup [V.ref q1]) nq2
          have g2 : upd Ha q2 (.tup [V.ref q1]) q2 = some (.tup [V.ref q1]) := upd_same
          generalize upd Ha q2 (.tup [V.ref q1]) = Hb at u2 g2 nq3
          have u3 := same_new (o := .lst [V.str (Str.ofString "told"), .ref q2]) nq3
          have g3 : upd Hb q3 (.lst [V.str (Str.ofString "told"), .ref q2]) q3 = some (.lst [V.str (Str.ofString "told"), .ref q2]) := upd_same
          generalize upd Hb q3 (.lst [V.str (Str.ofString "told"), .ref q2]) = Hc at u3 g3
          refine ⟨.list [.str (Str.ofString "refused"), .str (Str.ofString "wide")], .list [.str (Str.ofString "told"), .tuple (([[t.1]] : List (List Str)).map Ka.rowD)], .lst (sqL_new (u3 _ _ (u2 _ _ (u1 _ _ et)))) (.cons (.str _) (.cons (.str _) .nil)), .lst (sqL_new g3) (.cons (.str _) (.cons (.tup (sqT_new (u3 _ _ g2)) (.cons (.tup (sqT_new (u3 _ _ (u2 _ _ g1))) (.cons (.str _) .nil)) .nil)) .nil)), by decide +kernel, shTold hd1, ?_⟩
          rw [eqRefT]
          refine fin _ false (((s12.trans u1).trans u2).trans u3) ⟨(fun h => nomatch h), fun ⟨z, hz⟩ => ?_⟩
          exfalso
          by_cases h3 : j ≤ 3
          · have h1 := hg.few
            rw [Kf.suf_len hj] at h1
            have h2 : (M.map (·.1)).length ^ j ≤ 3 ^ j := Nat.pow_le_pow_left nlen j
            have h4 : 3 ^ j ≤ 3 ^ 3 := Nat.pow_le_pow_right (by decide) h3
            have h5 : 3 ^ 3 = 27 := by decide
            omega
          · obtain rfl : j = t.2.2.length := by omega
            rw [Kf.suf_all] at hg
            rw [own1 hz hg] at h40
            exact absurd h40 (show ¬ 40 < 1 by decide)
        · refine ⟨.str t.1, rfl, smallE (show 1 ≤ 1000000 by decide), fun q1 nq1 => ⟨smallE (show 1 ≤ 1000000 by decide), fun q2 nq2 => ⟨smallE (show 2 ≤ 1000000 by decide), fun q3 nq3 => ?_⟩⟩⟩
          have u1 := same_new (o := .tup [V.str t.1]) nq1
          have g1 : upd H12 q1 (.tup [V.str t.1]) q1 = some (.tup [V.str t.1]) := upd_same
          generalize upd H12 q1 (.tup [V.str t.1]) = Ha at u1 g1 nq2 nq3
          have u2 := same_new (o := .tup [V.ref q1]) nq2
          have g2 : upd Ha q2 (.tup [V.ref q1]) q2 = some (.tup [V.ref q1]) := upd_same
          generalize upd Ha q2 (.tup [V.ref q1]) = Hb at u2 g2 nq3
          have u3 := same_new (o := .lst [V.str (Str.ofString "told"), .ref q2]) nq3
          have g3 : upd Hb q3 (.lst [V.str (Str.ofString "told"), .ref q2]) q3 = some (.lst [V.str (Str.ofString "told"), .ref q2]) := upd_same
          generalize upd Hb q3 (.lst [V.str (Str.ofString "told"), .ref q2]) = Hc at u3 g3
          have uA := (u1.trans u2).trans u3
          have hnm2 : ∀ r ∈ ts.map (·.2), ∀ z ∈ r, isName z = true := fun r hr z hz => by
            obtain ⟨g', hg', rfl⟩ := List.mem_map.mp hr
            have := (Kg.line_holds _ _ (hg.line g'.2 hr)).2.1 z hz
            obtain ⟨t', ht', rfl⟩ := name_M this
            exact nN t' ht'
          refine ⟨.list [.str (Str.ofString "told"), .tuple ((ts.map (·.2)).map Ka.rowD)], .list [.str (Str.ofString "told"), .tuple (([[t.1]] : List (List Str)).map Ka.rowD)], .lst (sqL_new (uA _ _ et)) (.cons (.str _) (.cons (.tup (sqT_new (uA _ _ er12)) (dpAdV (hR12.mono uA))) .nil)), .lst (sqL_new g3) (.cons (.str _) (.cons (.tup (sqT_new (u3 _ _ g2)) (.cons (.tup (sqT_new (u3 _ _ (u2 _ _ g1))) (.cons (.str _) .nil)) .nil)) .nil)), shTold hnm2, shTold hd1, ?_⟩
          rw [eqTold]
          refine fin _ _ (s12.trans uA) ?_
          rw [decide_eq_true_iff]
          constructor
          · intro e
            rw [e] at hg
            refine Classical.byContradiction fun z => ?_
            rw [← elk] at hg
            exact Kg.good_bare (fun e he => by rw [pm_names] at he; exact he) (fun x hx => z ⟨x, hx⟩) hg rfl
          · rintro ⟨z, hz⟩
            exact own1 hz hg
      · obtain ⟨sG, bs, eD, hbl, hbs⟩ := h
        rw [kvM_len, List.take_length] at hbs
        have hDd : D ≠ dm := fun e => by rw [e, fL] at nD; cases nD
        refine ⟨sG _ _ fL, ?_⟩
        have sU : Same H11 (upd G dm (.dK (kvM M))) := unlock edm11 (kL.trans (But.of sG))
        have eDU : upd G dm (.dK (kvM M)) D = some (.lst (bs.map V.bl)) := by rw [upd_ne hDd]; exact eD
        generalize upd G dm (.dK (kvM M)) = U at sU eDU
        refine ⟨D, bs, rfl, sqL_new eDU, ?_⟩
        have hae : bs.all id = ex := by
          have h1 : bs.all id = true ↔ ex = true := by
            rw [hbs, hex]
            unfold Kf.Exact
            rw [pm_names]
            constructor
            · intro h d hd
              obtain ⟨t, ht, rfl⟩ := name_M hd
              exact h t ht
            · exact fun h t ht => h t.1 (List.mem_map.mpr ⟨t, ht, rfl⟩)
          cases hx : bs.all id <;> cases ex <;> simp_all
        rw [hae]
        clear hae hbs hbl eDU bs eD sG
        refine ⟨.bl ex, rfl, .bl ex, rfl, rfl, _, rfl, ?_⟩
        rw [show (!decide ((V.bl ex) = V.bl ex)) = false by simp]
        refine iteF ?_
        refine ⟨smallE (show 2 ≤ 1000000 by decide), fun q0 nq0 => ?_⟩
        have s12 : Same H11 (upd U q0 (.lst [V.str (Str.ofString "refused"), .str (Str.ofString "inexact")])) := sU.trans (same_new nq0)
        have g12 : upd U q0 (.lst [V.str (Str.ofString "refused"), .str (Str.ofString "inexact")]) q0 = some (.lst [V.str (Str.ofString "refused"), .str (Str.ofString "inexact")]) := upd_same
        generalize upd U q0 (.lst [V.str (Str.ofString "refused"), .str (Str.ofString "inexact")]) = H12 at s12 g12
        refine ⟨.bl ex, rfl, ex, rfl, ?_⟩
        cases ex
        have hnx : ¬ Kf.Exact (pm M) := fun h => nomatch hex.mpr h
        refine iteF ?_
        refine ⟨.ref dm, rfl, .ref pr, rfl, dm, pr, M, us, true, rfl, .inl (s12 _ _ edm11), (fun _ => s12 _ _ edm11), sM11.mono s12, ft, nM, sqT_new (s12 _ _ er11), by omega, nU, (fun h => nomatch h), fun _ => ⟨fun _ H13 t13 s13' e13 => ?_, fun h => absurd h hnx, fun h => absurd h hnx⟩⟩
        refine ⟨.ref q0, rfl, .list [.str (Str.ofString "refused"), .str (Str.ofString "inexact")], .list [.str (Str.ofString "refused"), .str (Str.ofString "inexact")], .lst (sqL_new e13) (.cons (.str _) (.cons (.str _) .nil)), .lst (sqL_new (s13' _ _ g12)) (.cons (.str _) (.cons (.str _) .nil)), by decide +kernel, by decide +kernel, _, rfl, ?_⟩
        rw [show (!PyData.eqv (.list [.str (Str.ofString "refused"), .str (Str.ofString "inexact")]) (.list [.str (Str.ofString "refused"), .str (Str.ofString "inexact")])) = false by decide +kernel]
        have s13 : Same H11 H13 := s12.trans s13'
        rotate_left
        have hE : Kf.Exact (pm M) := hex.mp rfl
        have n0 : ∀ t ∈ M, t.2.2 ≠ [] := fun t ht e0 => by
          obtain ⟨z, hz, _⟩ := hE t.1 (by rw [pm_names]; exact List.mem_map.mpr ⟨t, ht, rfl⟩)
          rw [look_M ft.nd ht, e0] at hz
          cases hz
        refine iteT ?_
        refine ⟨.ref dm, rfl, .ref pr, rfl, dm, pr, M, us, rfl, s12 _ _ edm11, sM11.mono s12, ft, hm3, nM, n0, s12 _ _ er11, hul, nU, fun H14 pf fs s14 ef hR hall hcov => ?_⟩
        have sA4 := s12.trans s14
        refine ⟨smallE (show 2 ≤ 1000000 by decide), fun q1 nq1 => ?_⟩
        have s15 : Same H14 (upd H14 q1 (.lst [V.str (Str.ofString "told"), .non])) := same_new nq1
        have g15 : upd H14 q1 (.lst [V.str (Str.ofString "told"), .non]) q1 = some (.lst [V.str (Str.ofString "told"), .non]) := upd_same
        generalize upd H14 q1 (.lst [V.str (Str.ofString "told"), .non]) = H15 at s15 g15
        have sA5 := sA4.trans s15
        refine ⟨.ref pf, rfl, pf, _, rfl, .inl (sqL_new (s15 _ _ ef)), _, _, rfl, rfl, _, rfl, ?_⟩
        rcases fs with _ | ⟨f0, fs⟩
        refine iteF ?_
        have hno : ∀ q, ¬ Md M q us := fun q hq => nomatch hcov q hq
        refine ⟨.ref dm, rfl, .ref pr, rfl, dm, pr, M, us, true, rfl, .inl (sA5 _ _ edm11), (fun _ => sA5 _ _ edm11), sM11.mono sA5, ft, nM, sqT_new (sA5 _ _ er11), by omega, nU, (fun h => nomatch h), fun _ => ⟨fun h => absurd hE h, fun _ _ H13 t13 s13' e13 => ?_, fun _ _ _ _ q _ _ _ hq => absurd hq (hno q)⟩⟩
        refine ⟨.ref q1, rfl, .list [.str (Str.ofString "told"), .none], .list [.str (Str.ofString "told"), .none], .lst (sqL_new e13) (.cons (.str _) (.cons .non .nil)), .lst (sqL_new (s13' _ _ g15)) (.cons (.str _) (.cons .non .nil)), by decide +kernel, by decide +kernel, _, rfl, ?_⟩
        rw [show (!PyData.eqv (.list [.str (Str.ofString "told"), .none]) (.list [.str (Str.ofString "told"), .none])) = false by decide +kernel]
        have s13 : Same H11 H13 := sA5.trans s13'
        rotate_left
        have hlt : decide ((0 : Int) < (((adV (f0 :: fs)).length : Nat) : Int)) = true := decide_eq_true (by show (0 : Int) < ((_ + 1 : Nat) : Int); omega)
        refine iteYes hlt ?_
        have hf0 := hall f0 List.mem_cons_self
        refine ⟨.ref pf, rfl, pf, _, _, .ref f0.1, rfl, rfl, sqL_new (s15 _ _ ef), atI_nat (j := 0) rfl, smallE (show 2 ≤ 1000000 by decide), fun q2 nq2 => ?_⟩
        have s16 : Same H15 (upd H15 q2 (.lst [V.str (Str.ofString "told"), .ref f0.1])) := same_new nq2
        have g16 : upd H15 q2 (.lst [V.str (Str.ofString "told"), .ref f0.1]) q2 = some (.lst [V.str (Str.ofString "told"), .ref f0.1]) := upd_same
        generalize upd H15 q2 (.lst [V.str (Str.ofString "told"), .ref f0.1]) = H16 at s16 g16
        have sA6 := sA5.trans s16
        have ef0 := s16 _ _ (s15 _ _ (hR f0 List.mem_cons_self))
        refine ⟨.ref dm, rfl, .ref pr, rfl, dm, pr, M, us, true, rfl, .inl (sA6 _ _ edm11), (fun _ => sA6 _ _ edm11), sM11.mono sA6, ft, nM, sqT_new (sA6 _ _ er11), by omega, nU, (fun h => nomatch h), fun _ => ⟨fun h => absurd hE h, fun _ hno => absurd hf0 (hno f0.2), fun _ H13 t13 r13 qq s13' e13 er13 hqq => ?_⟩⟩
        have hqe : qq = f0.2 := Kg.made_uniq hE (fun d hd => by rw [pm_names]; exact hqq.1 d hd) (fun d hd => by rw [pm_names]; exact hf0.1 d hd) (hqq.2.trans hf0.2.symm)
        subst hqe
        have hnm : ∀ z ∈ f0.2, isName z = true := fun z hz => by
          obtain ⟨t', ht', rfl⟩ := name_M (hf0.1 z hz)
          exact nN t' ht'
        refine ⟨.ref q2, rfl, .list [.str (Str.ofString "told"), Ka.rowD f0.2], .list [.str (Str.ofString "told"), Ka.rowD f0.2], .lst (sqL_new e13) (.cons (.str _) (.cons (dpR er13) .nil)), .lst (sqL_new (s13' _ _ g16)) (.cons (.str _) (.cons (dpR (s13' _ _ ef0)) .nil)), shTold1 hnm, shTold1 hnm, _, rfl, ?_⟩
        rw [eqTold1, decide_eq_true rfl]
        have s13 : Same H11 H13 := sA6.trans s13'
        rotate_left
        all_goals
          refine iteF ?_
          have edm13 := s13 _ _ edm11
          have epl13 := s13 _ _ epl11
          have b13 := b11.mono s13
          have hl0 : (ll.map V.str)[0]? = some (.str (ll.getD 0 "")) := by
            rcases ll with _ | ⟨z, ll⟩
            · exact absurd hll (by simp only [List.length_nil]; omega)
            · rfl
          have nl0 : isName (ll.getD 0 "") = true := by
            rcases ll with _ | ⟨z, ll⟩
            · exact absurd hll (by simp only [List.length_nil]; omega)
            · exact naml z List.mem_cons_self
          refine ⟨.ref dm, rfl, .ref pl, rfl, pl, _, _, _, rfl, rfl, sqL_new epl13, atI_nat (j := 0) hl0, smallE (show 1 ≤ 1000000 by decide), fun p1 np1 => ?_⟩
          refine ⟨p1, 25, _, rfl, rfl, sqT_new upd_same, (fun z => nomatch z), by decide, by decide, (by show 1 ≤ 1000; decide), fun p2 np2 => ?_⟩
          have t1 := same_new (o := .tup [V.str (ll.getD 0 "")]) np1
          have t2 := same_new (o := .tup (List.replicate (25 : Int).toNat [V.str (ll.getD 0 "")]).flatten) np2
          have t3 : upd (upd H13 p1 (.tup [V.str (ll.getD 0 "")])) p2 (.tup (List.replicate (25 : Int).toNat [V.str (ll.getD 0 "")]).flatten) p2 = some (.tup ((List.replicate 25 (ll.getD 0 "")).map V.str)) := by rw [upd_same]; rfl
          have s17 := s13.trans (t1.trans t2)
          generalize upd (upd H13 p1 (.tup [V.str (ll.getD 0 "")])) p2 (.tup (List.replicate (25 : Int).toNat [V.str (ll.getD 0 "")]).flatten) = H17 at t2 t3 s17
          refine ⟨dm, p2, M, List.replicate 25 (ll.getD 0 ""), false, rfl, .inl (s17 _ _ edm11), (fun h => nomatch h), sM11.mono s17, ft, nM, sqT_new t3, (by rw [List.length_replicate]; decide), (fun z hz => by rw [List.eq_of_mem_replicate hz]; exact nl0), fun _ => ⟨fun _ H18 q18 s18 e18 => ?_, fun h => absurd h (by rw [List.length_replicate]; decide), fun h => absurd h (by rw [List.length_replicate]; decide)⟩, fun h => nomatch h⟩
          refine ⟨smallE (show 2 ≤ 1000000 by decide), fun q3 nq3 => ?_⟩
          have s19 := same_new (o := .lst [V.str (Str.ofString "refused"), .str (Str.ofString "long")]) nq3
          have g19 : upd H18 q3 (.lst [V.str (Str.ofString "refused"), .str (Str.ofString "long")]) q3 = some (.lst [V.str (Str.ofString "refused"), .str (Str.ofString "long")]) := upd_same
          have sB9 := s17.trans (s18.trans s19)
          generalize upd H18 q3 (.lst [V.str (Str.ofString "refused"), .str (Str.ofString "long")]) = H19 at s19 g19 sB9
          refine ⟨.list [.str (Str.ofString "refused"), .str (Str.ofString "long")], .list [.str (Str.ofString "refused"), .str (Str.ofString "long")], .lst (sqL_new (s19 _ _ e18)) (.cons (.str _) (.cons (.str _) .nil)), .lst (sqL_new g19) (.cons (.str _) (.cons (.str _) .nil)), by decide +kernel, by decide +kernel, _, rfl, ?_⟩
          rw [show (!PyData.eqv (.list [.str (Str.ofString "refused"), .str (Str.ofString "long")]) (.list [.str (Str.ofString "refused"), .str (Str.ofString "long")])) = false by decide +kernel]
          refine iteF ?_
          have b19 := b11.mono sB9
          refine ⟨.int (kd : Nat), rfl, _, _, rfl, rfl, _, rfl, ?_⟩
          by_cases hk3 : kd < 3
          · refine iteYes (decide_eq_true (by show ((kd : Nat) : Int) < 3; omega)) ?_
            refine ⟨.ref x, rfl, x, 12, rfl, b19, by decide, fun pa na H20 hla nda nama k20 b20 npa epa => ?_⟩
            have hax : pa ≠ x := b19.ne npa
            refine ⟨smallE (show 3 ≤ 1000000 by decide), fun t1 nt1 => ⟨smallE (show 3 ≤ 1000000 by decide), fun t2 nt2 => ⟨smallE (show 3 ≤ 1000000 by decide), fun t3 nt3 => ⟨smallE (show 3 ≤ 1000000 by decide), fun t4 nt4 => ?_⟩⟩⟩⟩
            have w1 := same_new (o := .tup [V.int 2, .int 4, .int 5]) nt1
            have x1 : upd H20 t1 (.tup [V.int 2, .int 4, .int 5]) t1 = some (.tup [V.int 2, .int 4, .int 5]) := upd_same
            generalize upd H20 t1 (.tup [V.int 2, .int 4, .int 5]) = H21 at w1 x1 nt2 nt3 nt4
            have w2 := same_new (o := .tup [V.int 2, .int 3, .int 7]) nt2
            have x2 : upd H21 t2 (.tup [V.int 2, .int 3, .int 7]) t2 = some (.tup [V.int 2, .int 3, .int 7]) := upd_same
            generalize upd H21 t2 (.tup [V.int 2, .int 3, .int 7]) = H22 at w2 x2 nt3 nt4
            have w3 := same_new (o := .tup [V.int 3, .int 3, .int 4]) nt3
            have x3 : upd H22 t3 (.tup [V.int 3, .int 3, .int 4]) t3 = some (.tup [V.int 3, .int 3, .int 4]) := upd_same
            generalize upd H22 t3 (.tup [V.int 3, .int 3, .int 4]) = H23 at w3 x3 nt4
            have w4 := same_new (o := .lst [V.ref t1, .ref t2, .ref t3]) nt4
            have x4 : upd H23 t4 (.lst [V.ref t1, .ref t2, .ref t3]) t4 = some (.lst [V.ref t1, .ref t2, .ref t3]) := upd_same
            generalize upd H23 t4 (.lst [V.ref t1, .ref t2, .ref t3]) = H24 at w4 x4
            have wA := ((w1.trans w2).trans w3).trans w4
            have b24 := b20.mono wA
            obtain ⟨tk, ss, hgt, hss, hst⟩ : ∃ (tk : Addr) (ss : List Nat), [V.ref t1, .ref t2, .ref t3][kd]? = some (.ref tk) ∧ H24 tk = some (.tup (natV ss)) ∧ (ss = [2, 4, 5] ∨ ss = [2, 3, 7] ∨ ss = [3, 3, 4]) := by
              match kd, hk3 with
              | 0, _ => exact ⟨t1, [2, 4, 5], rfl, w4 _ _ (w3 _ _ (w2 _ _ x1)), .inl rfl⟩
              | 1, _ => exact ⟨t2, [2, 3, 7], rfl, w4 _ _ (w3 _ _ x2), .inr (.inl rfl)⟩
              | 2, _ => exact ⟨t3, [3, 3, 4], rfl, w4 _ _ x3, .inr (.inr rfl)⟩
            have htx : tk ≠ x := fun e => by
              obtain ⟨q0', q1', q2', q3'⟩ := b24
              rw [e, q3'] at hss
              cases hss
            refine ⟨.int (kd : Nat), rfl, t4, _, _, .ref tk, rfl, rfl, sqL_new x4, atI_nat hgt, .ref x, rfl, x, 2, rfl, b24, by decide, by decide, fun lo H25 hlo k25 b25 => ?_⟩
            refine ⟨pa, tk, na, ss, lo, rfl, k25 _ _ hax (wA _ _ epa), hla, nda, nama, k25 _ _ htx hss, hst, by omega, fun H26 s26 => ?_⟩
            refine ⟨true, rfl, iteF ?_⟩
            refine ⟨.int (kd : Nat), rfl, rfl, _, rfl, iteNo (decide_eq_false (fun e => by have := V.int.inj e; omega)) ?_⟩
            exact ⟨_, _, _, _, _, _, _, _, _, _, _, rfl, toS (kA.trans ((But.of (sC.trans sB9)).trans (k20.trans ((But.of wA).trans (k25.trans (But.of s26))))))⟩
          · refine iteNo (decide_eq_false (by show ¬ ((kd : Nat) : Int) < 3; omega)) ?_
            refine ⟨.int (kd : Nat), rfl, rfl, _, rfl, ?_⟩
            by_cases hk4 : kd = 3
            · subst hk4
              refine iteYes (by decide) ?_
              refine ⟨.ref x, rfl, .ref x, rfl, x, 4, rfl, b19, by decide, fun pa na H20 hla nda nama k20 b20 npa epa => ?_⟩
              have hax : pa ≠ x := b19.ne npa
              refine ⟨.ref x, rfl, x, 20, rfl, b20, by decide, by decide, fun lo H25 hlo k25 b25 => ?_⟩
              refine ⟨5, _, rfl, rfl, x, pa, 5 + lo, na, (by show [V.ref x, V.ref pa, V.int (5 + (lo : Int))] = _; rw [show (5 : Int) + (lo : Int) = ((5 + lo : Nat) : Int) by omega]), b25, k25 _ _ hax epa, hax, hla, nda, nama, by omega, fun H26 k26 b26 => ?_⟩
              refine ⟨true, rfl, iteF ?_⟩
              exact ⟨_, _, _, _, _, _, _, _, _, _, _, rfl, toS (kA.trans ((But.of (sC.trans sB9)).trans (k20.trans (k25.trans k26))))⟩
            · refine iteNo (decide_eq_false (fun e => by have := V.int.inj e; omega)) ?_
              exact ⟨_, _, _, _, _, _, _, _, _, _, _, rfl, toS (kA.trans (But.of (sC.trans sB9)))⟩
    · rintro σ H' ⟨d1, d2, d3, d4, d5, d6, d7, d8, d9, d10, d11, rfl, s00⟩
      exact q H'
end
end Kb
namespace Kb
open PySem PySem.Spec PyProof.Rows L2
/-! ### the end: what the top has written -/
theorem all_mk {l : PySem.W.OpenLaw} {w : World} {K : PySem.W.Frag} {h : Heap} {mg : Str → Option Value} {fa C : Addr} (X : K.In h) (G : h.Ns mainGlobals mg) (hfa : mg "law" = some (.ref fa))
    {fOr fAs fIn fWi fBe fFw fOd fIx fNe fUm fBx fTk fPk fNs fLi fLo fLm fMk fFt fLn fSo fLx fTd fNr fMy fLg fRw fLa fIt : Addr} {odOr anOr odAs anAs odIn anIn odWi anWi odBe anBe odFw anFw odOd anOd odIx anIx odNe anNe odUm anUm odBx anBx odTk anTk odPk anPk odNs anNs odLi anLi odLo anLo odLm anLm odMk anMk odFt anFt odLn anLn odSo anSo odLx anLx odTd anTd odNr anNr odMy anMy odLg anLg odRw anRw odLa anLa odIt anIt : Option Addr} {slOr slAs slIn slWi slBe slFw slOd slIx slNe slUm slBx slTk slPk slNs slLi slLo slLm slMk slFt slLn slSo slLx slTd slNr slMy slLg slRw slLa slIt : Array (Option Value)}
    {ocOr kVOr dcOr pmOr ctOr cdOr ocAs kVAs dcAs pmAs ctAs cdAs ocIn kVIn dcIn pmIn ctIn cdIn ocWi kVWi dcWi pmWi ctWi cdWi ocBe kVBe dcBe pmBe ctBe cdBe ocFw kVFw dcFw pmFw ctFw cdFw ocOd kVOd dcOd pmOd ctOd cdOd ocIx kVIx dcIx pmIx ctIx cdIx ocNe kVNe dcNe pmNe ctNe cdNe ocUm kVUm dcUm pmUm ctUm cdUm ocBx kVBx dcBx pmBx ctBx cdBx ocTk kVTk dcTk pmTk ctTk cdTk ocPk kVPk dcPk pmPk ctPk cdPk ocNs kVNs dcNs pmNs ctNs cdNs ocLi kVLi dcLi pmLi ctLi cdLi ocLo kVLo dcLo pmLo ctLo cdLo ocLm kVLm dcLm pmLm ctLm cdLm ocMk kVMk dcMk pmMk ctMk cdMk ocFt kVFt dcFt pmFt ctFt cdFt ocLn kVLn dcLn pmLn ctLn cdLn ocSo kVSo dcSo pmSo ctSo cdSo ocLx kVLx dcLx pmLx ctLx cdLx ocTd kVTd dcTd pmTd ctTd cdTd ocNr kVNr dcNr pmNr ctNr cdNr ocMy kVMy dcMy pmMy ctMy cdMy ocLg kVLg dcLg pmLg ctLg cdLg ocRw kVRw dcRw pmRw ctRw cdRw ocLa kVLa dcLa pmLa ctLa cdLa ocIt kVIt dcIt pmIt ctIt cdIt : Value} {t24 t40 : Nat}
    (nOr : PySem.W.nsIn K mainGlobals "row_order" = some (some (.ref fOr)))
    (lOr : K.lookup fOr = some ⟨ocOr, odOr, .func (PySem.W.fnOf "row_order" "row_order" (defArgs sOrder) (defBody sOrder) (defScope sOrder) .none kVOr dcOr pmOr anOr cdOr ctOr), slOr⟩)
    (cOr : PySem.W.codeIn K cdOr "row_order" = true) (kOr : PySem.W.keepIn K (.ref fOr) = true)
    (nAs : PySem.W.nsIn K mainGlobals "ascending" = some (some (.ref fAs)))
    (lAs : K.lookup fAs = some ⟨ocAs, odAs, .func (PySem.W.fnOf "ascending" "ascending" (defArgs sAsc) (defBody sAsc) (defScope sAsc) .none kVAs dcAs pmAs anAs cdAs ctAs), slAs⟩)
    (cAs : PySem.W.codeIn K cdAs "ascending" = true) (kAs : PySem.W.keepIn K (.ref fAs) = true)
    (nIn : PySem.W.nsIn K mainGlobals "in_order" = some (some (.ref fIn)))
    (lIn : K.lookup fIn = some ⟨ocIn, odIn, .func (PySem.W.fnOf "in_order" "in_order" (defArgs sInOrder) (defBody sInOrder) (defScope sInOrder) .none kVIn dcIn pmIn anIn cdIn ctIn), slIn⟩)
    (cIn : PySem.W.codeIn K cdIn "in_order" = true) (kIn : PySem.W.keepIn K (.ref fIn) = true)
    (nWi : PySem.W.nsIn K mainGlobals "within" = some (some (.ref fWi)))
    (lWi : K.lookup fWi = some ⟨ocWi, odWi, .func (PySem.W.fnOf "within" "within" (defArgs sWithin) (defBody sWithin) (defScope sWithin) .none kVWi dcWi pmWi anWi cdWi ctWi), slWi⟩)
    (cWi : PySem.W.codeIn K cdWi "within" = true) (kWi : PySem.W.keepIn K (.ref fWi) = true)
    (nBe : PySem.W.nsIn K mainGlobals "begun" = some (some (.ref fBe)))
    (lBe : K.lookup fBe = some ⟨ocBe, odBe, .func (PySem.W.fnOf "begun" "begun" (defArgs sBegun) (defBody sBegun) (defScope sBegun) .none kVBe dcBe pmBe anBe cdBe ctBe), slBe⟩)
    (cBe : PySem.W.codeIn K cdBe "begun" = true) (kBe : PySem.W.keepIn K (.ref fBe) = true)
    (nFw : PySem.W.nsIn K mainGlobals "few_least_rows" = some (some (.ref fFw)))
    (lFw : K.lookup fFw = some ⟨ocFw, odFw, .func (PySem.W.fnOf "few_least_rows" "few_least_rows" (defArgs sFew) (defBody sFew) (defScope sFew) .none kVFw dcFw pmFw anFw cdFw ctFw), slFw⟩)
    (cFw : PySem.W.codeIn K cdFw "few_least_rows" = true) (kFw : PySem.W.keepIn K (.ref fFw) = true)
    (nOd : PySem.W.nsIn K mainGlobals "own_deeds" = some (some (.ref fOd)))
    (lOd : K.lookup fOd = some ⟨ocOd, odOd, .func (PySem.W.fnOf "own_deeds" "own_deeds" (defArgs sOwnD) (defBody sOwnD) (defScope sOwnD) .none kVOd dcOd pmOd anOd cdOd ctOd), slOd⟩)
    (cOd : PySem.W.codeIn K cdOd "own_deeds" = true) (kOd : PySem.W.keepIn K (.ref fOd) = true)
    (nIx : PySem.W.nsIn K mainGlobals "is_exact" = some (some (.ref fIx)))
    (lIx : K.lookup fIx = some ⟨ocIx, odIx, .func (PySem.W.fnOf "is_exact" "is_exact" (defArgs sExact) (defBody sExact) (defScope sExact) .none kVIx dcIx pmIx anIx cdIx ctIx), slIx⟩)
    (cIx : PySem.W.codeIn K cdIx "is_exact" = true) (kIx : PySem.W.keepIn K (.ref fIx) = true)
    (nNe : PySem.W.nsIn K mainGlobals "needs" = some (some (.ref fNe)))
    (lNe : K.lookup fNe = some ⟨ocNe, odNe, .func (PySem.W.fnOf "needs" "needs" (defArgs sNeeds) (defBody sNeeds) (defScope sNeeds) .none kVNe dcNe pmNe anNe cdNe ctNe), slNe⟩)
    (cNe : PySem.W.codeIn K cdNe "needs" = true) (kNe : PySem.W.keepIn K (.ref fNe) = true)
    (nUm : PySem.W.nsIn K mainGlobals "unmade" = some (some (.ref fUm)))
    (lUm : K.lookup fUm = some ⟨ocUm, odUm, .func (PySem.W.fnOf "unmade" "unmade" (defArgs sUnmade) (defBody sUnmade) (defScope sUnmade) .none kVUm dcUm pmUm anUm cdUm ctUm), slUm⟩)
    (cUm : PySem.W.codeIn K cdUm "unmade" = true) (kUm : PySem.W.keepIn K (.ref fUm) = true)
    (nBx : PySem.W.nsIn K mainGlobals "_law_box" = some (some (.ref fBx)))
    (lBx : K.lookup fBx = some ⟨ocBx, odBx, .func (PySem.W.fnOf "_law_box" "_law_box" (defArgs sBox) (defBody sBox) (defScope sBox) .none kVBx dcBx pmBx anBx cdBx ctBx), slBx⟩)
    (cBx : PySem.W.codeIn K cdBx "_law_box" = true) (kBx : PySem.W.keepIn K (.ref fBx) = true)
    (nTk : PySem.W.nsIn K mainGlobals "_law_take" = some (some (.ref fTk)))
    (lTk : K.lookup fTk = some ⟨ocTk, odTk, .func (PySem.W.fnOf "_law_take" "_law_take" (defArgs sTake) (defBody sTake) (defScope sTake) .none kVTk dcTk pmTk anTk cdTk ctTk), slTk⟩)
    (cTk : PySem.W.codeIn K cdTk "_law_take" = true) (kTk : PySem.W.keepIn K (.ref fTk) = true)
    (nPk : PySem.W.nsIn K mainGlobals "_law_pick" = some (some (.ref fPk)))
    (lPk : K.lookup fPk = some ⟨ocPk, odPk, .func (PySem.W.fnOf "_law_pick" "_law_pick" (defArgs sPick) (defBody sPick) (defScope sPick) .none kVPk dcPk pmPk anPk cdPk ctPk), slPk⟩)
    (cPk : PySem.W.codeIn K cdPk "_law_pick" = true) (kPk : PySem.W.keepIn K (.ref fPk) = true)
    (nNs : PySem.W.nsIn K mainGlobals "_law_names" = some (some (.ref fNs)))
    (lNs : K.lookup fNs = some ⟨ocNs, odNs, .func (PySem.W.fnOf "_law_names" "_law_names" (defArgs sNames) (defBody sNames) (defScope sNames) .none kVNs dcNs pmNs anNs cdNs ctNs), slNs⟩)
    (cNs : PySem.W.codeIn K cdNs "_law_names" = true) (kNs : PySem.W.keepIn K (.ref fNs) = true)
    (nLi : PySem.W.nsIn K mainGlobals "_law_within" = some (some (.ref fLi)))
    (lLi : K.lookup fLi = some ⟨ocLi, odLi, .func (PySem.W.fnOf "_law_within" "_law_within" (defArgs sLawIn) (defBody sLawIn) (defScope sLawIn) .none kVLi dcLi pmLi anLi cdLi ctLi), slLi⟩)
    (cLi : PySem.W.codeIn K cdLi "_law_within" = true) (kLi : PySem.W.keepIn K (.ref fLi) = true)
    (nLo : PySem.W.nsIn K mainGlobals "_law_order" = some (some (.ref fLo)))
    (lLo : K.lookup fLo = some ⟨ocLo, odLo, .func (PySem.W.fnOf "_law_order" "_law_order" (defArgs sLawOrd) (defBody sLawOrd) (defScope sLawOrd) .none kVLo dcLo pmLo anLo cdLo ctLo), slLo⟩)
    (cLo : PySem.W.codeIn K cdLo "_law_order" = true) (kLo : PySem.W.keepIn K (.ref fLo) = true)
    (nLm : PySem.W.nsIn K mainGlobals "_law_made" = some (some (.ref fLm)))
    (lLm : K.lookup fLm = some ⟨ocLm, odLm, .func (PySem.W.fnOf "_law_made" "_law_made" (defArgs sLawMade) (defBody sLawMade) (defScope sLawMade) .none kVLm dcLm pmLm anLm cdLm ctLm), slLm⟩)
    (cLm : PySem.W.codeIn K cdLm "_law_made" = true) (kLm : PySem.W.keepIn K (.ref fLm) = true)
    (nMk : PySem.W.nsIn K mainGlobals "_law_making" = some (some (.ref fMk)))
    (lMk : K.lookup fMk = some ⟨ocMk, odMk, .func (PySem.W.fnOf "_law_making" "_law_making" (defArgs sMaking) (defBody sMaking) (defScope sMaking) .none kVMk dcMk pmMk anMk cdMk ctMk), slMk⟩)
    (cMk : PySem.W.codeIn K cdMk "_law_making" = true) (kMk : PySem.W.keepIn K (.ref fMk) = true)
    (nFt : PySem.W.nsIn K mainGlobals "_law_fitted" = some (some (.ref fFt)))
    (lFt : K.lookup fFt = some ⟨ocFt, odFt, .func (PySem.W.fnOf "_law_fitted" "_law_fitted" (defArgs sFitted) (defBody sFitted) (defScope sFitted) .none kVFt dcFt pmFt anFt cdFt ctFt), slFt⟩)
    (cFt : PySem.W.codeIn K cdFt "_law_fitted" = true) (kFt : PySem.W.keepIn K (.ref fFt) = true)
    (nLn : PySem.W.nsIn K mainGlobals "_law_lines" = some (some (.ref fLn)))
    (lLn : K.lookup fLn = some ⟨ocLn, odLn, .func (PySem.W.fnOf "_law_lines" "_law_lines" (defArgs sLines) (defBody sLines) (defScope sLines) .none kVLn dcLn pmLn anLn cdLn ctLn), slLn⟩)
    (cLn : PySem.W.codeIn K cdLn "_law_lines" = true) (kLn : PySem.W.keepIn K (.ref fLn) = true)
    (nSo : PySem.W.nsIn K mainGlobals "_law_sources" = some (some (.ref fSo)))
    (lSo : K.lookup fSo = some ⟨ocSo, odSo, .func (PySem.W.fnOf "_law_sources" "_law_sources" (defArgs sSources) (defBody sSources) (defScope sSources) .none kVSo dcSo pmSo anSo cdSo ctSo), slSo⟩)
    (cSo : PySem.W.codeIn K cdSo "_law_sources" = true) (kSo : PySem.W.keepIn K (.ref fSo) = true)
    (nLx : PySem.W.nsIn K mainGlobals "_law_is_exact" = some (some (.ref fLx)))
    (lLx : K.lookup fLx = some ⟨ocLx, odLx, .func (PySem.W.fnOf "_law_is_exact" "_law_is_exact" (defArgs sLawEx) (defBody sLawEx) (defScope sLawEx) .none kVLx dcLx pmLx anLx cdLx ctLx), slLx⟩)
    (cLx : PySem.W.codeIn K cdLx "_law_is_exact" = true) (kLx : PySem.W.keepIn K (.ref fLx) = true)
    (nTd : PySem.W.nsIn K mainGlobals "_law_told" = some (some (.ref fTd)))
    (lTd : K.lookup fTd = some ⟨ocTd, odTd, .func (PySem.W.fnOf "_law_told" "_law_told" (defArgs sTold) (defBody sTold) (defScope sTold) .none kVTd dcTd pmTd anTd cdTd ctTd), slTd⟩)
    (cTd : PySem.W.codeIn K cdTd "_law_told" = true) (kTd : PySem.W.keepIn K (.ref fTd) = true)
    (nNr : PySem.W.nsIn K mainGlobals "_law_needs_right" = some (some (.ref fNr)))
    (lNr : K.lookup fNr = some ⟨ocNr, odNr, .func (PySem.W.fnOf "_law_needs_right" "_law_needs_right" (defArgs sNeedsR) (defBody sNeedsR) (defScope sNeedsR) .none kVNr dcNr pmNr anNr cdNr ctNr), slNr⟩)
    (cNr : PySem.W.codeIn K cdNr "_law_needs_right" = true) (kNr : PySem.W.keepIn K (.ref fNr) = true)
    (nMy : PySem.W.nsIn K mainGlobals "_law_many_right" = some (some (.ref fMy)))
    (lMy : K.lookup fMy = some ⟨ocMy, odMy, .func (PySem.W.fnOf "_law_many_right" "_law_many_right" (defArgs sManyR) (defBody sManyR) (defScope sManyR) .none kVMy dcMy pmMy anMy cdMy ctMy), slMy⟩)
    (cMy : PySem.W.codeIn K cdMy "_law_many_right" = true) (kMy : PySem.W.keepIn K (.ref fMy) = true)
    (nLg : PySem.W.nsIn K mainGlobals "_law_long_right" = some (some (.ref fLg)))
    (lLg : K.lookup fLg = some ⟨ocLg, odLg, .func (PySem.W.fnOf "_law_long_right" "_law_long_right" (defArgs sLongR) (defBody sLongR) (defScope sLongR) .none kVLg dcLg pmLg anLg cdLg ctLg), slLg⟩)
    (cLg : PySem.W.codeIn K cdLg "_law_long_right" = true) (kLg : PySem.W.keepIn K (.ref fLg) = true)
    (nRw : PySem.W.nsIn K mainGlobals "_law_row" = some (some (.ref fRw)))
    (lRw : K.lookup fRw = some ⟨ocRw, odRw, .func (PySem.W.fnOf "_law_row" "_law_row" (defArgs sRow) (defBody sRow) (defScope sRow) .none kVRw dcRw pmRw anRw cdRw ctRw), slRw⟩)
    (cRw : PySem.W.codeIn K cdRw "_law_row" = true) (kRw : PySem.W.keepIn K (.ref fRw) = true)
    (nLa : PySem.W.nsIn K mainGlobals "law" = some (some (.ref fLa)))
    (lLa : K.lookup fLa = some ⟨ocLa, odLa, .func (PySem.W.fnOf "law" "law" (defArgs sLaw) (defBody sLaw) (defScope sLaw) .none kVLa dcLa pmLa anLa cdLa ctLa), slLa⟩)
    (cLa : PySem.W.codeIn K cdLa "law" = true) (kLa : PySem.W.keepIn K (.ref fLa) = true)
    {nm q : Str} {Nn : Addr} {bs bm : List Value} {sn : List Str} {sub : List Value} {ab : Bool} {col : Option Bool} {dd : Option Addr} {m0 m1 m2 m3 m5 : Option Value}
    (aC : PySem.W.nsIn K mainGlobals "Refused" = some (some (.ref C)))
    (xL : K.lookup C = some (excClassObj nm q C Nn bs bm true sn sub ab col dd m0 m1 m2 m3 m5 "ValueError.__new__")) (hbm : PySem.HandSPX.refsVE bm = true)
    (sa : PySem.W.findIn K (.ref C) "__setattr__" = some (some (.builtin "object.__setattr__"))) (ga : PySem.W.findIn K (.ref C) "__getattribute__" = some (some (.builtin "BaseException.__getattribute__"))) (gg : PySem.W.findIn K (.ref C) "__getattr__" = some none) (nAt : PySem.W.findIn K (.ref C) "word" = some none)
    (aIt : PySem.W.findIn K (.ref C) "__init__" = some (some (.ref fIt))) (tIt : PySem.W.typeIn K (.ref fIt) = some (.type "function"))
    (lIt : K.lookup fIt = some ⟨ocIt, odIt, .func (PySem.W.fnOf "__init__" "Refused.__init__" (defArgs sRefInit) (defBody sRefInit) (defScope sRefInit) .none kVIt dcIt pmIt anIt cdIt ctIt), slIt⟩) (cIt : PySem.W.codeIn K cdIt "Refused.__init__" = true) (kIt : PySem.W.keepIn K (.ref fIt) = true)
    (kC : PySem.W.keepIn K (.ref C) = true) (eC : PySem.W.subIn K (.ref C) (.type "BaseException") = some true) (tC : PySem.W.typeIn K (.ref C) = some (.type "type")) (hC : PySem.W.hasDictIn K C = true) (iC : PySem.W.isClsIn K C = true) (sC : PySem.W.subIn K (.ref C) (.ref C) = some true)
    (v24 : PySem.W.nsIn K mainGlobals "LONGEST_ROW" = some (some (.int 24 t24))) (v40 : PySem.W.nsIn K mainGlobals "MOST_NEEDS" = some (some (.int 40 t40)))
    (z0 : PySem.W.nsIn K mainGlobals "len" = some none) (z1 : PySem.W.nsIn K mainGlobals "range" = some none) (z2 : PySem.W.nsIn K mainGlobals "iter" = some none) (z3 : PySem.W.nsIn K mainGlobals "enumerate" = some none) (z4 : PySem.W.nsIn K mainGlobals "reversed" = some none) (z5 : PySem.W.nsIn K mainGlobals "tuple" = some none) (z6 : PySem.W.nsIn K mainGlobals "list" = some none) (z7 : PySem.W.nsIn K mainGlobals "sorted" = some none) (z8 : PySem.W.nsIn K mainGlobals "any" = some none) (z9 : PySem.W.nsIn K mainGlobals "all" = some none) (z10 : PySem.W.nsIn K mainGlobals "int" = some none) (z11 : PySem.W.nsIn K mainGlobals "str" = some none) (z12 : PySem.W.nsIn K mainGlobals "bool" = some none) (z13 : PySem.W.nsIn K mainGlobals "abs" = some none) (z14 : PySem.W.nsIn K mainGlobals "min" = some none) (z15 : PySem.W.nsIn K mainGlobals "max" = some none) (z16 : PySem.W.nsIn K mainGlobals "sum" = some none) (z17 : PySem.W.nsIn K mainGlobals "isinstance" = some none) (z18 : PySem.W.nsIn K mainGlobals "ValueError" = some none) :
    LamX.LawAtS l w K CX0 7 63 "script" mg fa h := by
  have e := hfa.symm.trans (PySem.W.mg_of X G nLa)
  cases e
  have N : Nones mg := ⟨PySem.W.mg_none_of X G z0, PySem.W.mg_none_of X G z1, PySem.W.mg_none_of X G z2, PySem.W.mg_none_of X G z3, PySem.W.mg_none_of X G z4, PySem.W.mg_none_of X G z5, PySem.W.mg_none_of X G z6, PySem.W.mg_none_of X G z7, PySem.W.mg_none_of X G z8, PySem.W.mg_none_of X G z9, PySem.W.mg_none_of X G z10, PySem.W.mg_none_of X G z11, PySem.W.mg_none_of X G z12, PySem.W.mg_none_of X G z13, PySem.W.mg_none_of X G z14, PySem.W.mg_none_of X G z15, PySem.W.mg_none_of X G z16, PySem.W.mg_none_of X G z17, PySem.W.mg_none_of X G z18⟩
  have FOr := fun_mk (st := sOrder) lOr cOr kOr
  have gOr := PySem.W.mg_of X G nOr
  have bOr := FOr.binds (ps := ["row"]) fun _ _ _ _ _ _ us hl => match us, hl with | [_], _ => rfl
  have FAs := fun_mk (st := sAsc) lAs cAs kAs
  have gAs := PySem.W.mg_of X G nAs
  have bAs := FAs.binds (ps := ["table"]) fun _ _ _ _ _ _ us hl => match us, hl with | [_], _ => rfl
  have FIn := fun_mk (st := sInOrder) lIn cIn kIn
  have gIn := PySem.W.mg_of X G nIn
  have bIn := FIn.binds (ps := ["rows"]) fun _ _ _ _ _ _ us hl => match us, hl with | [_], _ => rfl
  have FWi := fun_mk (st := sWithin) lWi cWi kWi
  have gWi := PySem.W.mg_of X G nWi
  have bWi := FWi.binds (ps := ["u", "v"]) fun _ _ _ _ _ _ us hl => match us, hl with | [_, _], _ => rfl
  have FBe := fun_mk (st := sBegun) lBe cBe kBe
  have gBe := PySem.W.mg_of X G nBe
  have bBe := FBe.binds (ps := ["row", "other"]) fun _ _ _ _ _ _ us hl => match us, hl with | [_, _], _ => rfl
  have FFw := fun_mk (st := sFew) lFw cFw kFw
  have gFw := PySem.W.mg_of X G nFw
  have bFw := FFw.binds (ps := ["rows", "most"]) fun _ _ _ _ _ _ us hl => match us, hl with | [_, _], _ => rfl
  have FOd := fun_mk (st := sOwnD) lOd cOd kOd
  have gOd := PySem.W.mg_of X G nOd
  have bOd := FOd.binds (ps := ["making"]) fun _ _ _ _ _ _ us hl => match us, hl with | [_], _ => rfl
  have FIx := fun_mk (st := sExact) lIx cIx kIx
  have gIx := PySem.W.mg_of X G nIx
  have bIx := FIx.binds (ps := ["making"]) fun _ _ _ _ _ _ us hl => match us, hl with | [_], _ => rfl
  have FNe := fun_mk (st := sNeeds) lNe cNe kNe
  have gNe := PySem.W.mg_of X G nNe
  have bNe := FNe.binds (ps := ["making", "row"]) fun _ _ _ _ _ _ us hl => match us, hl with | [_, _], _ => rfl
  have FUm := fun_mk (st := sUnmade) lUm cUm kUm
  have gUm := PySem.W.mg_of X G nUm
  have bUm := FUm.binds (ps := ["making", "row"]) fun _ _ _ _ _ _ us hl => match us, hl with | [_, _], _ => rfl
  have FBx := fun_mk (st := sBox) lBx cBx kBx
  have gBx := PySem.W.mg_of X G nBx
  have bBx := FBx.binds (ps := ["script", "k"]) fun _ _ _ _ _ _ us hl => match us, hl with | [_, _], _ => rfl
  have FTk := fun_mk (st := sTake) lTk cTk kTk
  have gTk := PySem.W.mg_of X G nTk
  have bTk := FTk.binds (ps := ["box", "many"]) fun _ _ _ _ _ _ us hl => match us, hl with | [_, _], _ => rfl
  have FPk := fun_mk (st := sPick) lPk cPk kPk
  have gPk := PySem.W.mg_of X G nPk
  have bPk := FPk.binds (ps := ["box", "some"]) fun _ _ _ _ _ _ us hl => match us, hl with | [_, _], _ => rfl
  have FNs := fun_mk (st := sNames) lNs cNs kNs
  have gNs := PySem.W.mg_of X G nNs
  have bNs := FNs.binds (ps := ["box", "many"]) fun _ _ _ _ _ _ us hl => match us, hl with | [_, _], _ => rfl
  have FLi := fun_mk (st := sLawIn) lLi cLi kLi
  have gLi := PySem.W.mg_of X G nLi
  have bLi := FLi.binds (ps := ["u", "v"]) fun _ _ _ _ _ _ us hl => match us, hl with | [_, _], _ => rfl
  have FLo := fun_mk (st := sLawOrd) lLo cLo kLo
  have gLo := PySem.W.mg_of X G nLo
  have bLo := FLo.binds (ps := ["rows"]) fun _ _ _ _ _ _ us hl => match us, hl with | [_], _ => rfl
  have FLm := fun_mk (st := sLawMade) lLm cLm kLm
  have gLm := PySem.W.mg_of X G nLm
  have bLm := FLm.binds (ps := ["making", "row"]) fun _ _ _ _ _ _ us hl => match us, hl with | [_, _], _ => rfl
  have FMk := fun_mk (st := sMaking) lMk cMk kMk
  have gMk := PySem.W.mg_of X G nMk
  have bMk := FMk.binds (ps := ["box", "names", "letters", "most"]) fun _ _ _ _ _ _ us hl => match us, hl with | [_, _, _, _], _ => rfl
  have FFt := fun_mk (st := sFitted) lFt cFt kFt
  have gFt := PySem.W.mg_of X G nFt
  have bFt := FFt.binds (ps := ["row", "place", "shown"]) fun _ _ _ _ _ _ us hl => match us, hl with | [_, _, _], _ => rfl
  have FLn := fun_mk (st := sLines) lLn cLn kLn
  have gLn := PySem.W.mg_of X G nLn
  have bLn := FLn.binds (ps := ["making", "row"]) fun _ _ _ _ _ _ us hl => match us, hl with | [_, _], _ => rfl
  have FSo := fun_mk (st := sSources) lSo cSo kSo
  have gSo := PySem.W.mg_of X G nSo
  have bSo := FSo.binds (ps := ["making", "row"]) fun _ _ _ _ _ _ us hl => match us, hl with | [_, _], _ => rfl
  have FLx := fun_mk (st := sLawEx) lLx cLx kLx
  have gLx := PySem.W.mg_of X G nLx
  have bLx := FLx.binds (ps := ["making"]) fun _ _ _ _ _ _ us hl => match us, hl with | [_], _ => rfl
  have FTd := fun_mk (st := sTold) lTd cTd kTd
  have gTd := PySem.W.mg_of X G nTd
  have bTd := FTd.binds (ps := ["making", "row", "back"]) fun _ _ _ _ _ _ us hl => match us, hl with | [_, _, _], _ => rfl
  have FNr := fun_mk (st := sNeedsR) lNr cNr kNr
  have gNr := PySem.W.mg_of X G nNr
  have bNr := FNr.binds (ps := ["making", "row"]) fun _ _ _ _ _ _ us hl => match us, hl with | [_, _], _ => rfl
  have FMy := fun_mk (st := sManyR) lMy cMy kMy
  have gMy := PySem.W.mg_of X G nMy
  have bMy := FMy.binds (ps := ["names", "sizes", "lost"]) fun _ _ _ _ _ _ us hl => match us, hl with | [_, _, _], _ => rfl
  have FLg := fun_mk (st := sLongR) lLg cLg kLg
  have gLg := PySem.W.mg_of X G nLg
  have bLg := FLg.binds (ps := ["box", "names", "size"]) fun _ _ _ _ _ _ us hl => match us, hl with | [_, _, _], _ => rfl
  have FRw := fun_mk (st := sRow) lRw cRw kRw
  have gRw := PySem.W.mg_of X G nRw
  have bRw := FRw.binds (ps := ["box", "making", "names", "letters"]) fun _ _ _ _ _ _ us hl => match us, hl with | [_, _, _, _], _ => rfl
  have FLa := fun_mk (st := sLaw) lLa cLa kLa
  have gLa := PySem.W.mg_of X G nLa
  have bLa := FLa.binds (ps := ["script"]) fun _ _ _ _ _ _ us hl => match us, hl with | [_], _ => rfl
  have FIt := fun_mk (st := sRefInit) lIt cIt kIt
  have bIt := FIt.binds (ps := ["self", "word"]) fun _ _ _ _ _ _ us hl => match us, hl with | [_, _], _ => rfl
  have kbNe : KBinds K _ ["making", "row"] ["row", "making"] Ka.swG Ka.swG := Ka.kb_swap (fd := PySem.W.fnOf "needs" "needs" (defArgs sNeeds) (defBody sNeeds) (defScope sNeeds) .none kVNe dcNe pmNe anNe cdNe ctNe) fun x y => rfl
  have kbUm : KBinds K _ ["making", "row"] ["row", "making"] Ka.swG Ka.swG := Ka.kb_swap (fd := PySem.W.fnOf "unmade" "unmade" (defArgs sUnmade) (defBody sUnmade) (defScope sUnmade) .none kVUm dcUm pmUm anUm cdUm ctUm) fun x y => rfl
  have gC := PySem.W.mg_of X G aC
  have oex : OexC K C := ⟨⟨nm, q, Nn, bs, bm, sn, sub, ab, col, dd, m0, m1, m2, m3, m5, xL, hbm⟩, sa, eC, tC, kC⟩
  have R : RefC K mg C fIt _ := ⟨oex, aIt, tIt, nAt, gC, FIt, bIt⟩
  have Z : CatchC K C := ⟨PySem.W.exm_ref eC hC tC sC, ⟨ga, gg, eC, hC⟩⟩
  refine ⟨PySem.W.fnOf "law" "law" (defArgs sLaw) (defBody sLaw) (defScope sLaw) .none kVLa dcLa pmLa anLa cdLa ctLa, [], spLaw K, (fun p hp => by cases hp), (fun p hp => by cases hp), (fun p hp => by cases hp), fun s u => BindsTo.of_eq rfl, fun H a ns hl hb hP hS => ?_, fun base hb hg hTB => ?_⟩
  · exact ⟨a, ns, rfl, hS, fun H' => rfl⟩
  · obtain ⟨NC, eD, eU, eC'⟩ : ∃ NC : NeedC K mg, NC.dN = (PySem.W.fnOf "needs" "needs" (defArgs sNeeds) (defBody sNeeds) (defScope sNeeds) .none kVNe dcNe pmNe anNe cdNe ctNe) ∧ NC.dU = (PySem.W.fnOf "unmade" "unmade" (defArgs sUnmade) (defBody sUnmade) (defScope sUnmade) .none kVUm dcUm pmUm anUm cdUm ctUm) ∧ NC.C = C :=
      ⟨⟨fNe, fUm, fIn, fOr, fWi, fFw, fBe, fIx, fOd, fAs, C, fIt, _, _, _, _, _, _, _, _, _, _, _, t24, t40, R, FNe, bNe, gNe, FUm, bUm, gUm, FFw, bFw, gFw, FIn, bIn, gIn, FOr, gOr, FWi, bWi, gWi, FBe, bBe, gBe, FIx, bIx, gIx, FOd, bOd, gOd, FAs, bAs, gAs, PySem.W.mg_of X G v24, PySem.W.mg_of X G v40, N⟩, rfl, rfl, rfl⟩
    have ZC : CatchC K NC.C := by rw [eC']; exact Z
    obtain ⟨LC, eL⟩ : ∃ LC : LawC K mg, LC.T = NC := ⟨⟨fLn, fFt, fTd, fLo, fLi, fLm, _, _, _, _, _, _, NC, ZC, FLn, bLn, gLn, FFt, bFt, gFt, FTd, bTd, gTd, FLo, bLo, gLo, FLi, bLi, gLi, FLm, bLm, gLm⟩, rfl⟩
    have kN : KBinds K LC.T.dN ["making", "row"] ["row", "making"] Ka.swG Ka.swG := by rw [eL, eD]; exact kbNe
    have kU : KBinds K LC.T.dU ["making", "row"] ["row", "making"] Ka.swG Ka.swG := by rw [eL, eU]; exact kbUm
    exact ok_law FLa (ok_box FBx N.int N.len N.abs) ⟨kBx, bBx, gBx⟩ (ok_names FNs FTk bTk gTk N.int N.len N.range) ⟨kNs, bNs, gNs⟩ (ok_take FTk N.int) ⟨kTk, bTk, gTk⟩
      (ok_making FMk FTk bTk gTk FPk bPk gPk N.int N.len N.tuple N.range) ⟨kMk, bMk, gMk⟩ (ok_row FRw FTk bTk gTk FPk bPk gPk LC) ⟨kRw, bRw, gRw⟩ (ok_needsR FNr LC) ⟨kNr, bNr, gNr⟩ (ok_lawEx FLx N) ⟨kLx, bLx, gLx⟩
      (ok_sources FSo N) ⟨kSo, bSo, gSo⟩ (ok_manyR FMy LC) ⟨kMy, bMy, gMy⟩ (ok_longR FLg FTk bTk gTk LC kN kU) ⟨kLg, bLg, gLg⟩ LC
end Kb
open PySem PySem.W PyProof.Rows in
set_option maxHeartbeats 0 in
theorem PySem.Challenge.cw_stillowed_k84_rows_through_a_making_holds : PySem.Challenge.rw_stillowed_k84_rows_through_a_making.Holds := by
  w_on; o_law; k_head; (case hw => w_witness2)
  k_fill
  refine LamX.walk_ofTs (l := PySem.Challenge.rw_stillowed_k84_rows_through_a_making) (n := 63) (k := 7) (x := "script") (CX := fun _ => L2.CX0) rfl (by decide) rfl ⟨rfl, by decide, by decide⟩ (fun w h Y => PySem.W.kIn_of Y) ?F (fun _ _ _ _ _ z => z)
  case F =>
    intro w mg fa h Y KX G hmg
    refine' Kb.all_mk KX G hmg ?nOr ?lOr ?cOr ?kOr ?nAs ?lAs ?cAs ?kAs ?nIn ?lIn ?cIn ?kIn ?nWi ?lWi ?cWi ?kWi ?nBe ?lBe ?cBe ?kBe ?nFw ?lFw ?cFw ?kFw ?nOd ?lOd ?cOd ?kOd ?nIx ?lIx ?cIx ?kIx ?nNe ?lNe ?cNe ?kNe ?nUm ?lUm ?cUm ?kUm ?nBx ?lBx ?cBx ?kBx ?nTk ?lTk ?cTk ?kTk ?nPk ?lPk ?cPk ?kPk ?nNs ?lNs ?cNs ?kNs ?nLi ?lLi ?cLi ?kLi ?nLo ?lLo ?cLo ?kLo ?nLm ?lLm ?cLm ?kLm ?nMk ?lMk ?cMk ?kMk ?nFt ?lFt ?cFt ?kFt ?nLn ?lLn ?cLn ?kLn ?nSo ?lSo ?cSo ?kSo ?nLx ?lLx ?cLx ?kLx ?nTd ?lTd ?cTd ?kTd ?nNr ?lNr ?cNr ?kNr ?nMy ?lMy ?cMy ?kMy ?nLg ?lLg ?cLg ?kLg ?nRw ?lRw ?cRw ?kRw ?nLa ?lLa ?cLa ?kLa ?aC ?xL ?hbm ?sa ?ga ?gg ?nAt ?aIt ?tIt ?lIt ?cIt ?kIt ?kC ?eC ?tC ?hC ?iC ?sC ?v24 ?v40 ?z0 ?z1 ?z2 ?z3 ?z4 ?z5 ?z6 ?z7 ?z8 ?z9 ?z10 ?z11 ?z12 ?z13 ?z14 ?z15 ?z16 ?z17 ?z18
    (case nOr => k_is)
    (case lOr => k_is)
    (case cOr => k_is)
    (case kOr => k_is)
    (case nAs => k_is)
    (case lAs => k_is)
    (case cAs => k_is)
    (case kAs => k_is)
    (case nIn => k_is)
    (case lIn => k_is)
    (case cIn => k_is)
    (case kIn => k_is)
    (case nWi => k_is)
    (case lWi => k_is)
    (case cWi => k_is)
    (case kWi => k_is)
    (case nBe => k_is)
    (case lBe => k_is)
    (case cBe => k_is)
    (case kBe => k_is)
    (case nFw => k_is)
    (case lFw => k_is)
    (case cFw => k_is)
    (case kFw => k_is)
    (case nOd => k_is)
    (case lOd => k_is)
    (case cOd => k_is)
    (case kOd => k_is)
    (case nIx => k_is)
    (case lIx => k_is)
    (case cIx => k_is)
    (case kIx => k_is)
    (case nNe => k_is)
    (case lNe => k_is)
    (case cNe => k_is)
    (case kNe => k_is)
    (case nUm => k_is)
    (case lUm => k_is)
    (case cUm => k_is)
    (case kUm => k_is)
    (case nBx => k_is)
    (case lBx => k_is)
    (case cBx => k_is)
    (case kBx => k_is)
    (case nTk => k_is)
    (case lTk => k_is)
    (case cTk => k_is)
    (case kTk => k_is)
    (case nPk => k_is)
    (case lPk => k_is)
    (case cPk => k_is)
    (case kPk => k_is)
    (case nNs => k_is)
    (case lNs => k_is)
    (case cNs => k_is)
    (case kNs => k_is)
    (case nLi => k_is)
    (case lLi => k_is)
    (case cLi => k_is)
    (case kLi => k_is)
    (case nLo => k_is)
    (case lLo => k_is)
    (case cLo => k_is)
    (case kLo => k_is)
    (case nLm => k_is)
    (case lLm => k_is)
    (case cLm => k_is)
    (case kLm => k_is)
    (case nMk => k_is)
    (case lMk => k_is)
    (case cMk => k_is)
    (case kMk => k_is)
    (case nFt => k_is)
    (case lFt => k_is)
    (case cFt => k_is)
    (case kFt => k_is)
    (case nLn => k_is)
    (case lLn => k_is)
    (case cLn => k_is)
    (case kLn => k_is)
    (case nSo => k_is)
    (case lSo => k_is)
    (case cSo => k_is)
    (case kSo => k_is)
    (case nLx => k_is)
    (case lLx => k_is)
    (case cLx => k_is)
    (case kLx => k_is)
    (case nTd => k_is)
    (case lTd => k_is)
    (case cTd => k_is)
    (case kTd => k_is)
    (case nNr => k_is)
    (case lNr => k_is)
    (case cNr => k_is)
    (case kNr => k_is)
    (case nMy => k_is)
    (case lMy => k_is)
    (case cMy => k_is)
    (case kMy => k_is)
    (case nLg => k_is)
    (case lLg => k_is)
    (case cLg => k_is)
    (case kLg => k_is)
    (case nRw => k_is)
    (case lRw => k_is)
    (case cRw => k_is)
    (case kRw => k_is)
    (case nLa => k_is)
    (case lLa => k_is)
    (case cLa => k_is)
    (case kLa => k_is)
    (case aC => k_is)
    (case xL => k_is)
    (case hbm => first | decide +kernel | rfl | k_is)
    (case sa => k_is)
    (case ga => k_is)
    (case gg => k_is)
    (case nAt => k_is)
    (case aIt => k_is)
    (case tIt => k_is)
    (case lIt => k_is)
    (case cIt => k_is)
    (case kIt => k_is)
    (case kC => k_is)
    (case eC => k_is)
    (case tC => k_is)
    (case hC => k_is)
    (case iC => k_is)
    (case sC => first | rfl | k_is)
    (case v24 => k_is)
    (case v40 => k_is)
    (case z0 => k_is)
    (case z1 => k_is)
    (case z2 => k_is)
    (case z3 => k_is)
    (case z4 => k_is)
    (case z5 => k_is)
    (case z6 => k_is)
    (case z7 => k_is)
    (case z8 => k_is)
    (case z9 => k_is)
    (case z10 => k_is)
    (case z11 => k_is)
    (case z12 => k_is)
    (case z13 => k_is)
    (case z14 => k_is)
    (case z15 => k_is)
    (case z16 => k_is)
    (case z17 => k_is)
    (case z18 => k_is)
