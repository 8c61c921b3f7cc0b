import PyProof.Rows.All
import Wide.All
import OpenK.AllK
import Wide.FinOn
import PyProof.TupleIter
import PyProof.WalksMore
import HandS.ForMost
import HandS.IterNext
import HandS.IterVal
import KE.GoesMore
import PyProof.EnumMake
import HandS.Style
import KE.SortKeyHeap
import KE.KLam
import KE.KDictCopyH
import HandS.SortKw
import HandS.Lambda
import HandS.DictComp
import HandS.Walk
import PySem.Challenge.RW_stillowed_k83_exact_makings
import HandS.Rev
import HandS.Evl
import HandS.TupLe
import HandS.Deep
import HandS.TupAny
import HandS.IsInst
import HandS.List
import HandS.RevRange
import HandS.More
import PyProof.P3Eq
import HandS.Codes
import HandS.StrMore
import HandS.ForExc
import HandS.SetFor
import HandS.Strs
import HandS.Finally
import HandS.NoneIn
import HandS.EndTab
import KE.KNestM
set_option Elab.async false
set_option linter.all false
set_option maxRecDepth 100000
set_option maxHeartbeats 8000000
/-! The mathematics of fits (own text; no part of the kit). -/
namespace Ka

variable {α : Type} [DecidableEq α]

/-- may the place stand behind the fit so far -/
def okAfter (fit : List Nat) (at_ : Nat) : Bool :=
  match fit.getLast? with
  | none => true
  | some l => decide (l < at_)

/-- the places by which a fit is lengthened -/
def nexts (v : List α) (x : α) (fit : List Nat) : List Nat :=
  (List.range v.length).filter fun i => decide (v[i]? = some x) && okAfter fit i

def growAll (v : List α) (x : α) (found : List (List Nat)) : List (List Nat) :=
  found.flatMap fun fit => (nexts v x fit).map fun i => fit ++ [i]

/-- all fits, as a loop over u finds them -/
def allFrom (v : List α) : List α → List (List Nat) → List (List Nat)
  | [], found => found
  | x :: u, found => allFrom v u (growAll v x found)

def allFits (u v : List α) : List (List Nat) := allFrom v u [[]]

theorem allFrom_append (v : List α) : ∀ (u w : List α) (found : List (List Nat)), allFrom v (u ++ w) found = allFrom v w (allFrom v u found)
  | [], _, _ => rfl
  | x :: u, w, found => allFrom_append v u w (growAll v x found)

theorem allFits_snoc (u : List α) (x : α) (v : List α) : allFits (u ++ [x]) v = growAll v x (allFits u v) := by
  unfold allFits
  rw [allFrom_append]
  rfl

/-! ### what a fit is -/
structure IsFit (u v : List α) (g : List Nat) : Prop where
  len : g.length = u.length
  asc : ∀ i j a b : Nat, i < j → g[i]? = some a → g[j]? = some b → a < b
  hit : ∀ i a : Nat, g[i]? = some a → v[a]? = u[i]?

theorem okAfter_iff (fit : List Nat) (i : Nat) : okAfter fit i = true ↔ ∀ l, fit.getLast? = some l → l < i := by
  unfold okAfter
  cases h : fit.getLast? with
  | none => simp
  | some l => simp

theorem mem_growAll {v : List α} {x : α} {found : List (List Nat)} {g : List Nat} :
    g ∈ growAll v x found ↔ ∃ fit i, fit ∈ found ∧ g = fit ++ [i] ∧ v[i]? = some x ∧ okAfter fit i = true := by
  unfold growAll nexts
  simp only [List.mem_flatMap, List.mem_map, List.mem_filter, List.mem_range, Bool.and_eq_true, decide_eq_true_eq]
  constructor
  · rintro ⟨fit, hf, i, ⟨hi, hx, ho⟩, rfl⟩
    exact ⟨fit, i, hf, rfl, hx, ho⟩
  · rintro ⟨fit, i, hf, rfl, hx, ho⟩
    refine ⟨fit, hf, i, ⟨?_, hx, ho⟩, rfl⟩
    exact (List.getElem?_eq_some_iff.mp hx).1

theorem snoc_get {β : Type} (l : List β) (x : β) (i : Nat) : (l ++ [x])[i]? = if i < l.length then l[i]? else if i = l.length then some x else none := by
  rw [List.getElem?_append]
  split
  · rfl
  · split
    · rename_i h1 h2
      subst h2
      simp
    · rename_i h1 h2
      have : 1 ≤ i - l.length := by omega
      rw [List.getElem?_eq_none]
      simpa using this

theorem isFit_snoc {u v : List α} {x : α} {fit : List Nat} {i : Nat} :
    IsFit (u ++ [x]) v (fit ++ [i]) ↔ IsFit u v fit ∧ v[i]? = some x ∧ okAfter fit i = true := by
  constructor
  · intro h
    have hl : fit.length = u.length := by
      have := h.len
      simp at this
      exact this
    refine ⟨⟨hl, fun a b p q hab hp hq => ?_, fun a p hp => ?_⟩, ?_, ?_⟩
    · have h1 := (List.getElem?_eq_some_iff.mp hp).1
      have h2 := (List.getElem?_eq_some_iff.mp hq).1
      refine h.asc a b p q hab ?_ ?_
      · rw [snoc_get, if_pos h1]; exact hp
      · rw [snoc_get, if_pos h2]; exact hq
    · have h1 := (List.getElem?_eq_some_iff.mp hp).1
      have := h.hit a p (by rw [snoc_get, if_pos h1]; exact hp)
      rw [this, snoc_get, if_pos (by omega)]
    · have := h.hit fit.length i (by rw [snoc_get, if_neg (Nat.lt_irrefl _), if_pos rfl])
      rw [this, snoc_get, if_neg (by omega), if_pos (by omega)]
    · rw [okAfter_iff]
      intro l hl'
      rw [List.getLast?_eq_getElem?] at hl'
      have h1 := (List.getElem?_eq_some_iff.mp hl').1
      exact h.asc (fit.length - 1) fit.length l i (by omega) (by rw [snoc_get, if_pos h1]; exact hl') (by rw [snoc_get, if_neg (Nat.lt_irrefl _), if_pos rfl])
  · rintro ⟨h, hx, ho⟩
    rw [okAfter_iff] at ho
    have hl := h.len
    refine ⟨by simp [hl], fun a b p q hab hp hq => ?_, fun a p hp => ?_⟩
    · rw [snoc_get] at hp hq
      split at hq
      · rename_i hb
        rw [if_pos (by omega)] at hp
        exact h.asc a b p q hab hp hq
      · split at hq
        · rename_i hb hb2
          cases hq
          rw [if_pos (by omega)] at hp
          have hlast : ∃ l, fit.getLast? = some l := by
            cases e : fit.getLast? with
            | none =>
              rw [List.getLast?_eq_none_iff] at e
              subst e
              simp at hb2
              omega
            | some l => exact ⟨l, rfl⟩
          obtain ⟨l, el⟩ := hlast
          have h1 := ho l el
          by_cases e : a = fit.length - 1
          · rw [List.getLast?_eq_getElem?, ← e, hp] at el
            cases el
            exact h1
          · rw [List.getLast?_eq_getElem?] at el
            have h2 : a < fit.length := by omega
            exact Nat.lt_trans (h.asc a (fit.length - 1) p l (by omega) hp el) h1
        · cases hq
    · rw [snoc_get] at hp
      split at hp
      · rename_i h1
        rw [h.hit a p hp, snoc_get, if_pos (by omega)]
      · split at hp
        · rename_i h1 h2
          cases hp
          rw [hx, snoc_get, if_neg (by omega), if_pos (by omega)]
        · cases hp

theorem isFit_nil {v : List α} {g : List Nat} : IsFit ([] : List α) v g ↔ g = [] := by
  constructor
  · intro h
    have := h.len
    simpa using this
  · rintro rfl
    exact ⟨rfl, fun i j a b _ h => by simp at h, fun i a h => by simp at h⟩

theorem snoc_ind {β : Type} {P : List β → Prop} (h0 : P []) (h1 : ∀ l x, P l → P (l ++ [x])) : ∀ l, P l := by
  intro l
  have : ∀ r : List β, P r.reverse := by
    intro r
    induction r with
    | nil => exact h0
    | cons x r ih => rw [List.reverse_cons]; exact h1 _ _ ih
  simpa using this l.reverse

theorem mem_allFits (v : List α) : ∀ (u : List α) (g : List Nat), g ∈ allFits u v ↔ IsFit u v g := by
  refine snoc_ind (fun g => ?_) fun u x ih g => ?_
  · rw [isFit_nil]
    simp [allFits, allFrom]
  · rw [allFits_snoc, mem_growAll]
    constructor
    · rintro ⟨fit, i, hf, rfl, hx, ho⟩
      exact isFit_snoc.mpr ⟨(ih fit).mp hf, hx, ho⟩
    · intro h
      have hl := h.len
      obtain ⟨fit, i, rfl⟩ : ∃ fit i, g = fit ++ [i] := by
        rcases List.eq_nil_or_concat g with e | ⟨fit, i, e⟩
        · subst e
          simp at hl
        · exact ⟨fit, i, by rw [e]; simp⟩
      obtain ⟨h1, h2, h3⟩ := isFit_snoc.mp h
      exact ⟨fit, i, (ih fit).mpr h1, rfl, h2, h3⟩

/-! ### how many fits there are -/
def cnt (u v : List α) : Nat := (allFits u v).length

theorem cnt_nil (v : List α) : cnt ([] : List α) v = 1 := rfl

theorem growAll_nil (x : α) (found : List (List Nat)) : growAll ([] : List α) x found = [] := by
  unfold growAll nexts
  simp

theorem cnt_snoc_nil (u : List α) (x : α) : cnt (u ++ [x]) ([] : List α) = 0 := by
  unfold cnt
  rw [allFits_snoc, growAll_nil]
  rfl

def low (n : Nat) (g : List Nat) : Bool := g.all fun i => decide (i < n)

theorem filter_map_comm {β γ : Type} (f : β → γ) (p : γ → Bool) (l : List β) : (l.map f).filter p = (l.filter (p ∘ f)).map f := List.filter_map

theorem nexts_snoc (v : List α) (d x : α) (fit : List Nat) :
    nexts (v ++ [d]) x fit = nexts v x fit ++ (if d = x ∧ okAfter fit v.length = true then [v.length] else []) := by
  unfold nexts
  rw [List.length_append, List.length_singleton, List.range_succ, List.filter_append]
  congr 1
  · apply List.filter_congr
    intro i hi
    have hi' : i < v.length := List.mem_range.mp hi
    rw [snoc_get, if_pos hi']
  · rw [List.filter_cons, List.filter_nil]
    rw [snoc_get, if_neg (Nat.lt_irrefl _), if_pos rfl]
    by_cases e : d = x
    · subst e
      simp
    · simp [e]

theorem nexts_lt {v : List α} {x : α} {fit : List Nat} {i : Nat} (h : i ∈ nexts v x fit) : i < v.length := by
  unfold nexts at h
  exact List.mem_range.mp (List.mem_filter.mp h).1

theorem low_snoc (n : Nat) (fit : List Nat) (i : Nat) : low n (fit ++ [i]) = (low n fit && decide (i < n)) := by
  unfold low
  simp

theorem last_high {v : List α} {fit : List Nat} {g : List Nat} {x : α} (h : fit.getLast? = some g.length) : True := trivial

/-- the fits in v ++ [d] that lie in v are those in v, in the same order -/
theorem filter_low (v : List α) (d : α) : ∀ u : List α, (∀ g ∈ allFits u (v ++ [d]), low v.length g = true ∨ g.getLast? = some v.length) ∧ (allFits u (v ++ [d])).filter (low v.length) = allFits u v := by
  refine snoc_ind ⟨fun g hg => ?_, ?_⟩ fun u x ih => ?_
  · have : g = [] := by simpa [allFits, allFrom] using hg
    subst this
    exact .inl rfl
  · rfl
  · obtain ⟨ih1, ih2⟩ := ih
    refine ⟨fun g hg => ?_, ?_⟩
    · rw [allFits_snoc, mem_growAll] at hg
      obtain ⟨fit, i, hf, rfl, hx, ho⟩ := hg
      have hi : i < (v ++ [d]).length := (List.getElem?_eq_some_iff.mp hx).1
      simp at hi
      rcases ih1 fit hf with h | h
      · by_cases e : i < v.length
        · left
          rw [low_snoc, h, decide_eq_true e]
          rfl
        · right
          have : i = v.length := by omega
          simp [this]
      · rw [okAfter_iff] at ho
        have := ho _ h
        omega
    · rw [allFits_snoc, allFits_snoc, ← ih2]
      unfold growAll
      generalize allFits u (v ++ [d]) = L at ih1
      clear ih2
      induction L with
      | nil => rfl
      | cons fit L ihL =>
        have ih1' : ∀ g ∈ L, low v.length g = true ∨ g.getLast? = some v.length := fun g hg => ih1 g (List.mem_cons_of_mem _ hg)
        rw [List.flatMap_cons, List.filter_append, ihL ih1', List.filter_cons]
        have hsplit : ((nexts (v ++ [d]) x fit).map fun i => fit ++ [i]).filter (low v.length) = if low v.length fit = true then (nexts v x fit).map fun i => fit ++ [i] else [] := by
          rw [List.filter_map, nexts_snoc, List.filter_append]
          have h2 : ((if d = x ∧ okAfter fit v.length = true then [v.length] else []).filter (low v.length ∘ fun i => fit ++ [i])) = [] := by
            split
            · simp [low_snoc]
            · rfl
          rw [h2, List.append_nil]
          by_cases hl : low v.length fit = true
          · rw [if_pos hl]
            congr 1
            rw [List.filter_eq_self]
            intro i hi
            have := nexts_lt hi
            simp [low_snoc, hl, this]
          · rw [if_neg hl]
            have : (nexts v x fit).filter (low v.length ∘ fun i => fit ++ [i]) = [] := by
              rw [List.filter_eq_nil_iff]
              intro i hi
              simp [low_snoc, hl]
            rw [this]
            rfl
        rw [hsplit]
        by_cases hl : low v.length fit = true
        · rw [if_pos hl, if_pos hl, List.flatMap_cons]
        · rw [if_neg hl, if_neg hl, List.nil_append]

theorem sum_nexts (v : List α) (x : α) (found : List (List Nat)) : (growAll v x found).length = (found.map fun fit => (nexts v x fit).length).sum := by
  unfold growAll
  rw [List.length_flatMap]
  congr 1
  apply List.map_congr_left
  intro fit _
  rw [List.length_map]

/-- the one recurrence -/
theorem cnt_snoc_snoc (u : List α) (x : α) (v : List α) (d : α) : cnt (u ++ [x]) (v ++ [d]) = cnt (u ++ [x]) v + (if d = x then cnt u v else 0) := by
  unfold cnt
  rw [allFits_snoc, allFits_snoc, sum_nexts, sum_nexts]
  obtain ⟨h1, h2⟩ := filter_low v d u
  rw [← h2]
  generalize allFits u (v ++ [d]) = L at h1
  clear h2
  induction L with
  | nil => simp
  | cons fit L ih =>
    have h1' : ∀ g ∈ L, low v.length g = true ∨ g.getLast? = some v.length := fun g hg => h1 g (List.mem_cons_of_mem _ hg)
    rw [List.map_cons, List.sum_cons, ih h1', List.filter_cons, nexts_snoc, List.length_append]
    rcases h1 fit (List.mem_cons_self) with h | h
    · rw [if_pos h, List.map_cons, List.sum_cons, List.length_cons]
      have ho : okAfter fit v.length = true := by
        rw [okAfter_iff]
        intro l hl
        have hm : l ∈ fit := List.mem_of_getLast? hl
        unfold low at h
        have := (List.all_eq_true.mp h) l hm
        simpa using this
      by_cases e : d = x
      · simp [e, ho]
        omega
      · simp [e]
        try omega
    · have hn : ¬ low v.length fit = true := by
        intro hl
        have hm : v.length ∈ fit := List.mem_of_getLast? h
        unfold low at hl
        have := (List.all_eq_true.mp hl) _ hm
        simp at this
      have ho : okAfter fit v.length = false := by
        unfold okAfter
        rw [h]
        simp
      have h0 : nexts v x fit = [] := by
        unfold nexts
        rw [List.filter_eq_nil_iff]
        intro i hi
        have hi' := List.mem_range.mp hi
        have : okAfter fit i = false := by
          unfold okAfter
          rw [h]
          simp
          omega
        simp [this]
      rw [if_neg hn, h0, ho]
      simp

end Ka
/-! iter(t) of a tuple of texts, and x in it. -/
namespace Ka
open PySem PySem.Spec PyProof.Rows L2

theorem entry_ci : entryFor table "proto.contains_iter" = some Builtin.«proto.contains_iter» := entryFor_of_fast (by kernel_rfl)
theorem tu_nocontains : typeLookup (.type "tuple_iterator") "__contains__" = pure none := by rw [typeLookup_type, builtinLookup_eq_fast]; kernel_rfl

section
variable {prog : Program} {w : World} {A : Around} {E : Value → Shared → Prop} {s : Shared}

/-- what has become of the iterator: the text was found at j, or it is used up -/
def Went (it t : Addr) (zs : List Str) (z : Str) (i : Nat) (h h' : Heap) (b : Bool) : Prop :=
  (b = true ∧ ∃ j, i ≤ j ∧ zs[j]? = some z ∧ (∀ k, i ≤ k → k < j → zs[k]? ≠ some z) ∧ h'.IsTupleIter it t (j + 1) ∧ Heap.ExtBut it h h') ∨
  (b = false ∧ (∀ k, i ≤ k → zs[k]? ≠ some z) ∧ Heap.ExtBut it h h')

theorem ci_loop {it t : Addr} {items : Array Value} {zs : List Str} {z : Str} {tk : Tok} {R : Result → Shared → Prop} (hne : t ≠ it) (hh : A.handled = none)
    (hs : Vals (zs.map V.str) items.toList) : ∀ (n i : Nat) (s : Shared), zs.length - i = n → s.heap.IsTupleIter it t i → s.heap.IsTuple t items →
      (∀ h' b, Went it t zs z i s.heap h' b → R (.ok (.ret (.bool b))) { s with heap := h' }) → codeAny (model prog w) A (.builtin "proto.contains_iter" ⟨[.ref it, .str z tk], []⟩) R s := by
  intro n
  induction n with
  | zero =>
    intro i s hn hit ht q
    have hx : items[i]? = none := by
      have hl := hs.length
      simp only [List.length_map, Array.length_toList] at hl
      rw [Array.getElem?_eq_none_iff]
      omega
    refine codeAny_builtin entry_ci ?_
    show wpAny _ _ (pyNext (.ref it) >>= _) _ _ s
    refine wpAny_bind (wpAny_pyNext_tuple_end hh hit ht hx fun h' e => ?_)
    refine wpAny_bind (wpAny_rule (wpAny_pure ?_))
    exact q h' false (.inr ⟨rfl, fun k hk hz => by
      have := (List.getElem?_eq_some_iff.mp hz).1
      omega, e⟩)
  | succ n ih =>
    intro i s hn hit ht q
    have hi : i < zs.length := by omega
    have hz : (zs.map V.str)[i]? = some (.str zs[i]) := by
      rw [List.getElem?_map, List.getElem?_eq_getElem hi]
      rfl
    obtain ⟨u, hu, ru⟩ := hs.get hz
    obtain ⟨t1, rfl⟩ := ru
    have hx : items[i]? = some (.str zs[i] t1) := by rw [← Array.getElem?_toList]; exact hu
    refine codeAny_builtin entry_ci ?_
    show wpAny _ _ (pyNext (.ref it) >>= _) _ _ s
    refine wpAny_bind (wpAny_pyNext_tuple_item hit ht hx fun h' hit' sb => ?_)
    show wpAny _ _ (eqBool (.str zs[i] t1) (.str z tk) >>= _) _ _ _
    refine wpAny_bind (wpAny_eqBool_str ?_)
    by_cases e : zs[i] = z
    · rw [decide_eq_true e]
      refine wpAny_bind (wpAny_rule (wpAny_pure ?_))
      exact q h' true (.inl ⟨rfl, i, Nat.le_refl _, by rw [List.getElem?_eq_getElem hi, e], fun k h1 h2 => by omega, hit', sb.extBut⟩)
    · rw [decide_eq_false e]
      refine wpAny_pure ⟨Code.quiet_builtin _ (by decide +kernel), ?_⟩
      refine ih (i + 1) { s with heap := h' } (by omega) hit' (by
        obtain ⟨o, ho, r⟩ := ht
        exact ⟨o, (sb.2 t hne).trans ho, r⟩) fun h2 b g => ?_
      refine q h2 b ?_
      have lift : ∀ k, i ≤ k → k ≠ i → i + 1 ≤ k := fun k h1 h2 => by omega
      have hzi : zs[i]? ≠ some z := by
        rw [List.getElem?_eq_getElem hi]
        exact fun w => e (Option.some.inj w)
      rcases g with ⟨rfl, j, h1, h3, h4, h5, h6⟩ | ⟨rfl, h1, h3⟩
      · refine .inl ⟨rfl, j, by omega, h3, fun k a c => ?_, h5, sb.extBut.trans h6⟩
        by_cases ek : k = i
        · rw [ek]; exact hzi
        · exact h4 k (lift k a ek) c
      · refine .inr ⟨rfl, fun k a => ?_, sb.extBut.trans h3⟩
        by_cases ek : k = i
        · rw [ek]; exact hzi
        · exact h1 k (lift k a ek)

theorem contains_ti {it t : Addr} {items : Array Value} {zs : List Str} {z : Str} {tk : Tok} {i : Nat} {Q : Bool → Shared → Prop} (hne : t ≠ it) (hh : A.handled = none)
    (hs : Vals (zs.map V.str) items.toList) (hit : s.heap.IsTupleIter it t i) (ht : s.heap.IsTuple t items)
    (q : ∀ h' b, Went it t zs z i s.heap h' b → Q b { s with heap := h' }) : wpAny (model prog w) A (contains (.ref it) (.str z tk)) Q E s := by
  unfold contains
  refine wpAny_holding ?_
  show wpAny _ _ (specialOf (.ref it) "__contains__" >>= _) _ _ s
  refine wpAny_bind (wpAny_specialOf hit.typeIs tu_nocontains ?_)
  refine wpAny_ite_split (fun hab => absurd hab (by decide)) (fun _ => ?_)
  refine wpAny_bind (wpAny_callSpecialUnlessNone?_none hit.typeIs tu_nocontains ?_)
  refine wpAny_bind (wpAny_rule ?_)
  refine wpAny_bind (wpAny_tryCatch (wpAny_mono (wpAny_pyIter_tupleiter (E := fun _ _ => False) hit (Q := fun v s' => v = .ref it ∧ s' = s) ⟨rfl, rfl⟩) (fun v s' hv => ?_) fun _ _ x => x.elim))
  obtain ⟨rfl, rfl⟩ := hv
  refine wpAny_bind (wpAny_runValue (ci_loop hne hh hs _ i _ rfl hit ht fun h' b g => ?_))
  exact wpAny_pure (q h' b g)

theorem call_iter_tuple {t : Addr} {items : Array Value} {Q : Value → Shared → Prop} (ht : s.heap.IsTuple t items)
    (h : Q (.ref s.heap.objs.size) { s with heap := s.heap.push { cls := .type "tuple_iterator", data := .fields #[.ref t, .int 0 0] } }) : wpAny (model prog w) A (call (.builtin "iter") [.ref t]) Q E s := by
  refine Calls.call_function_entry (by decide +kernel) (by decide +kernel) PySem.W.kdk_entry_iter (PySem.W.kdk_args_iter _) ?_
  unfold Builtin.«iter»
  refine wpAny_bind (m := someArgs "iter" 1 2 _) (wpAny_of_eq (a := [Value.ref t]) (by first | rfl | kernel_rfl!) ?_)
  show wpAny _ _ (pyIter (.ref t) >>= _) _ _ _
  refine wpAny_bind (wpAny_pyIter_tuple ht ?_)
  exact wpAny_pure ⟨_, rfl, h⟩
end

/-- at it an iterator over the tuple at t, the next place is i -/
def TupI (t it : Addr) (i : Nat) : HO := .ext fun h => h.IsTupleIter it t i
section
variable {X : Cx}
theorem ti_ok {P : Program} {w : World} {H : Hp} {h : Heap} {t it : Addr} {i : Nat} (e : h.IsTupleIter it t i) : ObjOk P w H h it (TupI t it i) :=
  ⟨e, let ⟨o, ho, _⟩ := e; ⟨o, ho⟩, fun h1 h2 q k => let ⟨o, ho, r⟩ := q; ⟨o, k _ ho, r⟩⟩

def rIterT (K : PySem.W.Frag) (n : Nat) : List V → Hp → VK → Prop := fun xs H Q => ∃ (t : Addr) (zs : List V), xs = [.ref t] ∧ SqT K H t zs ∧ ∀ it, H it = none → n ≤ it → Q (.ref it) (upd H it (TupI t it 0))
theorem call_iterT : CallR X (.builtin "iter") (rIterT X.K X.s_0.heap.objs.size) := by
  intro pins s σ H xs us Q I r h
  obtain ⟨l, zs, rfl, hq, q⟩ := h
  obtain rfl := Vals.ref1 r
  obtain ⟨its, rv, pl, hz⟩ := I.tuple hq
  refine call_iter_tuple pl ?_
  exact ⟨.ref s.heap.objs.size, _, I.laid (t' := s.toks) (fun b u e => Heap.get?_push_of_some _ e) (Nat.le_refl _) (ti_ok ⟨_, Heap.get?_push_size _ rfl, rfl, rfl⟩), rfl, q _ (I.hok.fresh (Nat.le_refl _)) I.sz⟩

/-- x in it; where it is used up, it is forgotten -/
def rInTI (K : PySem.W.Frag) (n : Nat) : R2 := fun x y H Q => ∃ (z : Str) (it t : Addr) (zs : List Str) (i : Nat), x = .str z ∧ y = .ref it ∧ n ≤ it ∧ H it = some (TupI t it i) ∧ SqT K H t (zs.map V.str) ∧
  ((∃ j, i ≤ j ∧ zs[j]? = some z ∧ (∀ k, i ≤ k → k < j → zs[k]? ≠ some z) ∧ Q (.bl true) (upd H it (TupI t it (j + 1)))) ∨ ((∀ k, i ≤ k → zs[k]? ≠ some z) ∧ Q (.bl false) (ItX.dropH H it)))
theorem op_inTI (hc : X.calm = true) : OpR X (compareOp .In) (rInTI X.K X.s_0.heap.objs.size) := by
  intro pins s σ H x y v u Q I rx ry h
  obtain ⟨z, it, t, zs, i, rfl, rfl, hn, hit, hq, q⟩ := h
  obtain ⟨tk, rfl⟩ := rx
  cases ry
  obtain ⟨its, rv, pl, hz⟩ := I.tuple hq
  have hI : s.heap.IsTupleIter it t i := (I.hok it _ hit).1
  have hne : t ≠ it := by
    intro e
    subst e
    obtain ⟨o, ho, hc, _⟩ := hI
    obtain ⟨o', ho', hc', _⟩ := pl
    rw [ho] at ho'
    cases ho'
    rw [hc] at hc'
    revert hc'
    simp
  have mu : Mut (H it) := by rw [hit]; exact True.intro
  show wpAny _ _ (contains (.ref it) (.str z tk) >>= fun b => pure (Value.bool b)) _ _ s
  refine wpAny_bind (contains_ti hne (I.ok.hd hc) (by simpa using rv) hI pl fun h' b g => wpAny_pure ?_)
  rcases g with ⟨rfl, j, h1, h3, h4, h5, h6⟩ | ⟨rfl, h1, h3⟩
  · rcases q with ⟨j', a1, a3, a4, q⟩ | ⟨a1, _⟩
    · have e : j' = j := by
        rcases Nat.lt_trichotomy j j' with l | l | l
        · exact absurd h3 (a4 j h1 l)
        · exact l.symm
        · exact absurd a3 (h4 j' a1 l)
      subst e
      exact ⟨.bl true, _, I.write (x := it) (e := it) (t' := s.toks) mu (.inl rfl) (fun b o nb e => h6 b o nb e) (let ⟨o, ho, _⟩ := h5; ⟨o, ho⟩) (ti_ok h5), rfl, q⟩
    · exact absurd h3 (a1 j h1)
  · rcases q with ⟨j', a1, a3, a4, q⟩ | ⟨a1, q⟩
    · exact absurd a3 (h1 j' a1)
    · have I2 := ItX.inv_drop I hit
      obtain ⟨f0, f1, f2, f3, f4, f5⟩ := ItX.inv_fp I hit hn
      exact ⟨.bl false, _, I2.turned (t' := s.toks) (fun b o nb e => h3 b o nb e) f0 f1 f3 f4 f5, rfl, q⟩
end
end Ka
/-! enumerate(t) of a tuple; xs[i] op= e of a list. -/
namespace Ka
open PySem PySem.Spec PyProof.Rows L2
open AutoSeq1 (wpAny_loadPart')

theorem meets_enumerate_newT (l : Addr) (items : Array Value) (o : Obj) (ho : o.cls = .type "tuple") (hd : ∃ n, o.data = .seq items n) :
    Meets (Builtin.«enumerate.__new__» ⟨[.type "enumerate", .ref l], []⟩) (fun _ R s => s.heap.get? l = some o ∧
      R (.ok (.ret (.ref (s.heap.push { cls := .type "tuple_iterator", data := .fields #[.ref l, .int 0 0] }).objs.size)))
        { s with heap := (s.heap.push { cls := .type "tuple_iterator", data := .fields #[.ref l, .int 0 0] }).push { cls := .type "enumerate", data := .fields #[.none, .bool false, .ref s.heap.objs.size, rawInt 0, .none, .none] } }) :=
  .of_wp fun prog w A R s h => by
    obtain ⟨hp, g, d, tk, os⟩ := s; obtain ⟨hl, h⟩ := h
    obtain ⟨c, dct, dt, sl⟩ := o
    obtain ⟨n, hd⟩ := hd
    replace ho : c = .type "tuple" := ho
    replace hd : dt = .seq items n := hd
    subst ho hd
    have hsub := sub_enumerate
    have hL : Heap.IsTuple (Shared.heap ⟨hp, g, d, tk, os⟩) l items := ⟨_, hl, rfl, n, rfl⟩
    wp_walk using wpAny_loadPart' hl
    refine wpAny_stack_any fun st => wpAny_pure ?_
    split
    · rename_i c _ _ _ _ _
      cases (c == Value.type "enumerate")
      · wp_walk using wpAny_loadPart' hl, wpAny_pyIter_tuple hL
        exact ⟨_, rfl, h⟩
      · wp_walk using wpAny_loadPart' hl, wpAny_pyIter_tuple hL
        exact ⟨_, rfl, h⟩
    · wp_walk using wpAny_loadPart' hl, wpAny_pyIter_tuple hL
      exact ⟨_, rfl, h⟩

section
variable {prog : Program} {w : World} {A : Around} {E : Value → Shared → Prop} {s : Shared}
theorem call_enumerate_tuple {l : Addr} {items : Array Value} {Q : Value → Shared → Prop} (hL : s.heap.IsTuple l items)
    (h : ∀ h', IsEnum h' (s.heap.objs.size + 1) s.heap.objs.size 0 .none → h'.IsTupleIter s.heap.objs.size l 0 → h'.objs.size = s.heap.objs.size + 2 →
      (∀ b o, s.heap.get? b = some o → h'.get? b = some o) → Q (.ref (s.heap.objs.size + 1)) { s with heap := h' }) :
    wpAny (model prog w) A (call (.type "enumerate") [.ref l]) Q E s := by
  obtain ⟨o, hl, hc, hd⟩ := hL
  refine callType_new F.called_enumerate (by decide) (F.typeCall_enumerate_1 _) (F.newCall_enumerate_1 _) (fun obj => F.args_object_init_2 obj _) F.entry_enumerate_new
    (meets_enumerate_newT l items o hc hd) ⟨hl, ?_⟩
  have hz : (s.heap.push { cls := .type "tuple_iterator", data := .fields #[.ref l, .int 0 0] }).objs.size = s.heap.objs.size + 1 := Heap.size_push ..
  show _ ∧ _
  rw [hz]
  have he : IsEnum ((s.heap.push { cls := .type "tuple_iterator", data := .fields #[.ref l, .int 0 0] }).push
      { cls := .type "enumerate", data := .fields #[.none, .bool false, .ref s.heap.objs.size, rawInt 0, .none, .none] }) (s.heap.objs.size + 1) s.heap.objs.size 0 .none := by
    have := Heap.get?_push_size (s.heap.push { cls := .type "tuple_iterator", data := .fields #[.ref l, .int 0 0] })
      (o := { cls := .type "enumerate", data := .fields #[.none, .bool false, .ref s.heap.objs.size, rawInt 0, .none, .none] }) rfl
    rw [hz] at this; exact this
  refine ⟨⟨_, he, rfl⟩, h _ he ⟨_, Heap.get?_push_of_some _ (Heap.get?_push_size _ rfl), rfl, rfl⟩ (by rw [Heap.size_push, hz]) fun b o x => Heap.get?_push_of_some _ (Heap.get?_push_of_some _ x)⟩
end

/-- the tuple at a, each item in a new pair -/
def Iet (K : PySem.W.Frag) (a : Addr) : It :=
  ⟨fun i H => ∃ (xs : List V) (x : V), SqT K H a xs ∧ xs[i]? = some x, fun i H v H' => ∃ T x, v = .ref T ∧ H T = none ∧ H' = upd H T (.tup [.int (i : Nat), x]) ∧ ∀ xs, SqT K H a xs → xs[i]? = some x, fun i H => ∃ xs : List V, SqT K H a xs ∧ xs.length ≤ i⟩
theorem turn_enumT {P : Program} {w : World} {K : PySem.W.Frag} {elts : List Expr} {kk : Nat} {tpos : Pos} (a e it : Addr) (hae : a ≠ e) (hai : a ≠ it) (len : Nat) :
    Turn P w K (.Tuple elts kk tpos) (Iet K a) [e, it] e (fun i h => (∃ old, IsEnum h e it ((i : Nat) : Int) old) ∧ h.IsTupleIter it a i ∧ e ≠ it) where
  mem := by simp
  obj := fun i h st b hb => by
    obtain ⟨⟨old, he⟩, ⟨o, ho, hc, hd⟩, _⟩ := st
    have e' : b = e ∨ b = it := by simpa using hb
    rcases e' with z | z
    · rw [z]; exact ⟨_, he, fun v q => nomatch q⟩
    · rw [z]; exact ⟨o, ho, fun v q => by rw [hd] at q; cases q⟩
  keep := fun i h h' st k => let ⟨⟨old, he⟩, hi, hne⟩ := st; ⟨⟨old, k e (by simp) _ he⟩, hi.at fun o q => k it (by simp) o q, hne⟩
  item := by
    intro X hP hw hK hc i pins s σ H E I hf st hg
    subst hP hw hK
    obtain ⟨⟨old, he⟩, hit, hne⟩ := st
    obtain ⟨xs, x, hq, hx⟩ := hg
    obtain ⟨its, rv, p, hz⟩ := I.tuple hq
    obtain ⟨u, hu, ru⟩ := rv.get hx
    have hel : e < s.heap.objs.size := Heap.lt_size he
    have hil : it < s.heap.objs.size := by obtain ⟨_, q, _⟩ := hit; exact Heap.lt_size q
    have hit0 : i < its.toArray.size := by
      have := (List.getElem?_eq_some_iff.mp hu).1
      simpa using this
    refine wpAny_pyNext_enum_itemD (Draws.tuple (A := X.A.in1) (by first | exact I.ok.hd hc | (show X.A.handled = none; exact I.ok.hd hc)) it a hai its.toArray) he ⟨hit, p⟩ hit0 hne (by simp [hne, Ne.symm hae]) fun x' h' tk hx' ho hst hT hsz hk => ?_
    have ex : x' = u := by
      have h2 : its.toArray[i]? = some u := by simpa using hu
      rw [h2] at hx'
      exact (Option.some.inj hx').symm
    subst ex
    refine ⟨_, rfl, wpAny_letOwnedTupleGo_enum (s := { s with heap := h', toks := tk + 1 }) ho fun h'' he' sb => ?_⟩
    have hT2 : h''.get? s.heap.objs.size = some { cls := .type "tuple", data := .seq #[.int i tk, x'] } := (sb.2 _ (Nat.ne_of_gt hel)).trans hT
    have new : ObjOk X.prog X.w (upd H s.heap.objs.size (.tup [.int (i : Nat), x])) h'' s.heap.objs.size (.tup [.int (i : Nat), x]) :=
      ⟨by show 2 ≤ sizeLine; decide, [.int i tk, x'], .cons ⟨_, rfl⟩ (.cons ru .nil), ⟨_, hT2, rfl, _, rfl⟩⟩
    have I1 : Inv X pins σ (upd H s.heap.objs.size (.tup [.int (i : Nat), x])) { s with heap := h'', toks := tk + 1 } :=
      I.turnedNew (ch := [e, it]) (fun b ob hb q => (sb.2 b (fun z => hb (by simp [z]))).trans (hk b ob (fun z => hb (by simp [z])) (fun z => hb (by simp [z])) q)) hf (Nat.le_refl _) new
    refine ⟨.ref s.heap.objs.size, _, I1, rfl, ⟨_, x, rfl, I.hok.fresh (Nat.le_refl _), rfl, fun ys hy => by rw [I.tuple_inj hy hq]; exact hx⟩, ⟨⟨x', ?_⟩, hst.1.at fun o q => (sb.2 it (Ne.symm hne)).trans q, hne⟩, fun b hb => ?_⟩
    · have e1 : ((i + 1 : Nat) : Int) = (i : Int) + 1 := by omega
      rw [e1]; exact he'
    · have hb' : b < s.heap.objs.size := by
        have e' : b = e ∨ b = it := by simpa using hb
        rcases e' with z | z
        · rw [z]; exact hel
        · rw [z]; exact hil
      rw [upd_ne (Nat.ne_of_lt hb')]
      exact (hf b hb).1
  done := by
    intro X hP hw hK hc i pins s σ H E I hf st hg
    subst hP hw hK
    obtain ⟨⟨old, he⟩, hit, hne⟩ := st
    obtain ⟨xs, hq, hx⟩ := hg
    obtain ⟨its, rv, p, hz⟩ := I.tuple hq
    obtain ⟨f0, f1, f2, f3, f4, f5⟩ := hf it (by simp)
    have hl := rv.length
    have hT : s.TypeIs (.ref e) "enumerate" := ⟨_, he, rfl⟩
    unfold pyNext
    refine wpAny_bind (wpAny_attempt (wpAny_callSpecial?_slot (name := Str.ofString "__next__") hT F.slot_enumerate_next
      (wpAny_call_entry F.slot_enumerate_next hT F.entry_enumerate_next ?_ (F.args_enumerate_next_1 _))))
    show wpAny _ _ (field (.ref e) 2 >>= _) _ _ _
    refine wpAny_bind (wpAny_field he rfl (x := .ref it) rfl ?_)
    refine wpAny_bind (wpAny_nextOf_tuple_end (by first | exact I.ok.hd hc | (show X.A.handled = none; exact I.ok.hd hc)) hit p (by rw [Array.getElem?_eq_none_iff]; simp; omega) fun h' x he' hx' => ?_)
    obtain ⟨o, ho, hc'⟩ := hx'
    refine wpAny_bind (wpAny_isInstance (T := "StopIteration") (b := true) ⟨o, ho, hc'⟩ isSubtype_stop ?_)
    exact wpAny_pure ⟨rfl, I.turned (t' := s.toks) (fun b o hb q => he' b o hb q) f0 f1 f3 f4 f5⟩
  self := fun A i s Q E st h => let ⟨⟨_, he⟩, _⟩ := st; wpAny_pyIter_enum he h
def iEnumT (K : PySem.W.Frag) (ta : TA) : TI := fun σ H R => ta σ H fun vs H1 => ∃ a xs, vs = [.ref a] ∧ SqT K H1 a xs ∧ R (Iet K a) H1
theorem pi_enumT {X : Cx} {e : Expr} {ta : TA} {p pos tpos : Pos} {elts : List Expr} {kk : Nat} (hg : Gl X "enumerate") (hm : X.mg "enumerate" = none) (ha : PA X [e] ta) (hs : starEach [e] X.env = [(false, eval e X.env)] := by rfl) :
    PI X (.Tuple elts kk tpos) (.Call (.Name "enumerate" p) [e] [] pos) (iEnumT X.K ta) := by
  refine ⟨fun pins s σ H R I h => ?_⟩
  refine Call_ (ld_blt I hg hm boot_enumerate (PyProof.Rows.callWith_type1 (thn (ha.run pos pins s σ H _ I h) fun us s1 ⟨vs, H1, I1, r1, q1⟩ => ?_) hs rfl))
  obtain ⟨a, xs, ex, hq, q⟩ := q1
  subst ex
  cases r1 with
  | cons r rr =>
    cases rr
    cases r
    obtain ⟨its, rv, p', hz⟩ := I1.tuple hq
    have hal : a < s1.heap.objs.size := by obtain ⟨_, z, _⟩ := p'; exact Heap.lt_size z
    refine call_enumerate_tuple p' fun h' he hit hsz hk => wpAny_pyIter_enum he ?_
    have I2 : Inv X pins σ H1 { s1 with heap := h' } := I1.kept (t' := s1.toks) hk
    refine ⟨s1.heap.objs.size + 1, [s1.heap.objs.size + 1, s1.heap.objs.size], _, _, H1, rfl, I2, turn_enumT a (s1.heap.objs.size + 1) s1.heap.objs.size (Nat.ne_of_lt (Nat.lt_succ_of_lt hal)) (Nat.ne_of_lt hal) 0, ⟨⟨.none, he⟩, hit, Nat.succ_ne_self _⟩, fun b hb => ?_, q⟩
    have e' : b = s1.heap.objs.size + 1 ∨ b = s1.heap.objs.size := by simpa using hb
    have hle : s1.heap.objs.size ≤ b := by
      rcases e' with z | z
      · rw [z]; exact Nat.le_add_right _ _
      · rw [z]; exact Nat.le_refl _
    exact I1.fpOk hle (I1.hok.fresh hle)

/-- a loop over enumerate(t), by one word a turn -/
theorem for_enumT {K : PySem.W.Frag} {a : Addr} {xs : List V} {g : TG} {tb : TS} {D : Ends} {σ : L2.St} {H : Hp} (Pv : Nat → L2.St → Hp → Prop) (h0 : Pv 0 σ H) (hl : ∀ i σ H, Pv i σ H → SqT K H a xs)
    (hs : ∀ i x T σ H, xs[i]? = some x → Pv i σ H → H T = none → g (.ref T) σ (upd H T (.tup [.int (i : Nat), x])) fun σ2 H2 => tb { D with nx := Pv (i + 1), ct := Pv (i + 1), bk := D.nx } σ2 H2)
    (hd : ∀ σ H, Pv xs.length σ H → D.nx σ H) :
    ∃ W : Nat → Nat → L2.St → Hp → Prop, (∃ m, W 0 m σ H) ∧ ∀ i m σ H, W i m σ H →
      ((Iet K a).stop i H ∧ D.nx σ H) ∨ ((Iet K a).go i H ∧ ∃ N : L2.St → Hp → Prop, (∀ σ' H', N σ' H' → ∃ m', m' < m ∧ W (i + 1) m' σ' H') ∧ ∀ x H', (Iet K a).yld i H x H' → g x σ H' fun σ2 H2 => tb { D with nx := N, ct := N, bk := D.nx } σ2 H2) := by
  refine ⟨fun i m σ H => m = xs.length - i ∧ i ≤ xs.length ∧ Pv i σ H, ⟨_, rfl, Nat.zero_le _, h0⟩, ?_⟩
  rintro i m σ H ⟨rfl, hi, p⟩
  have q := hl i σ H p
  by_cases hlt : i < xs.length
  · refine .inr ⟨⟨xs, xs[i], q, List.getElem?_eq_getElem hlt⟩, Pv (i + 1), fun σ' H' p' => ⟨xs.length - (i + 1), by omega, rfl, hlt, p'⟩, fun x H' y => ?_⟩
    obtain ⟨T, z, rfl, nT, rfl, hz⟩ := y
    exact hs i z T σ H (hz xs q) p nT
  · have e : i = xs.length := by omega
    refine .inl ⟨⟨xs, q, Nat.le_of_eq e.symm⟩, hd σ H ?_⟩
    rw [← e]
    exact p

/-! ### xs[i] op= e -/
def gtL (K : PySem.W.Frag) : V → V → Hp → VK → Prop := fun x y H Q => ∃ p xs j v, x = .ref p ∧ y = .int ((j : Nat) : Int) ∧ SqL K H p xs ∧ j < 2 ^ 62 ∧ xs[j]? = some v ∧ Q v H
theorem get_list {X : Cx} : PGet X (gtL X.K) := by
  intro pins s σ H o i ov iv Q I ro ri h
  obtain ⟨p, xs, j, v, rfl, rfl, hq, hj, hv, q⟩ := h
  cases ro
  obtain ⟨t, rfl⟩ := ri
  obtain ⟨its, r, pl, hz⟩ := I.list hq
  obtain ⟨u, hu, ru⟩ := r.get hv
  exact wpAny_getItem_list pl.isList (by omega) (by omega) (by simpa using hu) ⟨v, H, I, ru, q⟩
end Ka
/-! t[::-1] of a tuple. -/
namespace Ka
open PySem PySem.Spec PyProof.Rows L2 HT

theorem back_places (n : Nat) : Builtin.Slice.slicePlaces ((n : Int) - 1) (-1) (-1) = n := by
  unfold Builtin.Slice.slicePlaces
  rw [if_neg (by decide)]
  by_cases h : n = 0
  · subst h
    rfl
  · rw [if_pos (by omega)]
    have e : ((n : Int) - 1 - -1 - 1) / (- -1) + 1 = n := by
      rw [show (-(-1 : Int)) = 1 by decide, Int.ediv_one]
      omega
    rw [e]
    exact Int.toNat_natCast n

theorem back_some (xs : Array Value) (f : Nat → Option Value) (hf : ∀ k, k < xs.size → f k = xs.toList.reverse[k]?) : ∀ l : List Nat, (∀ k ∈ l, k < xs.size) → l.filterMap f = l.map fun k => xs.toList.reverse[k]?.getD .none
  | [], _ => rfl
  | k :: l, h => by
    have hk : k < xs.size := h k List.mem_cons_self
    have h2 : k < xs.toList.reverse.length := by simpa using hk
    rw [List.filterMap_cons, hf k hk, List.map_cons, back_some xs f hf l fun j hj => h j (List.mem_cons_of_mem _ hj), List.getElem?_eq_getElem h2]
    rfl
theorem back_items (xs : Array Value) : ((List.range xs.size).filterMap fun (k : Nat) => xs[((xs.size : Int) - 1 + (k : Int) * -1).toNat]?) = xs.toList.reverse := by
  rw [back_some xs _ (fun k hk => ?_) _ fun k hk => List.mem_range.mp hk]
  · apply List.ext_getElem?
    intro i
    rw [List.getElem?_map]
    by_cases hi : i < xs.size
    · have h2 : i < xs.toList.reverse.length := by simpa using hi
      rw [List.getElem?_range hi, Option.map_some, List.getElem?_eq_getElem h2]
      rfl
    · rw [List.getElem?_eq_none (by simpa using hi), List.getElem?_eq_none (by simpa using hi)]
      rfl
  · have e : ((xs.size : Int) - 1 + (k : Int) * -1).toNat = xs.size - 1 - k := by omega
    rw [e, List.getElem?_reverse (by simpa using hk), Array.length_toList, Array.getElem?_toList]

section
variable {prog : Program} {w : World} {A : Around} {E : Value → Shared → Prop} {s : Shared}
theorem applied_back {sl : Addr} {vl vu vs : Value} {n : Nat} {Q : Int × Int × Nat → Shared → Prop} (hs : s.heap.IsSliceOf sl vl vu vs) (pl : IsPart vl none) (pu : IsPart vu none) (ps : IsPart vs (some (-1)))
    (h : Q ((n : Int) - 1, -1, n) s) : wpAny (model prog w) A (Builtin.Slice.sliceApplied (.ref sl) (pure (n : Int))) Q E s := by
  obtain ⟨o, ho, _, hd⟩ := hs
  unfold Builtin.Slice.sliceApplied Builtin.Slice.sliceFields
  refine wpAny_bind (wpAny_bind (wpAny_field ho hd (x := vl) rfl (wpAny_bind (wpAny_field ho hd (x := vu) rfl (wpAny_bind (wpAny_field ho hd (x := vs) rfl (wpAny_pure ?_)))))))
  refine wpAny_bind (slicePart_ ps ?_)
  refine wpAny_ite_split (fun z => absurd z (by decide)) fun _ => ?_
  refine wpAny_bind (slicePart_ pl (wpAny_bind (slicePart_ pu (wpAny_bind (wpAny_pure (wpAny_pure ?_))))))
  have e : Builtin.Slice.slicePlaces ((n : Int) - 1) (-1) (-1) = n := back_places n
  show Q ((n : Int) - 1, -1, Builtin.Slice.slicePlaces ((n : Int) - 1) (-1) (-1)) s
  rw [e]
  exact h

theorem getItem_back {t sl : Addr} {items : Array Value} {vl vu vs : Value} {Q : Value → Shared → Prop} (ht : IsTup s.heap t items) (hs : s.heap.IsSliceOf sl vl vu vs) (pl : IsPart vl none) (pu : IsPart vu none) (ps : IsPart vs (some (-1)))
    (hz : items.size ≤ sizeLine) (h : Q (.ref s.heap.objs.size) { s with heap := s.heap.push { cls := .type "tuple", data := .seq items.toList.reverse.toArray } }) : wpAny (model prog w) A (getItem (.ref t) (.ref sl)) Q E s := by
  have hT : s.TypeIs (.ref sl) "slice" := let ⟨o, ho, hc, _⟩ := hs; ⟨o, ho, hc⟩
  have hok : sizeOk (.seq items.toList.reverse.toArray) := by
    show items.toList.reverse.toArray.size ≤ sizeLine
    simpa using hz
  unfold getItem
  try with_reducible refine wpAny_holding ?_
  first | refine wpAny_bind (wpAny_pure ?_) | skip
  refine wpAny_bind (wpAny_sequenceKey ht.typeIs (by decide) ?_)
  refine wpAny_bind (wpAny_callSpecial?_slot (name := Str.ofString "__getitem__") ht.typeIs PyProof.Rows.slot_tuple_getitem
    (wpAny_call_entry PyProof.Rows.slot_tuple_getitem ht.typeIs entry_tuple_getitem ?_ (args_tuple_getitem _ _)))
  show wpAny _ _ (Builtin.Tuple.tupleItemsOf (.ref t) >>= _) _ _ s
  refine wpAny_bind (tupleItemsOf_ ht (wpAny_bind (wpAny_typeOf hT ?_)))
  rw [if_pos (by decide)]
  refine wpAny_bind (applied_back hs pl pu ps ?_)
  refine wpAny_ite_split (fun z => ?_) fun _ => ?_
  · exfalso
    simp at z
  · rw [back_items]
    first
      | exact wpAny_bind (m := Builtin.Tuple.tupleExact _) (wpAny_newObj_type (wpAny_pure ⟨_, rfl, wpAny_pure h⟩) hok)
      | exact wpAny_bind (m := Builtin.Tuple.tupleExact _) (wpAny_newObj_type (wpAny_bind (wpAny_pure (wpAny_pure ⟨_, rfl, wpAny_pure h⟩))) hok)
      | exact wpAny_bind (wpAny_bind (m := Builtin.Tuple.tupleExact _) (wpAny_newObj_type (wpAny_pure (wpAny_pure ⟨_, rfl, wpAny_pure h⟩)) hok))
      | exact wpAny_bind (wpAny_bind (m := Builtin.Tuple.tupleExact _) (wpAny_newObj_type (wpAny_pure ⟨_, rfl, wpAny_pure h⟩) hok))
end

def tRevT (K : PySem.W.Frag) (te : TE) : TE := fun σ H Q => te σ H fun x H1 => ∃ a xs, x = .ref a ∧ SqT K H1 a xs ∧ ∀ p, H1 p = none → Q (.ref p) (upd H1 p (.tup xs.reverse))
theorem pe_revT {X : Cx} {e : Expr} {te : TE} {k : Nat} {p1 p2 p3 pos : Pos} (he : PE X e te) : PE X (.Subscript e (.Slice none none (some (.UnaryOp .USub (.Constant (.int 1) k p1) p2)) p3) pos) (tRevT X.K te) := by
  refine ⟨fun pins s σ H Q I h => Subscript_ (thn (he.run pins s σ H _ I h) fun v s1 ⟨x, H1, I1, r1, a, xs, ex, hx, q⟩ => ?_)⟩
  subst ex
  cases r1
  have hm : PO X (some (.UnaryOp .USub (.Constant (.int 1) k p1) p2)) (tPart (tUn (rU fun i => .int (-i)) (tC (.int 1)))) := po_some (pe_un un_neg pe_int)
  refine wpAny_Slice (thn (po_none.run pins s1 σ H1 (fun o H2 => o = none ∧ H2 = H1) I1 ⟨rfl, rfl⟩) fun vl s2 ⟨l, H2, I2, pl, el, e2⟩ => ?_)
  subst el e2
  refine thn (po_none.run pins s2 σ H2 (fun o H3 => o = none ∧ H3 = H2) I2 ⟨rfl, rfl⟩) fun vu s3 ⟨u, H3, I3, pu, eu, e3⟩ => ?_
  subst eu e3
  refine thn (hm.run pins s3 σ H3 (fun o H4 => o = some (-1) ∧ H4 = H3) I3 ⟨1, rfl, -1, rfl, rfl, rfl⟩) fun vs s4 ⟨o, H4, I4, ps, eo, e4⟩ => ?_
  subst eo e4
  have I5 : Inv X pins σ H4 { s4 with heap := s4.heap.push { cls := .type "slice", data := .fields #[vl, vu, vs] } } := I4.kept (t' := s4.toks) fun b ob z => Heap.get?_push_of_some _ z
  obtain ⟨its, r, ht, hz⟩ := I5.tuple hx
  have hl := r.length
  show wpAny (model X.prog X.w) X.A (subscriptTail e (.Slice none none (some (.UnaryOp .USub (.Constant (.int 1) k p1) p2)) p3) (.ref a) (.ref s4.heap.objs.size)) (EP X pins σ Q) X.xe { s4 with heap := s4.heap.push { cls := .type "slice", data := .fields #[vl, vu, vs] } }
  refine tail_any (ops := [.ref a, .ref s4.heap.objs.size]) ht.typeIs PyProof.Rows.slot_tuple_getitem.lookup ?_ (by with_unfolding_all rfl)
  refine getItem_back ht (Heap.IsSliceOf.new _ vl vu vs) pl pu ps (by rw [List.size_toArray]; omega) ?_
  refine ⟨.ref _, _, I5.laid (t' := s4.toks) (o := .tup xs.reverse) (fun b ob z => Heap.get?_push_of_some _ z) (Nat.le_refl _) ?_, rfl, q _ (I5.hok.fresh (Nat.le_refl _))⟩
  exact ⟨by rw [List.length_reverse]; exact hz, _, r.reverse, IsTup.new _ _⟩
end Ka
/-! sorted(rows, key=f), f(row) = (len(row), row), rows of texts. -/
namespace Ka
open PySem PySem.Spec PyProof.Rows L2 PySem.W

/-- a row of texts as data, and its key -/
def rowD (r : List Str) : PyData := .tuple (r.map .str)
def keyOf (r : List Str) : PyData := .tuple [.int r.length, rowD r]
/-- the order of rows -/
def rowLe : List Str → List Str → Bool := dataLe false keyOf

theorem reads_strs {h : Heap} : ∀ {zs : List Str} {us : List Value}, Vals (zs.map V.str) us → ReadsAll h us (zs.map .str) []
  | [], [], _ => .nil
  | z :: zs, u :: us, r => by
    cases r with
    | cons a b =>
      obtain ⟨t, rfl⟩ := a
      exact ReadsAll.cons (as := []) (bs := []) (.str z t) (reads_strs b)
  | [], _ :: _, r => nomatch r
  | _ :: _, [], r => nomatch r

theorem alike_strs : ∀ (a b : List Str), alikeAll (a.map PyData.str) (b.map PyData.str) = true
  | [], _ => by simp [alikeAll]
  | _ :: _, [] => by simp [alikeAll]
  | x :: a, y :: b => by
    rw [List.map_cons, List.map_cons, alikeAll, alike_strs a b]
    simp [alike]
theorem alike_keys (a b : List Str) : alike (keyOf a) (keyOf b) = true := by
  unfold keyOf rowD
  simp [alike, alikeAll, alike_strs]
theorem depth_strs : ∀ a : List Str, PyData.depthAll (a.map PyData.str) ≤ 1
  | [] => by simp [PyData.depthAll]
  | x :: a => by
    have := depth_strs a
    rw [List.map_cons]
    simp only [PyData.depthAll, PyData.depth]
    omega
theorem depth_key (a : List Str) : (keyOf a).depth ≤ 3 := by
  have := depth_strs a
  unfold keyOf rowD
  simp only [PyData.depth, PyData.depthAll]
  omega

section
variable {prog : Program} {w : World} {A : Around} {E : Value → Shared → Prop} {s : Shared}
/-- what the tuple (len(x), x) is worth, where x holds a row -/
theorem key_expr {env : Env} {a : Addr} {zs : List Str} {its : List Value} {x : Str} {p1 p2 p3 p4 p5 : Pos} {k : Nat} (hsx : starEach [.Name x p2] env = [(false, eval (.Name x p2) env)])
    (hst : starEach [.Call (.Name "len" p1) [.Name x p2] [] p3, .Name x p4] env = [(false, eval (.Call (.Name "len" p1) [.Name x p2] [] p3) env), (false, eval (.Name x p4) env)])
    (hrow : ∀ (p : Pos) (Q : Value → Shared → Prop) (tk : Nat), Q (.ref a) { s with toks := tk } → wpAny (model prog w) A (eval (.Name x p) env) Q E { s with toks := tk })
    (hlen : ∀ (Q : Value → Shared → Prop), Q (.builtin "len") s → wpAny (model prog w) A (eval (.Name "len" p1) env) Q E s)
    (rv : Vals (zs.map V.str) its) (ht : IsTup s.heap a its.toArray) (hz : zs.length ≤ sizeLine) : wpAny (model prog w) A (eval (.Tuple [.Call (.Name "len" p1) [.Name x p2] [] p3, .Name x p4] k p5) env) (KeyPure (keyOf zs) s) E s := by
  have hl := rv.length
  have hs : sizeLine = 16777216 := sizeLine_eq
  rw [List.length_map] at hl
  refine wpAny_Tuple_spliced ?_
  rw [hst]
  refine Calls.spliced_cons (wpAny_Call_Name_kw (hlen _ (PyProof.Rows.callWith_builtin1 ?_ (by rw [hsx]; rfl) rfl)))
  rw [hsx]
  refine Calls.spliced_cons (hrow p2 _ s.toks (Calls.spliced_nil ?_))
  refine len_tuple ht (by rw [List.size_toArray]; omega) ?_
  refine Calls.spliced_cons (hrow p4 _ _ (Calls.spliced_nil ⟨by show 2 ≤ sizeLine; rw [hs]; decide, ?_⟩))
  refine ⟨_, _, rfl, fun b o e => Heap.get?_push_of_some _ e, ?_⟩
  refine Reads.tuple (Heap.get?_push_size _ rfl) rfl rfl (ReadsAll.cons (as := []) (bs := []) ?_ (ReadsAll.cons (as := []) (bs := []) ?_ .nil))
  · have e : ((its.toArray.size : Nat) : Int) = zs.length := by rw [List.size_toArray, hl]
    rw [e]
    exact .int _ _
  · obtain ⟨o, ho, hc, n, hd⟩ := ht
    exact Reads.keeps (fun b o e => Heap.get?_push_of_some _ e) (Reads.tuple ho hc hd (reads_strs rv))

/-- the frame of such a def: where its names are found -/
theorem key_frame {scope : Scope} {qual x : Str} {f a : Addr} {cd : Value} {clos : List (Str × Addr)} {mg mb : Str → Option Value} {zs : List Str} {its : List Value} {p1 p2 p3 p4 p5 : Pos} {k : Nat} {h₁ : Heap} {tk : Nat}
    (hk : scope.kind = .function) (hx : scope.names.lookup x = some .local) (hl : scope.names.lookup ("len" : Str) = some .globalImplicit) (hdx : (x == ("__debug__" : Str)) = false)
    (hg : s.heap.Ns mainGlobals mg) (hm : mg ("len" : Str) = none) (hb : s.heap.Ns builtinsNs mb) (hv : mb ("len" : Str) = some (.builtin "len"))
    (hns : h₁.Ns s.heap.objs.size fun y => [(x, Value.ref a)].reverse.lookup y) (kp : ∀ b o, s.heap.get? b = some o → h₁.get? b = some o) (rv : Vals (zs.map V.str) its) (ht : IsTup s.heap a its.toArray) (hz : zs.length ≤ sizeLine) :
    wpAny (model prog w) A (eval (.Tuple [.Call (.Name "len" p1) [.Name x p2] [] p3, .Name x p4] k p5) (newEnv scope s.heap.objs.size mainGlobals clos qual (some f) cd none builtinsNs)) (KeyPure (keyOf zs) s) E { s with heap := h₁, toks := tk } := by
  have nsk : ∀ {b : Addr} {m : Str → Option Value}, s.heap.Ns b m → h₁.Ns b m := fun ⟨o, es, ep, e, r⟩ => ⟨o, es, ep, kp _ _ e, r⟩
  have hrow : ∀ (p : Pos) (Q : Value → Shared → Prop) (tk' : Nat), Q (.ref a) { s with heap := h₁, toks := tk' } → wpAny (model prog w) A (eval (.Name x p) (newEnv scope s.heap.objs.size mainGlobals clos qual (some f) cd none builtinsNs)) Q E { s with heap := h₁, toks := tk' } :=
    fun p Q tk' q => wpAny_Name (wpAny_loadName_local (m := fun y => [(x, Value.ref a)].reverse.lookup y) hk hx hns (by simp) q) hdx
  have hlen : ∀ (Q : Value → Shared → Prop), Q (.builtin "len") { s with heap := h₁, toks := tk } → wpAny (model prog w) A (eval (.Name "len" p1) (newEnv scope s.heap.objs.size mainGlobals clos qual (some f) cd none builtinsNs)) Q E { s with heap := h₁, toks := tk } :=
    fun Q q => Calls.Name_function_global hk hl (Calls.loadGlobal_builtin (nsk hg) hm (nsk hb) hv q) (by decide)
  have ht' : IsTup h₁ a its.toArray := let ⟨o, ho, r⟩ := ht; ⟨o, kp _ _ ho, r⟩
  refine wpAny_mono (key_expr (s := { s with heap := h₁, toks := tk }) (by rfl) (by rfl) hrow hlen rv ht' hz) (fun v s' q => ?_) fun _ _ e => e
  obtain ⟨h', tk', rfl, k', r⟩ := q
  exact ⟨h', tk', rfl, fun b o e => k' b o (kp b o e), r⟩

/-- def f(x): return (len(x), x) -/
theorem call_keyDef {name qual : Str} {params : Arguments} {scope : Scope} {dV kV doc pm cdv ct : Value} {an : Option Addr} {x : Str} {f a : Addr} {o : Obj} {mg mb : Str → Option Value} {zs : List Str} {its : List Value} {p1 p2 p3 p4 p5 p6 : Pos} {k : Nat}
    (ho : s.heap.get? f = some o) (hd : o.data = .func (fnOf name qual params [.Return (some (.Tuple [.Call (.Name "len" p1) [.Name x p2] [] p3, .Name x p4] k p5)) p6] scope dV kV doc pm an cdv ct))
    (hroom : A.depth < recursionLimit) (hlim : s.heap.NoLimit) (hcd : s.heap.CodeRec cdv qual) (hbind : bindArgs (fnOf name qual params [.Return (some (.Tuple [.Call (.Name "len" p1) [.Name x p2] [] p3, .Name x p4] k p5)) p6] scope dV kV doc pm an cdv ct) ⟨[.ref a], []⟩ = pure [(x, .ref a)])
    (hk : scope.kind = .function) (hco : scope.isCoroutine = false) (hge : scope.isGenerator = false) (hc : ∀ y ∈ scope.names, y.2 ≠ .cell) (hx : scope.names.lookup x = some .local) (hl : scope.names.lookup ("len" : Str) = some .globalImplicit) (hdx : (x == ("__debug__" : Str)) = false)
    (hg : s.heap.Ns mainGlobals mg) (hm : mg ("len" : Str) = none) (hb : s.heap.Ns builtinsNs mb) (hv : mb ("len" : Str) = some (.builtin "len")) (rv : Vals (zs.map V.str) its) (ht : IsTup s.heap a its.toArray) (hz : zs.length ≤ sizeLine) :
    wpAny (model prog w) A (call (.ref f) [.ref a]) (KeyPure (keyOf zs) s) E s := by
  refine wpAny_call (codeAny_mono (R := fun r s' => ∃ v, r = .ok (.ret v) ∧ KeyPure (keyOf zs) s v s') ?_ fun r s' ⟨v, e, q⟩ => by subst e; exact q)
  refine codeAny_call_function hroom ho hd hco hge rfl hcd ?_
  rw [hbind]
  refine wpAny_pure (wpAny_newFunctionEnv hc (fun y hy => by
    have e : y = (x, Value.ref a) := by simpa using hy
    rw [e]
    exact hx) (fun h₁ hns hsb => ⟨hlim.fresh _ hsb, ?_⟩) hk)
  refine codeAny_func (wpAny_execs_cons (wpAny_Return_some ?_))
  refine wpAny_mono (key_frame (E := fun _ _ => False) hk hx hl hdx hg hm hb hv hns (fun b o' e => hsb.extBut b o' (Nat.ne_of_lt (Heap.lt_size e)) (Heap.get?_push_of_some _ e)) rv ht hz) (fun v s' q => ⟨v, rfl, q⟩) fun _ _ z => z.elim

/-- lambda x: (len(x), x) -/
theorem call_keyLam {name qual : Str} {params : Arguments} {scope : Scope} {pm ct : Value} {c' : Addr} {x : Str} {f a : Addr} {clos : List (Str × Addr)} {mg mb : Str → Option Value} {zs : List Str} {its : List Value} {p1 p2 p3 p4 p5 : Pos} {k : Nat}
    (ho : s.heap.get? f = some (kla_obj name qual params (.Tuple [.Call (.Name "len" p1) [.Name x p2] [] p3, .Name x p4] k p5) scope clos pm c' ct))
    (hroom : A.depth < recursionLimit) (hlim : s.heap.NoLimit) (hcd : s.heap.CodeRec (.ref c') qual) (hbind : bindArgs (kla_fn name qual params (.Tuple [.Call (.Name "len" p1) [.Name x p2] [] p3, .Name x p4] k p5) scope clos pm (.ref c') ct) ⟨[.ref a], []⟩ = pure [(x, .ref a)])
    (hk : scope.kind = .function) (hco : scope.isCoroutine = false) (hge : scope.isGenerator = false) (hc : ∀ y ∈ scope.names, y.2 ≠ .cell) (hx : scope.names.lookup x = some .local) (hl : scope.names.lookup ("len" : Str) = some .globalImplicit) (hdx : (x == ("__debug__" : Str)) = false)
    (hg : s.heap.Ns mainGlobals mg) (hm : mg ("len" : Str) = none) (hb : s.heap.Ns builtinsNs mb) (hv : mb ("len" : Str) = some (.builtin "len")) (rv : Vals (zs.map V.str) its) (ht : IsTup s.heap a its.toArray) (hz : zs.length ≤ sizeLine) :
    wpAny (model prog w) A (call (.ref f) [.ref a]) (KeyPure (keyOf zs) s) E s := by
  refine wpAny_call (codeAny_mono (R := fun r s' => ∃ v, r = .ok (.ret v) ∧ KeyPure (keyOf zs) s v s') ?_ fun r s' ⟨v, e, q⟩ => by subst e; exact q)
  refine kla_callFunE hroom ho rfl hco hge rfl hcd ?_
  rw [hbind]
  refine wpAny_pure (wpAny_newFunctionEnv hc (fun y hy => by
    have e : y = (x, Value.ref a) := by simpa using hy
    rw [e]
    exact hx) (fun h₁ hns hsb => ⟨hlim.fresh _ hsb, ?_⟩) hk)
  refine kla_codeExpr ?_
  refine wpAny_mono (key_frame (E := fun _ _ => False) hk hx hl hdx hg hm hb hv hns (fun b o' e => hsb.extBut b o' (Nat.ne_of_lt (Heap.lt_size e)) (Heap.get?_push_of_some _ e)) rv ht hz) (fun v s' q => ⟨v, rfl, q⟩) fun _ _ z => z.elim
end

/-! ### over the layer -/
/-- a row of texts at an address -/
abbrev Row := Addr × List Str
def leRow (r q : Row) : Bool := rowLe r.2 q.2
/-- a call of the key: it keeps the heap, and gives the row's key -/
def KeyAt (X : Cx) (s : Shared) (f : Addr) : Prop := ∀ (h : Heap) (tk : Nat), (∀ b o, s.heap.get? b = some o → h.get? b = some o) → ∀ (a : Addr) (zs : List Str) (its : List Value), Vals (zs.map V.str) its → IsTup h a its.toArray → zs.length ≤ sizeLine →
  wpAny (model X.prog X.w) X.A.in1.in1 (call (.ref f) [.ref a]) (KeyPure (keyOf zs) { s with heap := h, toks := tk }) (fun _ _ => False) { s with heap := h, toks := tk }

theorem rows_each {rs : List Row} {us : List Value} (r : Vals (rs.map fun r => V.ref r.1) us) : EachIs (fun v (b : Row) => v = Value.ref b.1) us rs := by
  induction rs generalizing us with
  | nil =>
    cases r
    exact .nil
  | cons x rs ih =>
    cases r with
    | cons a b =>
      cases a
      exact .cons rfl (ih b)
theorem each_rows {rs : List Row} {us : List Value} (e : EachIs (fun v (b : Row) => v = Value.ref b.1) us rs) : Vals (rs.map fun r => V.ref r.1) us := by
  induction e with
  | nil => exact .nil
  | cons h t ih =>
    subst h
    exact .cons rfl ih
theorem all_alike (rs : List Row) : AllAlike (rs.map fun r => keyOf r.2) := by
  intro d hd d' hd'
  obtain ⟨r, _, rfl⟩ := List.mem_map.mp hd
  obtain ⟨q, _, rfl⟩ := List.mem_map.mp hd'
  exact alike_keys _ _
theorem all_sortable (rs : List Row) : Sortable (rs.map fun r => keyOf r.2) := Sortable.tuples fun r => ⟨_, _, rfl⟩

section
variable {X : Cx} {pins : List (Addr × Obj)} {σ : L2.St} {H : Hp} {s : Shared}
theorem sorted_list {a f : Addr} {rs : List Row} {Q : VK} (I : Inv X pins σ H s) (hu : X.A.units + 64 < cLine) (hs : SqL X.K H a (rs.map fun r => V.ref r.1)) (hr : ∀ r ∈ rs, SqT X.K H r.1 (r.2.map V.str)) (hf : KeyAt X s f)
    (q : ∀ p, H p = none → Q (.ref p) (upd H p (.lst ((rs.mergeSort leRow).map fun r => V.ref r.1)))) : wpAny (model X.prog X.w) X.A (call (.builtin "sorted") [.ref a] [(Str.ofString "key", .ref f)]) (EP X pins σ Q) X.xe s := by
  obtain ⟨its, rv, hl, hz⟩ := I.list hs
  rw [List.length_map] at hz
  have e := rows_each rv
  refine sorted_key_data (b := false) (fun r : Row => keyOf r.2) hl.isList e (all_alike rs) (all_sortable rs) hz (fun r _ => ?_) (ksk_s1 _ _) (fun _ => ksk_l1 _ _) (fun _ => ksk_t1 _ _) (fun v r ev hm h tk kp => ?_) fun out c h' tk kp hn hD hlen eo => ?_
  · have := depth_key r.2
    omega
  · subst ev
    obtain ⟨its', rv', ht, hz'⟩ := I.tuple (hr r hm)
    rw [List.length_map] at hz'
    obtain ⟨o, ho, hr'⟩ := ht
    exact hf h tk kp r.1 r.2 its' rv' ⟨o, kp _ _ ho, hr'⟩ hz'
  · have hle : ((rs.mergeSort leRow).map fun r => V.ref r.1).length ≤ sizeLine := by
      rw [List.length_map, List.length_mergeSort]
      exact hz
    refine ⟨.ref _, _, I.laid (t' := tk) (o := .lst ((rs.mergeSort leRow).map fun r => V.ref r.1)) kp (Nat.le_succ _) ⟨hle, out, c, each_rows eo, hD⟩, rfl, q _ (I.hok.fresh (Nat.le_succ _))⟩

/-- the keys of a dict of rows -/
theorem dict_rows {kvs : List (List Key × V)} {xs : List (List Key × Addr × Value)} (r : KT H kvs xs) {rows : List (List Str)} (hk : kvs.map (·.1) = rows.map fun r => r.map Sum.inr) :
    ∃ rs : List Row, rs.map (·.2) = rows ∧ rs.map (·.1) = xs.map (fun x => x.2.1) ∧ ∀ r ∈ rs, H r.1 = some (.tup (r.2.map V.str)) := by
  induction r generalizing rows with
  | nil =>
    cases rows with
    | nil => exact ⟨[], rfl, rfl, fun r h => by cases h⟩
    | cons x y => simp at hk
  | @cons p q ps qs hq t ih =>
    cases rows with
    | nil => simp at hk
    | cons x rows =>
      rw [List.map_cons, List.map_cons, List.cons.injEq] at hk
      obtain ⟨rs, h1, h2, h3⟩ := ih hk.2
      refine ⟨(q.2.1, x) :: rs, by rw [List.map_cons, h1], by rw [List.map_cons, List.map_cons, h2], fun r hr => ?_⟩
      rcases List.mem_cons.mp hr with e | hr
      · subst e
        have e2 := hq.2.1
        rw [hk.1, List.map_map] at e2
        exact e2
      · exact h3 r hr

theorem sorted_dict {a f : Addr} {kvs : List (List Key × V)} {rows : List (List Str)} {Q : VK} (I : Inv X pins σ H s) (hc : X.calm = true) (hu : X.A.units + 64 < cLine) (hd : H a = some (.dT kvs)) (hk : kvs.map (·.1) = rows.map fun r => r.map Sum.inr) (hf : KeyAt X s f)
    (q : ∀ (rs : List Row) (p : Addr), rs.map (·.2) = rows.mergeSort rowLe → (∀ r ∈ rs, H r.1 = some (.tup (r.2.map V.str))) → H p = none → Q (.ref p) (upd H p (.lst (rs.map fun r => V.ref r.1)))) :
    wpAny (model X.prog X.w) X.A (call (.builtin "sorted") [.ref a] [(Str.ofString "key", .ref f)]) (EP X pins σ Q) X.xe s := by
  obtain ⟨z, lo, xs, rel, o, es, ep, ho, hx, hdat, hes, hno⟩ := I.hok a _ hd
  obtain ⟨rs, h1, h2, h3⟩ := dict_rows rel hk
  have hlen : rs.length = es.size := by
    have e1 := congrArg List.length h2
    have e2 := congrArg List.length hes
    rw [List.length_map, List.length_map] at e1
    rw [Array.length_toList, List.length_map] at e2
    omega
  have hz : rs.length ≤ sizeLine := by
    have e1 := congrArg List.length h2
    have e2 := Paired.length rel
    rw [List.length_map, List.length_map] at e1
    omega
  have raw : s.heap.DictRaw a es ep := ⟨o, ho, hx, hdat⟩
  refine call_function_entry_kw PyProof.Rows.kind_sorted PyProof.Rows.plain_sorted PyProof.Rows.entry_sorted (ksk_s1 _ _) ?_
  unfold Builtin.«sorted»
  refine wpAny_bind (m := checkCount "sorted" 1 1 _) (wpAny_pure ?_)
  refine wpAny_bind (kdu_collect (A := X.A.in1) (KdlSrc.rawDict (es := es) (ep := ep) lo) (I.ok.hd hc) raw (by omega) fun h' tk acc hkp hacc => ?_)
  have hal : acc.toList.length = rs.length := by rw [Array.length_toList, hacc.1, hlen]
  have each : EachIs (fun v (b : Row) => v = Value.ref b.1) acc.toList rs := by
    refine EachIs.of_zip hal fun p hp => ?_
    obtain ⟨i, hi⟩ := List.getElem?_of_mem hp
    rw [List.getElem?_zip_eq_some] at hi
    obtain ⟨hia, hib⟩ := hi
    obtain ⟨hsz, ev⟩ := hacc.2 i p.1 (by rw [← Array.getElem?_toList]; exact hia)
    have e1 : (rs.map (·.1))[i]? = some p.2.1 := by rw [List.getElem?_map, hib]; rfl
    have e2 : es.toList[i]? = some es[i] := by rw [Array.getElem?_toList, Array.getElem?_eq_getElem hsz]
    rw [h2, List.getElem?_map] at e1
    rw [hes, List.getElem?_map] at e2
    cases ex : xs[i]? with
    | none =>
      rw [ex] at e1
      cases e1
    | some x =>
      rw [ex] at e1 e2
      have e1' : x.2.1 = p.2.1 := Option.some.inj e1
      have e2' := Option.some.inj e2
      rw [ev, ← e2', ← e1']
      rfl
  have I1 : Inv X pins σ H { s with heap := h', toks := tk } := I.kept hkp
  refine wpAny_bind (wpAny_newList ?_ (by omega))
  have hoL : (h'.push (seqObj "list" acc.toList.toArray 0)).get? h'.objs.size = some (seqObj "list" acc.toList.toArray 0) := Heap.get?_push_size _ rfl
  have ne : ∀ {b : Addr} {o : Obj}, s.heap.get? b = some o → b ≠ h'.objs.size := fun e => Nat.ne_of_lt (Heap.lt_size (hkp _ _ e))
  refine wpAny_bind (wpAny_holding ?_)
  show wpAny (model X.prog X.w) X.A.in1 (call (.builtin "list.sort") [.ref h'.objs.size] [(Str.ofString "key", .ref f)]) _ _ { s with heap := h'.push (seqObj "list" acc.toList.toArray 0), toks := tk }
  refine list_sort_key_data (b := false) (s := { s with heap := h'.push (seqObj "list" acc.toList.toArray 0), toks := tk }) (fun r : Row => keyOf r.2) hoL each (all_alike rs) (all_sortable rs) hz (fun r _ => ?_) (ksk_l1 _ _) (ksk_t1 _ _) (fun v r ev hm h tk kp => ?_) fun out c h'' tk' kp hD hle eo => ?_
  · have hdep := depth_key r.2
    show X.A.units + 1 + 1 + (keyOf r.2).depth < cLine
    omega
  · subst ev
    obtain ⟨its', rv', ht, hz'⟩ := I.tuple (.inl (.inl (h3 r hm)))
    rw [List.length_map] at hz'
    obtain ⟨o, ho, hr'⟩ := ht
    have up : ∀ b o, s.heap.get? b = some o → h.get? b = some o := fun b o e => kp b o (ne e) (Heap.get?_push_of_some _ (hkp _ _ e))
    exact hf h tk up r.1 r.2 its' rv' ⟨o, up _ _ ho, hr'⟩ hz'
  · have hle2 : ((rs.mergeSort leRow).map fun r => V.ref r.1).length ≤ sizeLine := by
      rw [List.length_map, List.length_mergeSort]
      exact hz
    have up : ∀ b o, h'.get? b = some o → h''.get? b = some o := fun b o e => kp b o (Nat.ne_of_lt (Heap.lt_size e)) (Heap.get?_push_of_some _ e)
    refine wpAny_pure ⟨_, rfl, .ref h'.objs.size, _, I1.laid (t' := tk') (o := .lst ((rs.mergeSort leRow).map fun r => V.ref r.1)) up (Nat.le_refl _) ⟨hle2, out, c, each_rows eo, hD⟩, rfl, q _ _ ?_ (fun r hr => h3 r (List.mem_mergeSort.mp hr)) (I1.hok.fresh (Nat.le_refl _))⟩
    rw [← h1]
    exact sort_maps (fun r : Row => r.2) fun _ _ _ _ => rfl
end
end Ka
/-! sorted(e, key=f) of rows: f a def of the text, or a lambda. -/
namespace Ka
open PySem PySem.Spec PyProof.Rows L2 PySem.W

section
variable {X : Cx} {pins : List (Addr × Obj)} {σ : L2.St} {H : Hp} {s : Shared}
theorem deep2 {k : Nat} (hr : Room k X.A) : X.A.in1.in1.depth < recursionLimit := hr.depth
theorem ns_up {h h' : Heap} (kp : ∀ b o, h.get? b = some o → h'.get? b = some o) {b : Addr} {m : Str → Option Value} (n : h.Ns b m) : h'.Ns b m :=
  let ⟨o, es, ep, e, r⟩ := n; ⟨o, es, ep, kp _ _ e, r⟩
theorem code_up {h h' : Heap} (kp : ∀ b o, h.get? b = some o → h'.get? b = some o) {c : Value} {q : Str} (n : h.CodeRec c q) : h'.CodeRec c q :=
  let ⟨c, oc, vs, t, e1, e2, r⟩ := n; ⟨c, oc, vs, t, e1, kp _ _ e2, r⟩

/-- a def of the text that gives the key -/
theorem keyAt_def {name qual : Str} {params : Arguments} {scope : Scope} {dV kV doc pm cdv ct oc : Value} {an od : Option Addr} {osl : Array (Option Value)} {x : Str} {f : Addr} {p1 p2 p3 p4 p5 p6 : Pos} {k j : Nat} (I : Inv X pins σ H s) (hr : Room j X.A)
    (lk : X.K.lookup f = some ⟨oc, od, .func (fnOf name qual params [.Return (some (.Tuple [.Call (.Name "len" p1) [.Name x p2] [] p3, .Name x p4] k p5)) p6] scope dV kV doc pm an cdv ct), osl⟩) (hcd : codeIn X.K cdv qual = true) (hm : X.mg "len" = none)
    (hbind : ∀ v : Value, bindArgs (fnOf name qual params [.Return (some (.Tuple [.Call (.Name "len" p1) [.Name x p2] [] p3, .Name x p4] k p5)) p6] scope dV kV doc pm an cdv ct) ⟨[v], []⟩ = pure [(x, v)])
    (hk : scope.kind = .function) (hco : scope.isCoroutine = false) (hge : scope.isGenerator = false) (hc : ∀ y ∈ scope.names, y.2 ≠ .cell) (hx : scope.names.lookup x = some .local) (hl : scope.names.lookup ("len" : Str) = some .globalImplicit) (hdx : (x == ("__debug__" : Str)) = false) : KeyAt X s f := by
  intro h tk kp a zs its rv ht hz
  obtain ⟨mb, b1, b2⟩ := I.mod.blt
  exact call_keyDef (s := { s with heap := h, toks := tk }) (kp _ _ (I.kIn _ _ lk)) rfl (deep2 hr) (I.nolimit.keeps kp) (code_up kp (codeRec_of I.kIn hcd)) (hbind _) hk hco hge hc hx hl hdx (ns_up kp (I.mod.glob.keeps I.bk)) hm (ns_up kp (b1.keeps I.bk)) ((b2 "len" (by decide)).trans PySem.boot_len) rv ht hz

/-- a lambda that gives the key -/
theorem keyAt_lam {params : Arguments} {scope : Scope} {pm ct : Value} {c' : Addr} {q : Str} {x : Str} {f : Addr} {clos : List (Str × Addr)} {p1 p2 p3 p4 p5 : Pos} {k j : Nat} (I : Inv X pins σ H s) (hr : Room j X.A)
    (hf : s.heap.get? f = some (kla_obj "<lambda>" q params (.Tuple [.Call (.Name "len" p1) [.Name x p2] [] p3, .Name x p4] k p5) scope clos pm c' ct)) (hcd : H c' = some (LamX.CodeO c' q)) (hm : X.mg "len" = none)
    (hbind : ∀ v : Value, bindArgs (kla_fn "<lambda>" q params (.Tuple [.Call (.Name "len" p1) [.Name x p2] [] p3, .Name x p4] k p5) scope clos pm (.ref c') ct) ⟨[v], []⟩ = pure [(x, v)])
    (hk : scope.kind = .function) (hco : scope.isCoroutine = false) (hge : scope.isGenerator = false) (hc : ∀ y ∈ scope.names, y.2 ≠ .cell) (hx : scope.names.lookup x = some .local) (hl : scope.names.lookup ("len" : Str) = some .globalImplicit) (hdx : (x == ("__debug__" : Str)) = false) : KeyAt X s f := by
  intro h tk kp a zs its rv ht hz
  obtain ⟨mb, b1, b2⟩ := I.mod.blt
  obtain ⟨⟨oc, vs, t, hoc, hdc, hvc⟩, _, _⟩ := I.hok c' _ hcd
  exact call_keyLam (s := { s with heap := h, toks := tk }) (kp _ _ hf) (deep2 hr) (I.nolimit.keeps kp) ⟨c', oc, vs, t, rfl, kp _ _ hoc, hdc, hvc⟩ (hbind _) hk hco hge hc hx hl hdx (ns_up kp (I.mod.glob.keeps I.bk)) hm (ns_up kp (b1.keeps I.bk)) ((b2 "len" (by decide)).trans PySem.boot_len) rv ht hz
end

section
variable {X : Cx}
/-- sorted(e, key=f), e a list of rows or a dict of rows -/
def rSortK (K : PySem.W.Frag) (f : Addr) : List V → List V → Hp → VK → Prop := fun vs zs H Q => zs = [.ref f] ∧
  ((∃ (a : Addr) (rs : List Row), vs = [.ref a] ∧ SqL K H a (rs.map fun r => V.ref r.1) ∧ (∀ r ∈ rs, SqT K H r.1 (r.2.map V.str)) ∧ ∀ p, H p = none → Q (.ref p) (upd H p (.lst ((rs.mergeSort leRow).map fun r => V.ref r.1)))) ∨
   (∃ (a : Addr) (kvs : List (List L2.Key × V)) (rows : List (List Str)), vs = [.ref a] ∧ H a = some (.dT kvs) ∧ kvs.map (·.1) = rows.map (fun r => r.map Sum.inr) ∧
     ∀ (rs : List Row) (p : Addr), rs.map (·.2) = rows.mergeSort rowLe → (∀ r ∈ rs, H r.1 = some (.tup (r.2.map V.str))) → H p = none → Q (.ref p) (upd H p (.lst (rs.map fun r => V.ref r.1)))))
theorem cr_sortRows {f : Addr} (hc : X.calm = true) (hu : X.A.units + 64 < cLine) (hf : ∀ (pins : List (Addr × Obj)) (s : Shared) (σ : L2.St) (H : Hp), Inv X pins σ H s → KeyAt X s f) : CallRK X (.builtin "sorted") [Str.ofString "key"] (rSortK X.K f) := by
  intro pins s σ H vs zs us ws Q I r rz h
  obtain ⟨rfl, h⟩ := h
  obtain ⟨w1, rfl, e1⟩ := vals1 rz
  obtain rfl : w1 = Value.ref f := e1
  rcases h with ⟨a, rs, rfl, hs, hr, q⟩ | ⟨a, kvs, rows, rfl, hd, hk, q⟩
  · obtain rfl := Vals.ref1 r
    exact sorted_list I hu hs hr (hf _ _ _ _ I) q
  · obtain rfl := Vals.ref1 r
    exact sorted_dict I hc hu hd hk (hf _ _ _ _ I) q

/-- sorted(e, key=lambda x: (len(x), x)) -/
def tSortLam (K : PySem.W.Frag) (T : List (Addr × Str)) (te : TE) : TE := fun σ H Q => te σ H fun v H1 => ∃ (a : Addr) (rs : List Row), v = .ref a ∧ SqL K H1 a (rs.map fun r => V.ref r.1) ∧ (∀ r ∈ rs, SqT K H1 r.1 (r.2.map V.str)) ∧ LamX.Tabs T H1 ∧
  ∀ H2 p, LamX.ExtN H1 H2 → LamX.Tabs T H2 → H2 p = none → Q (.ref p) (upd H2 p (.lst ((rs.mergeSort leRow).map fun r => V.ref r.1)))
theorem rd_ext {H H' : Hp} {a : Addr} {u : HO} (h : Rd H a u) (e : LamX.ExtN H H') (hn : ∀ ps, u ≠ .tbl ps) : Rd H' a u := by
  rcases h with h | ⟨o, h⟩
  · exact .inl (e _ _ h hn)
  · exact .inr ⟨o, e _ _ h fun ps z => by cases z⟩
theorem sqL_ext {K : PySem.W.Frag} {H H' : Hp} {a : Addr} {xs : List V} (h : SqL K H a xs) (e : LamX.ExtN H H') : SqL K H' a xs := by
  rcases h with h | h
  · exact .inl (rd_ext h e fun ps z => by cases z)
  · exact .inr h
theorem sqT_ext {K : PySem.W.Frag} {H H' : Hp} {a : Addr} {xs : List V} (h : SqT K H a xs) (e : LamX.ExtN H H') : SqT K H' a xs := by
  rcases h with h | h
  · exact .inl (rd_ext h e fun ps z => by cases z)
  · exact .inr h
theorem pe_sortedLam {T : List (Addr × Str)} {c P : Addr} {params : Arguments} {scope : Scope} {x : Str} {e : Expr} {te : TE} {p lpos kpos pos p1 p2 p3 p4 p5 : Pos} {k j : Nat} (hr : Room j X.A) (hu : X.A.units + 64 < cLine) (hg : Gl X "sorted") (hm : X.mg "sorted" = none) (hml : X.mg "len" = none) (he : PE X e te)
    (TB : LamX.TabB X.base X.mg c P) (hcode : X.env.code = .ref c) (hmT : (P, X.env.qual ++ "<lambda>") ∈ T) (hu2 : ∀ p ∈ T, p.1 = P → p.2 = X.env.qual ++ "<lambda>") (hdef : defaultsOf params X.env = ([], [])) (hfree : ∀ y ∈ scope.names, y.2 ≠ .free)
    (hbind : ∀ (q : Str) (clos : List (Str × Addr)) (pm cd ct v : Value), bindArgs (kla_fn "<lambda>" q params (.Tuple [.Call (.Name "len" p1) [.Name x p2] [] p3, .Name x p4] k p5) scope clos pm cd ct) ⟨[v], []⟩ = pure [(x, v)])
    (hk : scope.kind = .function) (hco : scope.isCoroutine = false) (hge : scope.isGenerator = false) (hc : ∀ y ∈ scope.names, y.2 ≠ .cell) (hx : scope.names.lookup x = some .local) (hl : scope.names.lookup ("len" : Str) = some .globalImplicit) (hdx : (x == ("__debug__" : Str)) = false)
    (h1 : backTo pos (starEach [e] X.env) = (false, eval e X.env) :: backTo pos (starEach [] X.env) := by rfl) :
    PE X (.Call (.Name "sorted" p) [e] [⟨some "key", .Lambda params (.Tuple [.Call (.Name "len" p1) [.Name x p2] [] p3, .Name x p4] k p5) scope lpos, kpos⟩] pos) (tSortLam X.K T te) := by
  refine ⟨fun pins s σ H Q I h => ?_⟩
  refine wpAny_Call_Name_kw (ld_blt (u := .builtin "sorted") I hg hm (by decide +kernel) ?_ (by decide) (by decide))
  refine PyProof.Rows.callWith_kw ?_ h1 (by rw [h1]; rfl) (by rfl) (by rfl)
  rw [h1]
  refine Calls.spliced_cons (thn (he.run pins s σ H _ I h) fun u s1 ⟨v, H1, I1, r1, a, rs, ev, hs, hr', hT, q⟩ => Calls.spliced_nil ?_)
  subst ev
  obtain rfl : u = Value.ref a := r1
  show wpAny _ _ (evalAll [do let v ← eval (.Lambda params (.Tuple [.Call (.Name "len" p1) [.Name x p2] [] p3, .Name x p4] k p5) scope lpos) X.env; standAt pos; pure v]) _ _ s1
  refine wpAny_evalAll_cons (wpAny_bind (LamX.lam_make2 I1 TB hcode hmT hu2 hT hdef (fun y hy e => absurd e (hfree y hy)) fun f c' pm' ctv H2 s2 I2 eN T2 hf hfn hfr hco' => wpAny_bind (wpAny_standAt (wpAny_pure (wpAny_evalAll_nil ?_)))))
  refine sorted_list I2 hu (sqL_ext hs eN) (fun r hr0 => sqT_ext (hr' r hr0) eN) (keyAt_lam I2 hr hf hco' hml (fun v => hbind _ _ _ _ _ v) hk hco hge hc hx hl hdx) fun p' np => q H2 p' eN T2 np
end
end Ka
/-! {k: v for target in iter if ..} whose keys are tuples of texts and ints. -/
namespace Ka
open PySem PySem.Spec PyProof.Rows L2

theorem dT_set {X : Cx} {pins : List (Addr × Obj)} {σ : L2.St} {H : Hp} {s : Shared} {E : Value → Shared → Prop} {D b : Addr} {kvs : List (List L2.Key × V)} {k : List L2.Key} {v : V} {u r : Value} {Q : Unit → Shared → Prop} (hu : X.A.units + 1 < cLine) (I : Inv X pins σ H s) (hD : H D = some (.dT kvs)) (hz : kvs.length < sizeLine)
    (hb : H b = some (.tup (k.map kV))) (ry : RelV (.ref b) u) (rv : RelV v r) (h : ∀ s', Inv X pins σ (upd H D (.dT (putK kvs k v))) s' → Q () s') : wpAny (model X.prog X.w) X.A (dictSet D u r) Q E s := by
  cases (show u = Value.ref b from ry)
  obtain ⟨z, hd, xs, rel, dd⟩ := dt_of I.hok hD
  have hzx : xs.length ≤ sizeLine := by rw [← Paired.length rel]; exact z
  have hl : (putK kvs k v).length ≤ sizeLine := by have := length_putK kvs k v; omega
  refine wpAny_dictSet_heap (hsz := hzx) (knd := tupleKind (mixKind X.prog X.w)) ?_ (key_of I.hok hb) dd fun h' dd' hs => h _ ?_
  · show X.A.units < cLine
    omega
  · obtain ⟨q, es, ep, hq, h2, h3, h4, _, h5⟩ := dd'
    refine d_write I (by rw [hD]; exact True.intro) hs ⟨q, hq⟩ ⟨hl, hd, _, (rel.put k hb rv).keeps fun c ys ec => ?_, q, es, ep, hq, h2, h3, h4, h5⟩
    rw [upd_ne (ne_of ec hD fun z => nomatch z)]
    exact ec

section
variable {X : Cx}
/-- {k: v for target in iter}, keys tuples: D the new dict -/
def tDcT (wi : TI) (g : TG) (tk tv : TE) (vs : List Nat) : TE := fun σ H Q => wi σ H fun J H1 => ∀ D, H1 D = none → ∃ W : Nat → Nat → Hp → Prop, (∃ m, W 0 m (upd H1 D (.dT []))) ∧ ∀ i m H, W i m H →
  (J.stop i H ∧ Q (.ref D) H) ∨ (J.go i H ∧ ∃ Nx : Hp → Prop, (∀ H', Nx H' → ∃ m', m' < m ∧ W (i + 1) m' H') ∧ ∀ x H', J.yld i H x H' → g x (wipe σ vs) H' fun σ2 H2 => wipe σ2 vs = wipe σ vs ∧
    tk σ2 H2 fun y H4 => tv σ2 H4 fun z H5 => ∃ kvs k b, y = .ref b ∧ H5 b = some (.tup (k.map kV)) ∧ H5 D = some (.dT kvs) ∧ kvs.length < sizeLine ∧ Nx (upd H5 D (.dT (putK kvs k z))))

/-- one turn of the block, from the item drawn on -/
theorem dct_turn {Z : Cx} {kx vx tg : Expr} {g : TG} {tk tv : TE} {D : Addr} {τ : L2.St} {vs : List Nat} {H : Hp} {s : Shared} {x : V} {u : Value} {Nx : Hp → Prop} {R : Shared → Prop} {pins : List (Addr × Obj)} {E' : Value → Shared → Prop} (hE : Z.xe = fun _ _ => False) (hu : Z.A.units + 1 < cLine)
    (pg : PG Z tg g) (pk : PE Z kx tk) (pe : PE Z vx tv) (I : Inv Z pins τ H s) (rx : RelV x u)
    (h : g x τ H fun σ2 H2 => wipe σ2 vs = τ ∧ tk σ2 H2 fun y H4 => tv σ2 H4 fun z H5 => ∃ kvs k b, y = .ref b ∧ H5 b = some (.tup (k.map kV)) ∧ H5 D = some (.dT kvs) ∧ kvs.length < sizeLine ∧ Nx (upd H5 D (.dT (putK kvs k z))))
    (fin : ∀ σ2 H' s', wipe σ2 vs = τ → Inv Z pins σ2 H' s' → Nx H' → R s') :
    wpAny (model Z.prog Z.w) Z.A (assign tg Z.env u) (fun _ s₂ => wpAny (model Z.prog Z.w) Z.A (forIn ([] : List Expr) true fun c r => if r = true then do let ok ← isTrue c Z.env (eval c Z.env); pure (ForInStep.yield ok) else pure (ForInStep.yield r)) (fun ok s₃ =>
      if ok = true then wpAny (model Z.prog Z.w) Z.A (eval kx Z.env) (fun kv s₄ => wpAny (model Z.prog Z.w) Z.A (eval vx Z.env) (fun vv s₅ => wpAny (model Z.prog Z.w) Z.A (dictSet D kv vv) (fun _ s₆ => R s₆) E' s₅) E' s₄) E' s₃ else R s₃) E' s₂) E' s := by
  have a1 := pg.run pins s τ H x u _ I rx h
  rw [hE] at a1
  refine thnF a1 fun _ s8 ⟨σ8, H8, I8, hw, q8⟩ => wpAny_tests_nil ?_
  rw [if_pos rfl]
  have a2 := pk.run pins s8 σ8 H8 _ I8 q8
  rw [hE] at a2
  refine thnF a2 fun kv s10 ⟨y, H10, I10, r10, q10⟩ => ?_
  have a3 := pe.run pins s10 σ8 H10 _ I10 q10
  rw [hE] at a3
  refine thnF a3 fun vv s11 ⟨z, H11, I11, r11, kvs, k, b, ey, hb, hD, hz, nx⟩ => ?_
  subst ey
  exact dT_set hu I11 hD hz hb r10 r11 fun s12 I12 => fin σ8 _ s12 hw I12 nx

/-- what stands between two turns of the block -/
def BetweenT (Z : Cx) (fp : List Addr) (tn : Nat → Heap → Prop) (τ : L2.St) (W : Nat → Nat → Hp → Prop) (n : Nat) (s : Shared) : Prop := ∃ i H, Inv Z [] τ H s ∧ tn i s.heap ∧ (∀ b ∈ fp, H b = none) ∧ W i n H

theorem pe_dcT {kx vx tg iter : Expr} {scope : Scope} {own : List (Str × Nat)} {pos : Pos} {wi : TI} {g : TG} {tk tv : TE} (hc : X.calm = true) (hu : X.A.units + 1 < cLine) (hN : X.N.Nodup) (hi : PI X tg iter wi) (ok : BlkOk X.N X.env.scope scope own)
    (hg : ∀ (s : Shared) (H : Hp) (C : Addr) (cl : List (Str × Addr)) (fp : List Addr), PG (X.blk s H scope (compEnvC scope cl C X.env) fp) tg g)
    (hk : ∀ (s : Shared) (H : Hp) (C : Addr) (cl : List (Str × Addr)) (fp : List Addr), PE (X.blk s H scope (compEnvC scope cl C X.env) fp) kx tk)
    (hv : ∀ (s : Shared) (H : Hp) (C : Addr) (cl : List (Str × Addr)) (fp : List Addr), PE (X.blk s H scope (compEnvC scope cl C X.env) fp) vx tv) (hs : ∀ x, foldedSetIterable iter X.env x = pure x := by intro _; rfl) :
    PE X (.DictComp kx vx [⟨tg, iter, [], 0⟩] scope pos) (tDcT wi g tk tv (own.map (·.2))) := by
  refine ⟨fun pins s σ H Q I h => ?_⟩
  rw [arm_eval_DictComp]
  have free : ∀ y ∈ scope.names, y.2 = .free → ∃ c, X.env.cells.lookup y.1 = some c := fun y hy e => (ok.free y hy e).elim (fun k => I.ok.has _ (.inl k)) (fun k => I.ok.has _ (.inr k))
  refine wpAny_comprehension_free rfl hs (closure_ok free) ok.kind (fun y hy e => by rw [ok.uniq y hy, e]) (thn (hi.run pins s σ H _ I h) fun _ s1 hx => thn hx fun _ s2 ⟨it, fp, tn, J, H2, e, I2, T, st2, f2, q⟩ => ?_)
  subst e
  refine wpAny_newObj_type (newEnv_comp ?_)
  generalize hD : s2.heap.objs.size = D
  have nD : H2 D = none := I2.hok.fresh (Nat.le_of_eq hD)
  obtain ⟨W, ⟨m0, w0⟩, turn⟩ := q D nD
  generalize hs3 : ({ s2 with heap := s2.heap.push { cls := .type "dict", data := .dict #[] } } : Shared) = s3
  have h3 : s3.heap = s2.heap.push { cls := .type "dict", data := .dict #[] } := by rw [← hs3]
  have I3 : Inv X pins σ (upd H2 D (.dT [])) s3 := by
    subst hs3 hD
    exact I2.laid (t' := s2.toks) (fun b o z => Heap.get?_push_of_some _ z) (Nat.le_refl _) (dt_empty s2.heap I2.big)
  have f3 : ∀ b ∈ fp, FpOk X pins (upd H2 D (.dT [])) b ∧ b < s3.heap.objs.size := fun b hb => by
    obtain ⟨o, e, _⟩ := T.obj _ _ st2 b hb
    have lt : b < s2.heap.objs.size := Heap.lt_size e
    refine ⟨⟨?_, (f2 b hb).2⟩, by rw [h3, Heap.size_push]; exact Nat.lt_succ_of_lt lt⟩
    rw [upd_ne (by rw [← hD]; exact Nat.ne_of_lt lt)]
    exact (f2 b hb).1
  have I4 := block_start I3 ok hN f3
  have pg := hg s3 (upd H2 D (.dT [])) s3.heap.objs.size (cellsFrom (s3.heap.objs.size + 1) scope.names (cloFrom X.env.cells scope.names [])) fp
  have pk := hk s3 (upd H2 D (.dT [])) s3.heap.objs.size (cellsFrom (s3.heap.objs.size + 1) scope.names (cloFrom X.env.cells scope.names [])) fp
  have pv := hv s3 (upd H2 D (.dT [])) s3.heap.objs.size (cellsFrom (s3.heap.objs.size + 1) scope.names (cloFrom X.env.cells scope.names [])) fp
  show codeAny _ _ (.compStart (.DictComp kx vx [⟨tg, iter, [], 0⟩] scope pos) 0 (.ref it) (.ref D) (compEnvC scope (cellsFrom (s3.heap.objs.size + 1) scope.names (cloFrom X.env.cells scope.names [])) s3.heap.objs.size X.env)) (compPost (model X.prog X.w) X.A X.xe none (EP X pins σ Q) (.ref D) s3.heap.objs.size) { s3 with heap := pushCells (s3.heap.push { cls := .type "dict", data := .dict #[] }) scope.names }
  generalize hce : compEnvC scope (cellsFrom (s3.heap.objs.size + 1) scope.names (cloFrom X.env.cells scope.names [])) s3.heap.objs.size X.env = ce at I4 pg pk pv ⊢
  have cL : ce.locals = s3.heap.objs.size := by subst hce; rfl
  generalize hH3 : upd H2 D (.dT []) = H3 at I3 I4 pg pk pv w0 f3
  generalize hs4 : ({ s3 with heap := pushCells (s3.heap.push { cls := .type "dict", data := .dict #[] }) scope.names } : Shared) = s4 at I4 ⊢
  have st4 : tn 0 s4.heap := T.keep _ _ _ st2 fun b _ o z => by
    rw [← hs4]
    exact pushCells_keeps _ _ _ _ (Heap.get?_push_of_some _ (by rw [h3]; exact Heap.get?_push_of_some _ z))
  have blk : ∀ {σ' : L2.St} {H' : Hp} {s' : Shared}, Inv (X.blk s3 H3 scope ce fp) [] σ' H' s' → (∀ b ∈ fp, H' b = none) → ∀ b ∈ fp, FpOk (X.blk s3 H3 scope ce fp) [] H' b := fun J' hn b hb =>
    ⟨hn b hb, (J'.ok.exf b hb).1, J'.ok.exfs b hb, .inl hb, fun x c z => (J'.ok.exf b hb).2 x c z, fun p hp => absurd (show p ∈ ([] : List (Addr × Obj)) ++ [] from hp) (by simp)⟩
  have loop : codeAny (model X.prog X.w) X.A (.compLoop (.DictComp kx vx [⟨tg, iter, [], 0⟩] scope pos) 0 (.ref it) (.ref D) ce) (compPost (model X.prog X.w) X.A X.xe none (EP X pins σ Q) (.ref D) s3.heap.objs.size) s4 := by
    refine compLoop_anyD (BetweenT (X.blk s3 H3 scope ce fp) fp tn (wipe σ (own.map (·.2))) W) ?_ m0 ⟨0, H3, I4, st4, fun b hb => (f3 b hb).1.1, w0⟩
    rintro n s5 ⟨i, H5, I5, st5, n5, w5⟩
    rcases turn i n H5 w5 with ⟨stop, qq⟩ | ⟨go, Nx, hNx, step⟩
    · refine thnF (T.done (X.blk s3 H3 scope ce fp) rfl rfl rfl hc i [] s5 _ H5 (fun _ _ => False) I5 (blk I5 n5) st5 stop) fun r s6 ⟨hr, I6⟩ => ?_
      subst hr
      have I7 : Inv X pins σ H5 s6 := I3.call' (ch := fp) I6.os I6.base I6.hok I6.bare fun b hb => ⟨(f3 b hb).1.2.2.2.1, (f3 b hb).1.2.1, (f3 b hb).1.2.2.2.2.1, (f3 b hb).1.2.2.2.2.2⟩
      have nC : H5 s3.heap.objs.size = none := by
        have z : H5 ce.locals = none := I6.free
        rwa [cL] at z
      obtain ⟨m, hn, _⟩ := I6.loc
      have hn : s6.heap.Ns ce.locals m := hn
      rw [cL] at hn
      obtain ⟨f0, f1, f2, f4, f5, f6⟩ := I3.fpOk (Nat.le_refl _) nC
      exact ⟨m, hn, fun h'' sb => ⟨.ref D, H5, I7.turned (t' := s6.toks) (fun b o hb z => (sb.2 b hb).trans z) f0 f1 f4 f5 f6, rfl, qq⟩⟩
    · refine thnF (T.item (X.blk s3 H3 scope ce fp) rfl rfl rfl hc i [] s5 _ H5 (fun _ _ => False) I5 (blk I5 n5) st5 go) fun r s6 ⟨u, hr, h6⟩ => ?_
      subst hr
      refine thnF h6 fun _ s7 ⟨x, H7, I7, r7, y7, st7, n7⟩ => ?_
      have I7' := I7.pinned (blk I7 n7) (T.obj _ _ st7)
      have main := dct_turn (s := s7) (Z := X.blk s3 H3 scope ce fp) (vs := own.map (·.2)) (D := D) (Nx := Nx) (E' := notedBy (model X.prog X.w) X.A ce fun e s' => compPost (model X.prog X.w) X.A X.xe none (EP X pins σ Q) (.ref D) s3.heap.objs.size (.error e) s') (R := fun s' => ∃ m, m < n ∧ BetweenT (X.blk s3 H3 scope ce fp) fp tn (wipe σ (own.map (·.2))) W m s') rfl hu pg pk pv I7' r7 (step x H7 y7) fun σ8 H' s' hw I' nx => by
        obtain ⟨m', hm, w'⟩ := hNx H' nx
        have keep : ∀ b ∈ fp, ∀ o, s7.heap.get? b = some o → s'.heap.get? b = some o ∧ H' b = none := fun b hb o z =>
          let y := I'.pin (b, o) (List.mem_append_right _ (List.mem_append_right _ (mem_pinsAt hb z)))
          ⟨y.1, y.2.1⟩
        refine ⟨m', hm, i + 1, H', (I'.unpinned (pins := [])).weak (by rw [← hw, wipe_length]) (fun j v z => ?_), T.keep _ _ _ st7 fun b hb o z => (keep b hb o z).1, fun b hb => ?_, w'⟩
        · rw [← hw] at z
          exact (wipe_some z).1
        · obtain ⟨o, z, _⟩ := T.obj _ _ st7 b hb
          exact (keep b hb o z).2
      exact main
  exact codeAny_compStart_dict loop (T.self X.A 0 _ _ _ st4 loop)
end
end Ka
namespace Kb
open PySem PySem.Spec PyProof.Rows L2
/-! ### the text, def by def -/
def topS (i : Nat) : Stmt := PySem.Challenge.pw_stillowed_k83_exact_makings.main.body.getD i (.Pass ⟨0, 0, 0, 0⟩)
abbrev sAsc : Stmt := topS 1
abbrev sWithin : Stmt := topS 3
abbrev sBegun : Stmt := topS 4
abbrev sRowBy : Stmt := topS 6
abbrev sMade : Stmt := topS 8
abbrev sOwnD : Stmt := topS 9
abbrev sExact : Stmt := topS 10
abbrev sCouple : Stmt := topS 11
abbrev sFirstC : Stmt := topS 12
abbrev sCheckC : Stmt := topS 13
abbrev sBox : Stmt := topS 15
abbrev sTake : Stmt := topS 16
abbrev sPick : Stmt := topS 17
abbrev sNames : Stmt := topS 18
abbrev sLawIn : Stmt := topS 19
abbrev sLawMade : Stmt := topS 20
abbrev sMaking : Stmt := topS 21
abbrev sOwned : Stmt := topS 22
abbrev sHolder : Stmt := topS 23
abbrev sPair : Stmt := topS 24
abbrev sRight : Stmt := topS 25
abbrev sLaw : Stmt := topS 26
/-! ### heaps -/
theorem same_new {H : Hp} {p : Addr} {o : HO} (h : H p = none) : Same H (upd H p o) := fun b x e => by
  rw [upd_ne (ne_of_none e h)]
  exact e
theorem Same.sqT {K : PySem.W.Frag} {H H' : Hp} {a : Addr} {xs : List V} (e : Same H H') (h : SqT K H a xs) : SqT K H' a xs := by
  rcases h with (h | ⟨o, h⟩) | h
  · exact .inl (.inl (e _ _ h))
  · exact .inl (.inr ⟨o, e _ _ h⟩)
  · exact .inr h
theorem sqT_new {K : PySem.W.Frag} {H : Hp} {p : Addr} {xs : List V} (h : H p = some (.tup xs)) : SqT K H p xs := .inl (.inl h)
theorem sqL_new {K : PySem.W.Frag} {H : Hp} {p : Addr} {xs : List V} (h : H p = some (.lst xs)) : SqL K H p xs := .inl (.inl h)
theorem get_map {α β : Type} {f : α → β} {l : List α} {i : Nat} {y : β} (h : (l.map f)[i]? = some y) : ∃ x, l[i]? = some x ∧ y = f x := by
  rw [List.getElem?_map] at h
  cases e : l[i]? with
  | none =>
    rw [e] at h
    cases h
  | some x =>
    rw [e] at h
    exact ⟨x, rfl, (Option.some.inj h).symm⟩
theorem lt_of_get {α : Type} {l : List α} {i : Nat} {x : α} (h : l[i]? = some x) : i < l.length := (List.getElem?_eq_some_iff.mp h).1
theorem drop_of_get {α : Type} {l : List α} {i : Nat} {x : α} (h : l[i]? = some x) : l.drop i = x :: l.drop (i + 1) := by
  obtain ⟨h1, h2⟩ := List.getElem?_eq_some_iff.mp h
  rw [List.drop_eq_getElem_cons h1, h2]
theorem take_of_get {α : Type} {l : List α} {i : Nat} {x : α} (h : l[i]? = some x) : l.take (i + 1) = l.take i ++ [x] := by
  rw [List.take_add_one, h]
  rfl
/-! ### rules told by K, for a comprehension's block -/
def rLen (K : PySem.W.Frag) : List V → Hp → VK → Prop := fun xs H Q => ∃ p ys, xs = [V.ref p] ∧ (SqL K H p ys ∨ SqT K H p ys) ∧ Q (.int (ys.length : Nat)) H
theorem len_at {X : Cx} {K : PySem.W.Frag} (h : X.K = K) : CallR X (.builtin "len") (rLen K) := by
  subst h
  exact call_len_seq
theorem ixT_at {X : Cx} {K : PySem.W.Frag} (h : X.K = K) : IxR X (rIxT K) := by
  subst h
  exact ix_tup
theorem ixL_at {X : Cx} {K : PySem.W.Frag} (h : X.K = K) : IxR X (rIxL K) := by
  subst h
  exact ix_list
/-- places as values -/
def natV (l : List Nat) : List V := l.map fun (i : Nat) => V.int (i : Int)
theorem natV_len (l : List Nat) : (natV l).length = l.length := List.length_map _
theorem small {n : Nat} (h : n ≤ 1000000) : n < sizeLine := Nat.lt_of_le_of_lt h (by rw [sizeLine_eq]; decide)
theorem smallE {n : Nat} (h : n ≤ 1000000) : n ≤ sizeLine := Nat.le_of_lt (small h)
theorem walk_revT {K : PySem.W.Frag} {a : Addr} {xs : List V} : Walk (RT.ItvT K a xs.length) xs.length (fun H => SqT K H a xs) (fun i H x H' => H' = H ∧ xs[xs.length - 1 - i]? = some x) := by
  refine ⟨fun i H hi q => ?_, fun H q => ?_, fun i H x H' hi q y => ?_⟩
  · exact ⟨hi, xs, xs[xs.length - 1 - i], q, by simp⟩
  · exact Nat.le_refl _
  · exact ⟨y.1, y.2 xs q⟩
/-- counts as values -/
def intV (l : List Int) : List V := l.map V.int
theorem intV_len (l : List Int) : (intV l).length = l.length := List.length_map _
theorem intV_get {l : List Int} {i : Nat} {x : Int} (h : l[i]? = some x) : (intV l)[i]? = some (.int x) := by
  unfold intV
  rw [List.getElem?_map, h]
  rfl
theorem natV_get {l : List Nat} {i x : Nat} (h : l[i]? = some x) : (natV l)[i]? = some (.int (x : Nat)) := by
  unfold natV
  rw [List.getElem?_map, h]
  rfl
end Kb
namespace Kb
open PySem PySem.Spec PyProof.Rows L2
/-! ### within -/
section
variable {α : Type} [DecidableEq α]
def sub : List α → List α → Bool
  | [], _ => true
  | _ :: _, [] => false
  | d :: u, e :: z => if d = e then sub u z else sub (d :: u) z
theorem sub_none {d : α} {u : List α} : ∀ {z : List α}, (∀ k : Nat, z[k]? ≠ some d) → sub (d :: u) z = false
  | [], _ => rfl
  | e :: z, h => by
    have h0 : e ≠ d := fun x => h 0 (by rw [x]; rfl)
    rw [sub, if_neg (fun x => h0 x.symm)]
    exact sub_none fun k => by
      have := h (k + 1)
      simpa using this
theorem sub_hit {d : α} {u : List α} : ∀ {z : List α} {j : Nat}, z[j]? = some d → (∀ k : Nat, k < j → z[k]? ≠ some d) → sub (d :: u) z = sub u (z.drop (j + 1))
  | [], j, h, _ => by simp at h
  | e :: z, 0, h, _ => by
    have e1 : e = d := by simpa using h
    rw [sub, if_pos e1.symm]
    rfl
  | e :: z, j + 1, h, h2 => by
    have h0 : e ≠ d := fun x => h2 0 (Nat.succ_pos _) (by rw [x]; rfl)
    rw [sub, if_neg (fun x => h0 x.symm), List.drop_succ_cons]
    exact sub_hit (by simpa using h) fun k hk => by
      have := h2 (k + 1) (Nat.succ_lt_succ hk)
      simpa using this
theorem first_at (x : α) : ∀ l : List α, (∀ k : Nat, l[k]? ≠ some x) ∨ ∃ m : Nat, l[m]? = some x ∧ ∀ k : Nat, k < m → l[k]? ≠ some x
  | [] => .inl fun k h => by simp at h
  | e :: l => by
    by_cases h : e = x
    · exact .inr ⟨0, by rw [h]; rfl, fun k hk => absurd hk (Nat.not_lt_zero k)⟩
    · have h0 : (e :: l)[0]? ≠ some x := fun z => h (Option.some.inj z)
      rcases first_at x l with hn | ⟨m, h1, h2⟩
      · refine .inl fun k => ?_
        cases k with
        | zero => exact h0
        | succ k => simpa using hn k
      · refine .inr ⟨m + 1, by simpa using h1, fun k hk => ?_⟩
        cases k with
        | zero => exact h0
        | succ k => simpa using h2 k (Nat.lt_of_succ_lt_succ hk)
end
section
variable {P : Program} {w : World} {K : PySem.W.Frag} {mg : Str → Option Value} {base : Heap}
theorem scWithin : FnScope ["u", "v", "rest", "deed"] ["u", "v"] (defScope sWithin) := ⟨rfl, rfl, rfl, by decide +kernel, rfl, by decide +kernel, by decide +kernel⟩
def spWithin (K : PySem.W.Frag) : Sp := fun vs H Q _ => ∃ (a b : Addr) (us zs : List Str), vs = [.ref a, .ref b] ∧ SqT K H a (us.map V.str) ∧ SqT K H b (zs.map V.str) ∧ ∀ H', Same H H' → Q (.bl (sub us zs)) H'
theorem ok_within {f : Addr} {fd : FuncData} (F : Fun K "within" "within" sWithin f fd) (mi : mg "iter" = none) : FnOk P w K mg base CX0 1 f fd ["u", "v"] (spWithin K) := by
  refine F.ok scWithin (fun vs H Q E h => ?_) (fun cdv A outer s H vs Q E hr h => ?_)
  · obtain ⟨a, b, us, zs, rfl, _⟩ := h
    rfl
  · obtain ⟨a, b, us, zs, rfl, hA, hB, q⟩ := h
    refine ⟨_, pss_cons (ps_set (i := 2) scWithin.nd rfl (.inl rfl) (pe_callB Ka.call_iterT (by rfl) mi (by decide +kernel) (pa_cons (pv 1) pa_nil)))
      (pss_cons (ps_for PassesOwn.never rfl (pi_tup (pv 0)) (pg_name (i := 3) scWithin.nd rfl (.inl rfl))
        (pss_one (ps_if (pt_not (pt_cmpR (Ka.op_inTI rfl) (pv 3) (pv 2) rfl)) (pss_one (ps_ret pe_bl)) pss_nil)))
      (pss_one (ps_ret pe_bl))), ?_⟩
    refine ⟨.ref b, rfl, b, zs.map V.str, rfl, hB, fun it nit hle => ?_⟩
    refine ⟨.ref a, rfl, a, rfl, ⟨_, Same.sqT (same_new nit) hA⟩, ?_⟩
    have nab : ∀ c o, H c = some o → c ≠ it := fun c o e => ne_of_none e nit
    refine for_tup (K := K) (a := a) (xs := us.map V.str) (fun i σ H' => ∃ (d : Option V) (j : Nat), σ = [some (.ref a), some (.ref b), some (.ref it), d] ∧ Same H H' ∧ H' it = some (Ka.TupI b it j) ∧ sub us zs = sub (us.drop i) (zs.drop j))
      ⟨none, 0, rfl, same_new nit, upd_same, rfl⟩ (fun i σ H' _ ⟨_, _, _, sm, _⟩ => Same.sqT sm hA) ?_ ?_
    · rintro i x σ H' hx ⟨d, j, rfl, sm, hit, eq⟩
      obtain ⟨z, hz, rfl⟩ := get_map hx
      rw [drop_of_get hz] at eq
      refine ⟨.str z, rfl, .ref it, rfl, z, it, b, zs, j, rfl, rfl, hle, hit, Same.sqT sm hB, ?_⟩
      have ne : ∀ c o, H c = some o → c ≠ it := fun c o e => ne_of_none e nit
      rcases first_at z (zs.drop j) with hn | ⟨m, h1, h2⟩
      · rw [sub_none hn] at eq
        rw [eq] at q
        refine .inr ⟨fun k hk hz' => hn (k - j) (by rw [List.getElem?_drop, Nat.add_sub_cancel' hk]; exact hz'), false, rfl, q _ fun c o e => ?_⟩
        rw [ItX.dropH_ne (ne c o e)]
        exact sm c o e
      · rw [sub_hit h1 h2, List.drop_drop] at eq
        rw [List.getElem?_drop] at h1
        refine .inl ⟨j + m, Nat.le_add_right _ _, h1, fun k hk hk2 hz' => h2 (k - j) (by omega) (by rw [List.getElem?_drop, Nat.add_sub_cancel' hk]; exact hz'), true, rfl, ?_⟩
        refine ⟨_, j + m + 1, rfl, fun c o e => ?_, upd_same, eq⟩
        rw [upd_ne (ne c o e)]
        exact sm c o e
    · rintro σ H' ⟨d, j, rfl, sm, hit, eq⟩
      rw [List.length_map, List.drop_length] at eq
      have e : sub us zs = true := by rw [eq, sub]
      rw [e] at q
      exact q H' sm
end
end Kb
namespace Kb
open PySem PySem.Spec PyProof.Rows L2
/-- a sign from a to z -/
def lowC (c : Nat) : Bool := decide (97 ≤ c) && decide (c ≤ 122)
/-- a name -/
def isName (s : Str) : Bool := decide (1 ≤ s.cps.size) && decide (s.cps.size ≤ 5) && s.cps.toList.all lowC
/-- the names of the language that no text hides -/
structure Nones (mg : Str → Option Value) : Prop where
  len : mg "len" = none
  range : mg "range" = none
  iter : mg "iter" = none
  enumerate : mg "enumerate" = none
  reversed : mg "reversed" = none
  tuple : mg "tuple" = none
  list : mg "list" = none
  sorted : mg "sorted" = none
  any : mg "any" = none
  all : mg "all" = none
  int : mg "int" = none
  str : mg "str" = none
  bool : mg "bool" = none
  abs : mg "abs" = none
  min : mg "min" = none
  max : mg "max" = none
  sum : mg "sum" = none
  isinstance : mg "isinstance" = none
  valueError : mg "ValueError" = none
/-- range(n), its turns told -/
theorem walk_r0 {n : Nat} : Walk (Itr 0 n) n (fun _ => True) (fun i H x H' => H' = H ∧ x = .int (i : Nat)) := walk_range.mono (fun _ h => h) fun i H x H' _ _ y => ⟨y.1, by
  rw [y.2]
  show V.int (0 + (i : Int)) = _
  rw [Int.zero_add]⟩
section
variable {K : PySem.W.Frag}
theorem slA_at {X : Cx} {K : PySem.W.Frag} (h : X.K = K) : SlR X (rSlA K) := by
  subst h
  exact sl_tupA
theorem slA_take {H : Hp} {a : Addr} {xs : List V} {j : Nat} {Q : VK} (hA : SqT K H a xs) (q0 : xs.take j = xs → Q (.ref a) H) (q1 : ∀ p, H p = none → Q (.ref p) (upd H p (.tup (xs.take j)))) : rSlA K (.ref a) none (some (j : Int)) H Q := by
  refine ⟨a, xs, rfl, hA, fun hw => ?_, fun _ p np => ?_⟩
  · have h2 := hw.2
    rw [HT.sIx_nat] at h2
    exact q0 (List.take_of_length_le (by omega))
  · have e : cutV xs none (some (j : Int)) = xs.take j := by
      unfold cutV
      rw [HT.sIx_nat, HT.sIx_none, List.drop_zero, Nat.sub_zero]
      by_cases h : j ≤ xs.length
      · rw [Nat.min_eq_left h]
      · rw [Nat.min_eq_right (by omega), List.take_length, List.take_of_length_le (by omega)]
    rw [e]
    exact q1 p np
theorem slA_drop {H : Hp} {a : Addr} {xs : List V} {j : Nat} {Q : VK} (hA : SqT K H a xs) (q0 : xs.drop j = xs → Q (.ref a) H) (q1 : ∀ p, H p = none → Q (.ref p) (upd H p (.tup (xs.drop j)))) : rSlA K (.ref a) (some (j : Int)) none H Q := by
  refine ⟨a, xs, rfl, hA, fun hw => ?_, fun _ p np => ?_⟩
  · have h2 := hw.1
    rw [HT.sIx_nat] at h2
    refine q0 ?_
    by_cases h : j = 0
    · rw [h]
      rfl
    · have h0 : xs.length = 0 := by omega
      rw [List.eq_nil_of_length_eq_zero h0, List.drop_nil]
  · have e : cutV xs (some (j : Int)) none = xs.drop j := by
      unfold cutV
      rw [HT.sIx_nat, HT.sIx_none]
      by_cases h : j ≤ xs.length
      · rw [Nat.min_eq_left h, List.take_of_length_le (by rw [List.length_drop]; exact Nat.le_refl _)]
      · rw [Nat.min_eq_right (by omega), List.drop_length, List.drop_eq_nil_of_le (by omega), List.take_nil]
    rw [e]
    exact q1 p np
/-- a slice of a row -/
theorem slA_takeR {H : Hp} {a : Addr} {us : List Str} {j : Nat} {Q : VK} (hA : SqT K H a (us.map V.str)) (q : ∀ H' p, Same H H' → SqT K H' p ((us.take j).map V.str) → Q (.ref p) H') : rSlA K (.ref a) none (some (j : Int)) H Q :=
  slA_take hA (fun e => q H a (fun _ _ h => h) (by rw [List.map_take, e]; exact hA)) fun p np => q _ p (same_new np) (by rw [List.map_take]; exact sqT_new upd_same)
theorem slA_dropR {H : Hp} {a : Addr} {us : List Str} {j : Nat} {Q : VK} (hA : SqT K H a (us.map V.str)) (q : ∀ H' p, Same H H' → SqT K H' p ((us.drop j).map V.str) → Q (.ref p) H') : rSlA K (.ref a) (some (j : Int)) none H Q :=
  slA_drop hA (fun e => q H a (fun _ _ h => h) (by rw [List.map_drop, e]; exact hA)) fun p np => q _ p (same_new np) (by rw [List.map_drop]; exact sqT_new upd_same)
theorem tyT {H : Hp} {p : Addr} {xs : List V} (h : SqT K H p xs) : TyX K H (.ref p) (.type "tuple") := by
  rcases h with (h | ⟨o, h⟩) | h
  · exact .base (.tup h)
  · exact .fTuple h
  · obtain ⟨o, its, n, h1, h2, h3⟩ := h
    exact .kTuple h1 h2
theorem catR {H : Hp} {a b : Addr} {xs ys : List V} {Q : VK} (hx : SqT K H a xs) (hy : SqT K H b ys) (hl : xs.length + ys.length ≤ 100000) (q : ∀ H' p, Same H H' → SqT K H' p (xs ++ ys) → Q (.ref p) H') : rCatA K (.ref a) (.ref b) H Q := by
  refine ⟨a, b, xs, ys, rfl, rfl, hx, hy, smallE (by omega), fun e => ?_, fun _ e => ?_, fun _ _ p np => ?_⟩
  · exact q H b (fun _ _ h => h) (by rw [e]; exact hy)
  · exact q H a (fun _ _ h => h) (by rw [e, List.append_nil]; exact hx)
  · exact q _ p (same_new np) (sqT_new upd_same)
theorem slR_take {H : Hp} {a : Addr} {xs : List V} {j : Nat} {Q : VK} (hA : SqT K H a xs) (q : ∀ H' p, Same H H' → SqT K H' p (xs.take j) → Q (.ref p) H') : rSlA K (.ref a) none (some (j : Int)) H Q :=
  slA_take hA (fun e => q H a (fun _ _ h => h) (by rw [e]; exact hA)) fun p np => q _ p (same_new np) (sqT_new upd_same)
theorem slR_drop {H : Hp} {a : Addr} {xs : List V} {j : Nat} {Q : VK} (hA : SqT K H a xs) (q : ∀ H' p, Same H H' → SqT K H' p (xs.drop j) → Q (.ref p) H') : rSlA K (.ref a) (some (j : Int)) none H Q :=
  slA_drop hA (fun e => q H a (fun _ _ h => h) (by rw [e]; exact hA)) fun p np => q _ p (same_new np) (sqT_new upd_same)
end
end Kb
namespace Kb
open PySem PySem.Spec PyProof.Rows L2
/-! ### the source of draws -/
/-- three whole numbers -/
def Box (H : Hp) (x : Addr) : Prop := ∃ b0 b1 b2 : Int, H x = some (.lst [.int b0, .int b1, .int b2])
/-- all but x stands -/
def But (x : Addr) (H H' : Hp) : Prop := ∀ c u, c ≠ x → H c = some u → H' c = some u
theorem But.refl {x : Addr} {H : Hp} : But x H H := fun _ _ _ e => e
theorem But.trans {x : Addr} {H H' H'' : Hp} (a : But x H H') (b : But x H' H'') : But x H H'' := fun c u h e => b c u h (a c u h e)
theorem But.of {x : Addr} {H H' : Hp} (s : Same H H') : But x H H' := fun c u _ e => s c u e
theorem But.upd {x : Addr} {H : Hp} {o : HO} : But x H (upd H x o) := fun c u h e => by
  rw [upd_ne h]
  exact e
theorem Box.mono {x : Addr} {H H' : Hp} (b : Box H x) (s : Same H H') : Box H' x := let ⟨b0, b1, b2, e⟩ := b; ⟨b0, b1, b2, s _ _ e⟩
theorem mod_nat (i : Int) {n : Nat} (h : 0 < n) : ∃ r : Nat, r < n ∧ i % (n : Int) = (r : Int) := by
  have h1 := Int.emod_nonneg i (show (n : Int) ≠ 0 by omega)
  have h2 := Int.emod_lt_of_pos i (show 0 < (n : Int) by omega)
  exact ⟨(i % (n : Int)).toNat, by omega, by omega⟩
theorem small_mul {k : Int} (h1 : -1000000000000 < k) (h2 : k < 1000000000000) : -(2 ^ 64) < k ∧ k < 2 ^ 64 := by omega
section
variable {P : Program} {w : World} {K : PySem.W.Frag} {mg : Str → Option Value} {base : Heap}
theorem scTake : FnScope ["box", "many", "digit", "raw"] ["box", "many"] (defScope sTake) := ⟨rfl, rfl, rfl, by decide +kernel, rfl, by decide +kernel, by decide +kernel⟩
def spTake : Sp := fun vs H Q _ => ∃ (x : Addr) (n : Nat), vs = [.ref x, .int (n : Nat)] ∧ Box H x ∧ 0 < n ∧ n < 1000000 ∧ ∀ (r : Nat) H', r < n → But x H H' → Box H' x → Q (.int (r : Nat)) H'
theorem ok_take {f : Addr} {fd : FuncData} (F : Fun K "_law_take" "_law_take" sTake f fd) (mi : mg "int" = none) : FnOk P w K mg base CX0 1 f fd ["box", "many"] spTake := by
  refine F.ok scTake (fun vs H Q E h => ?_) (fun cdv A outer s H vs Q E hr h => ?_)
  · obtain ⟨x, n, rfl, _⟩ := h
    rfl
  · obtain ⟨x, n, rfl, ⟨b0, b1, b2, hx⟩, hn, hn2, q⟩ := h
    refine ⟨_, pss_cons (ps_if (pt_cmpR op_gt (pe_ix ix_list (pv 0) pe_int (fun _ _ => rfl)) pe_int (nomark _))
        (pss_cons (ps_set (i := 2) scTake.nd rfl (.inl rfl) (pe_op op_mod (pe_callTy call_int1 (by rfl) mi (by decide +kernel) (pa_cons (pe_ix ix_list (pv 0) pe_int (fun _ _ => rfl)) pa_nil)) (pv 1)))
          (pss_cons (ps_asg (pe_op op_fdivN (pe_ix ix_list (pv 0) pe_int (fun _ _ => rfl)) (pv 1)) (pg_sub (pv 0) pe_int set_list)) (pss_one (ps_ret (pv 2))))) pss_nil)
      (pss_cons (ps_asg (pe_op op_add (pe_ix ix_list (pv 0) pe_int (fun _ _ => rfl)) pe_int) (pg_sub (pv 0) pe_int set_list))
      (pss_cons (ps_set (i := 3) scTake.nd rfl (.inl rfl) (pe_op op_mod (pe_callTy call_int1 (by rfl) mi (by decide +kernel) (pa_cons (pe_op op_add (pe_op op_mul (pe_op op_add (pe_ix ix_list (pv 0) pe_int (fun _ _ => rfl)) (pe_op op_mul pe_int (pe_ix ix_list (pv 0) pe_int (fun _ _ => rfl)))) pe_int) pe_int) pa_nil)) pe_int))
      (pss_cons (ps_asg (pe_op op_add (pe_op op_mod (pe_callTy call_int1 (by rfl) mi (by decide +kernel) (pa_cons (pe_op op_add (pe_op op_mul (pv 3) pe_int) pe_int) pa_nil)) pe_int) pe_int) (pg_sub (pv 0) pe_int set_list))
      (pss_one (ps_ret (pe_op op_mod (pe_callTy call_int1 (by rfl) mi (by decide +kernel) (pa_cons (pe_op op_fdivN (pe_op op_add (pe_op op_mul (pv 3) pe_int) (pe_ix ix_list (pv 0) pe_int (fun _ _ => rfl))) pe_int) pa_nil)) (pv 1))))))), ?_⟩
    refine ⟨.ref x, rfl, x, _, 0, .int b0, rfl, rfl, sqL_new hx, rfl, b0, 0, rfl, rfl, _, rfl, ite2 (fun c => ?_) (fun c => ?_)⟩
    · obtain ⟨r, hr1, hr2⟩ := mod_nat b0 hn
      refine ⟨.ref x, rfl, x, _, 0, .int b0, rfl, rfl, sqL_new hx, rfl, .inl ⟨b0, rfl, .int (n : Nat), rfl, b0, (n : Nat), rfl, rfl, (by omega), ?_⟩⟩
      refine ⟨.ref x, rfl, x, _, 0, .int b0, rfl, rfl, sqL_new hx, rfl, .int (n : Nat), rfl, b0, (n : Nat), rfl, rfl, ⟨by omega, by omega⟩, .ref x, rfl, x, _, 0, 0, rfl, rfl, hx, rfl, ?_⟩
      refine ⟨_, rfl, ?_⟩
      show Q (.int (b0 % (n : Int))) _
      rw [hr2]
      exact q r _ hr1 But.upd ⟨_, _, _, upd_same⟩
    · refine ⟨.ref x, rfl, x, _, 2, .int b2, rfl, rfl, sqL_new hx, rfl, _, _, rfl, rfl, .ref x, rfl, x, _, 2, 2, rfl, rfl, hx, rfl, ?_⟩
      generalize hH1 : upd H x _ = H1
      have hx1 : H1 x = some (.lst [.int b0, .int b1, .int (b2 + 1)]) := by rw [← hH1, upd_same]; rfl
      have k1 : But x H H1 := by rw [← hH1]; exact But.upd
      refine ⟨.ref x, rfl, x, _, 1, .int b1, rfl, rfl, sqL_new hx1, rfl, .ref x, rfl, x, _, 2, .int (b2 + 1), rfl, rfl, sqL_new hx1, rfl, 99991, b2 + 1, rfl, rfl, .inl (by decide), b1, _, rfl, rfl, _, 69621, rfl, rfl, .inr (by decide), _, 59, rfl, rfl, .inl ⟨_, rfl, _, 2147483563, rfl, rfl, (by show (0 : Int) < 2147483563; decide), ?_⟩⟩
      refine ⟨_, rfl, _, 40692, rfl, rfl, .inr (by decide), _, 27017, rfl, rfl, .inl ⟨_, rfl, _, 2147483629, rfl, rfl, (by show (0 : Int) < 2147483629; decide), _, 1, rfl, rfl, .ref x, rfl, x, _, 1, 1, rfl, rfl, hx1, rfl, ?_⟩⟩
      generalize hH2 : upd H1 x _ = H2
      obtain ⟨c1, hx2⟩ : ∃ c1 : Int, H2 x = some (.lst [.int b0, .int c1, .int (b2 + 1)]) := ⟨_, by rw [← hH2, upd_same]; rfl⟩
      have k2 : But x H1 H2 := by rw [← hH2]; exact But.upd
      refine ⟨_, rfl, _, 2147483647, rfl, rfl, .inr (by decide), .ref x, rfl, x, _, 1, .int c1, rfl, rfl, sqL_new hx2, rfl, _, c1, rfl, rfl, _, 8191, rfl, rfl, ⟨by decide, by decide⟩, .inl ⟨_, rfl, .int (n : Nat), rfl, _, (n : Nat), rfl, rfl, (by omega), ?_⟩⟩
      obtain ⟨r, hr1, hr2⟩ := mod_nat _ hn
      refine (congrArg (fun z => Q (V.int z) H2) hr2).mpr ?_
      exact q r _ hr1 (k1.trans k2) ⟨_, _, _, hx2⟩
end
end Kb
/-! The mathematics of makings (own text; no part of the kit). -/
namespace Kf
variable {α : Type} [DecidableEq α]
/-- how many deeds the longest beginning of a row has that lies within another one -/
def beg : List α → List α → Nat
  | [], _ => 0
  | _ :: _, [] => 0
  | d :: u, e :: z => if d = e then beg u z + 1 else beg (d :: u) z
/-- whether striking leaves u -/
def lies (u v : List α) : Bool := decide (beg u v = u.length)
theorem beg_le : ∀ u v : List α, beg u v ≤ u.length
  | [], _ => by rw [beg]; exact Nat.zero_le _
  | _ :: _, [] => by rw [beg]; exact Nat.zero_le _
  | d :: u, e :: z => by
    rw [beg]
    split
    · have := beg_le u z
      rw [List.length_cons]
      omega
    · exact beg_le (d :: u) z
theorem lies_iff : ∀ {u v : List α}, lies u v = true ↔ u.Sublist v := by
  intro u v
  unfold lies
  rw [decide_eq_true_iff]
  induction v generalizing u with
  | nil =>
    cases u with
    | nil => simp [beg]
    | cons d u => simp [beg]
  | cons e z ih =>
    cases u with
    | nil => simp [beg]
    | cons d u =>
      rw [beg]
      by_cases h : d = e
      · subst h
        rw [if_pos rfl, List.length_cons, List.cons_sublist_cons, ← ih]
        omega
      · rw [if_neg h]
        rw [ih]
        constructor
        · exact fun q => q.cons e
        · intro q
          cases q with
          | cons _ q => exact q
          | cons_cons _ q => exact absurd rfl h
theorem lies_eq {u v : List α} {b : Bool} (h : b = true ↔ u.Sublist v) : lies u v = b := by
  cases hb : b with
  | true => exact lies_iff.mpr (h.mp hb)
  | false =>
    cases hl : lies u v with
    | false => rfl
    | true => rw [h.mpr (lies_iff.mp hl)] at hb; cases hb
theorem lies_rev {u v : List α} : lies u.reverse v.reverse = lies u v := by
  symm
  apply lies_eq
  rw [lies_iff, List.reverse_sublist]
/-- the loop of begun -/
theorem beg_step {row : List α} {m : Nat} {e : α} {z : List α} : beg (row.drop m) (e :: z) = if row[m]? = some e then beg (row.drop (m + 1)) z + 1 else beg (row.drop m) z := by
  by_cases h : m < row.length
  · rw [List.drop_eq_getElem_cons h, List.getElem?_eq_getElem h, beg]
    by_cases q : row[m] = e
    · rw [if_pos q, if_pos (by rw [q])]
    · rw [if_neg q, if_neg (fun z => q (Option.some.inj z))]
  · have h2 : row.drop m = [] := List.drop_eq_nil_of_le (by omega)
    rw [List.getElem?_eq_none (by omega), if_neg (fun z => nomatch z), h2, beg, beg]
theorem beg_nil (u : List α) : beg u [] = 0 := by cases u <;> rw [beg]
theorem beg_append : ∀ (u v w : List α), beg u (v ++ w) = beg u v + beg (u.drop (beg u v)) w
  | [], v, w => by rw [beg, beg, List.drop_nil, beg]
  | d :: u, [], w => by rw [List.nil_append, beg_nil, List.drop_zero, Nat.zero_add]
  | d :: u, e :: v, w => by
    rw [List.cons_append, beg, beg]
    by_cases h : d = e
    · rw [if_pos h, if_pos h, beg_append u v w, List.drop_succ_cons]
      omega
    · rw [if_neg h, if_neg h]
      exact beg_append (d :: u) v w
theorem lies_append (u v w : List α) : lies u (v ++ w) = lies (u.drop (beg u v)) w := by
  unfold lies
  rw [beg_append, List.length_drop]
  have := beg_le u v
  by_cases h : beg (u.drop (beg u v)) w = u.length - beg u v
  · rw [decide_eq_true h, decide_eq_true (by omega)]
  · rw [decide_eq_false h, decide_eq_false (by omega)]
theorem beg_pos {x : α} {u v : List α} (h : x ∈ v) : 0 < beg (x :: u) v := by
  induction v with
  | nil => cases h
  | cons e z ih =>
    rw [beg]
    by_cases q : x = e
    · rw [if_pos q]
      omega
    · rw [if_neg q]
      exact ih ((List.mem_cons.mp h).resolve_left q)
/-! ### makings -/
def look (m : List (α × List α)) (d : α) : List α := ((m.find? fun p => decide (p.1 = d)).map (·.2)).getD []
def mad (m : List (α × List α)) (row : List α) : List α := row.flatMap (look m)
theorem mad_cons (m : List (α × List α)) (d : α) (r : List α) : mad m (d :: r) = look m d ++ mad m r := List.flatMap_cons
theorem mad_snoc (m : List (α × List α)) (d : α) (r : List α) : mad m (r ++ [d]) = mad m r ++ look m d := by
  unfold mad
  rw [List.flatMap_append]
  simp
theorem look_mem {m : List (α × List α)} {d : α} {r : List α} (nd : (m.map (·.1)).Nodup) (h : (d, r) ∈ m) : look m d = r := by
  unfold look
  induction m with
  | nil => cases h
  | cons p m ih =>
    rw [List.map_cons, List.nodup_cons] at nd
    rw [List.find?_cons]
    rcases List.mem_cons.mp h with e | e
    · subst e
      simp
    · have : p.1 ≠ d := fun z => nd.1 (z ▸ List.mem_map.mpr ⟨_, e, rfl⟩)
      rw [decide_eq_false this]
      exact ih nd.2 e
theorem mad_mono {m : List (α × List α)} {u v : List α} (h : u.Sublist v) : (mad m u).Sublist (mad m v) := by
  induction h with
  | slnil => exact List.Sublist.refl _
  | cons a _ ih =>
    rw [mad_cons]
    exact ih.trans (List.sublist_append_right _ _)
  | cons_cons a _ ih =>
    rw [mad_cons, mad_cons]
    exact List.append_sublist_append_left _ |>.mpr ih
/-- an own deed -/
def Own (m : List (α × List α)) (d x : α) : Prop := x ∈ look m d ∧ ∀ e ∈ m.map (·.1), e ≠ d → x ∉ look m e
/-- exact -/
def Exact (m : List (α × List α)) : Prop := ∀ d ∈ m.map (·.1), ∃ x, Own m d x
theorem exact_back {m : List (α × List α)} (hx : Exact m) : ∀ {v u : List α}, (∀ d ∈ u, d ∈ m.map (·.1)) → (∀ d ∈ v, d ∈ m.map (·.1)) → (mad m u).Sublist (mad m v) → u.Sublist v := by
  classical
  obtain ⟨o, ho⟩ : ∃ o : α → α, ∀ d ∈ m.map (·.1), Own m d (o d) := by
    refine ⟨fun d => if h : ∃ x, Own m d x then Classical.choose h else d, fun d hd => ?_⟩
    have := hx d hd
    simp only [dif_pos this]
    exact Classical.choose_spec this
  let p : α → Bool := fun x => (m.map (·.1)).any fun d => decide (o d = x)
  have hp : ∀ d ∈ m.map (·.1), (∀ x ∈ (look m d).filter p, x = o d) ∧ o d ∈ (look m d).filter p := by
    intro d hd
    constructor
    · intro x hx
      rw [List.mem_filter] at hx
      obtain ⟨e, he, ee⟩ := List.any_eq_true.mp hx.2
      have ee := of_decide_eq_true ee
      by_cases q : d = e
      · rw [q]; exact ee.symm
      · exact absurd hx.1 (ee ▸ (ho e he).2 d hd q)
    · rw [List.mem_filter]
      exact ⟨(ho d hd).1, List.any_eq_true.mpr ⟨d, hd, decide_eq_true rfl⟩⟩
  have key : ∀ {v u : List α}, (∀ d ∈ u, d ∈ m.map (·.1)) → (∀ d ∈ v, d ∈ m.map (·.1)) → ((mad m u).filter p).Sublist ((mad m v).filter p) → u.Sublist v := by
    intro v
    induction v with
    | nil =>
      intro u hu _ h
      cases u with
      | nil => exact List.Sublist.refl _
      | cons d u =>
        rw [mad_cons, List.filter_append] at h
        have := h.subset (List.mem_append_left _ (hp d (hu d List.mem_cons_self)).2)
        cases this
    | cons e z ih =>
      intro u hu hv h
      cases u with
      | nil => exact List.nil_sublist _
      | cons d u =>
        have hd := hu d List.mem_cons_self
        have he := hv e List.mem_cons_self
        have hu' : ∀ d ∈ u, d ∈ m.map (·.1) := fun x hx => hu x (List.mem_cons_of_mem _ hx)
        have hv' : ∀ d ∈ z, d ∈ m.map (·.1) := fun x hx => hv x (List.mem_cons_of_mem _ hx)
        rw [mad_cons m e, List.filter_append] at h
        by_cases q : d = e
        · subst q
          rw [mad_cons m d, List.filter_append, List.append_sublist_append_left] at h
          exact (ih hu' hv' h).cons_cons d
        · refine (ih hu hv' ?_).cons e
          obtain ⟨l1, l2, e1, s1, s2⟩ := List.sublist_append_iff.mp h
          cases l1 with
          | nil =>
            rw [List.nil_append] at e1
            rw [e1]
            exact s2
          | cons x l1 =>
            exfalso
            have h1 := (hp e he).1 x (s1.subset List.mem_cons_self)
            have hd2 := hp d hd
            rw [mad_cons, List.filter_append] at e1
            cases hA : (look m d).filter p with
            | nil => rw [hA] at hd2; exact absurd hd2.2 (by simp)
            | cons a A =>
              rw [hA, List.cons_append, List.cons_append] at e1
              have ea : a = x := (List.cons.inj e1).1
              have h2 := hd2.1 a (by rw [hA]; exact List.mem_cons_self)
              have h3 : o d = o e := by rw [← h2, ea, h1]
              exact (ho e he).2 d hd q (h3 ▸ (ho d hd).1)
  exact fun {v u} hu hv h => key hu hv (h.filter p)
/-! ### covers -/
/-- rows of n names, in order -/
def lex (ns : List α) : Nat → List (List α)
  | 0 => [[]]
  | n + 1 => ns.flatMap fun d => (lex ns n).map (d :: ·)
theorem flat_one : ∀ ns : List α, (ns.flatMap fun d => [[d]]) = ns.map fun d => [d]
  | [] => rfl
  | d :: ns => by
    rw [List.flatMap_cons, flat_one ns]
    rfl
theorem lex_snoc (ns : List α) : ∀ n, lex ns (n + 1) = (lex ns n).flatMap fun one => ns.map fun d => one ++ [d]
  | 0 => by
    show (ns.flatMap fun d => [[d]]) = [[]].flatMap fun one => ns.map fun d => one ++ [d]
    rw [flat_one, List.flatMap_cons, List.flatMap_nil, List.append_nil]
    rfl
  | n + 1 => by
    have ih := lex_snoc ns n
    rw [lex]
    conv => lhs; rw [ih]
    rw [lex, List.flatMap_assoc]
    congr 1
    funext d
    rw [List.map_flatMap, List.flatMap_map]
    congr 1
    funext one
    rw [List.map_map]
    rfl
theorem lex_len {ns : List α} : ∀ {n : Nat} {r : List α}, r ∈ lex ns n → r.length = n ∧ ∀ d ∈ r, d ∈ ns
  | 0, r, h => by
    have : r = [] := by simpa [lex] using h
    subst this
    exact ⟨rfl, fun d h => nomatch h⟩
  | n + 1, r, h => by
    rw [lex, List.mem_flatMap] at h
    obtain ⟨d, hd, h⟩ := h
    obtain ⟨q, hq, rfl⟩ := List.mem_map.mp h
    have := lex_len hq
    refine ⟨by rw [List.length_cons, this.1], fun x hx => ?_⟩
    rcases List.mem_cons.mp hx with e | e
    · rw [e]; exact hd
    · exact this.2 x e
theorem lex_many (ns : List α) : ∀ n, (lex ns n).length = ns.length ^ n
  | 0 => rfl
  | n + 1 => by
    rw [lex, List.length_flatMap]
    simp only [List.length_map, lex_many ns n]
    rw [List.map_const', List.sum_replicate_nat, Nat.pow_succ, Nat.mul_comm]
section
variable (m : List (α × List α)) (ns : List α)
def rest (row : List α) (d : α) : List α := row.drop (beg row (look m d))
def cov : Nat → List α → Bool
  | 0, row => decide (row = [])
  | n + 1, row => ns.any fun d => cov n (rest m row d)
def gre : Nat → List α → List α
  | 0, _ => []
  | n + 1, row => match ns.find? fun d => cov m ns n (rest m row d) with
    | some d => d :: gre n (rest m row d)
    | none => []
def holds (row one : List α) : Bool := lies row (mad m one)
theorem holds_cons (row : List α) (d : α) (one : List α) : holds m row (d :: one) = holds m (rest m row d) one := by
  unfold holds rest
  rw [mad_cons, lies_append]
theorem holds_nil (row : List α) : holds m row [] = decide (row = []) := by
  unfold holds mad lies
  rw [List.flatMap_nil, beg_nil]
  cases row <;> simp
theorem cov_iff : ∀ (n : Nat) (row : List α), cov m ns n row = (lex ns n).any (holds m row)
  | 0, row => by
    rw [cov, lex, List.any_cons, List.any_nil, Bool.or_false, holds_nil]
  | n + 1, row => by
    rw [cov, lex, List.any_flatMap]
    congr 1
    funext d
    rw [cov_iff n, List.any_map]
    congr 1
    funext one
    exact (holds_cons m row d one).symm
theorem find_flat {β γ : Type} {f : β → List γ} {p : γ → Bool} : ∀ {l : List β} {c : γ} {b : β}, l.find? (fun x => (f x).any p) = some b → (f b).find? p = some c → (l.flatMap f).find? p = some c
  | [], _, _, h, _ => by simp at h
  | x :: l, c, b, h, hc => by
    rw [List.find?_cons] at h
    rw [List.flatMap_cons, List.find?_append]
    cases hx : (f x).any p with
    | true =>
      rw [hx] at h
      cases h
      rw [hc]
      rfl
    | false =>
      rw [hx] at h
      have : (f x).find? p = none := by
        rw [List.find?_eq_none]
        intro y hy hp
        rw [List.any_eq_false] at hx
        exact hx y hy hp
      rw [this, Option.none_or]
      exact find_flat h hc
theorem gre_first : ∀ (n : Nat) (row : List α), cov m ns n row = true → (lex ns n).find? (holds m row) = some (gre m ns n row)
  | 0, row, h => by
    rw [cov] at h
    rw [lex, List.find?_cons, holds_nil, h, gre]
  | n + 1, row, h => by
    rw [cov, List.any_eq_true] at h
    rw [gre]
    cases e : ns.find? fun d => cov m ns n (rest m row d) with
    | none =>
      obtain ⟨d, hd, hc⟩ := h
      exact absurd hc (List.find?_eq_none.mp e d hd)
    | some d =>
      have hc := List.find?_some e
      rw [lex]
      refine find_flat (b := d) ?_ ?_
      · rw [← e]
        congr 1
        funext x
        rw [cov_iff, List.any_map]
        congr 1
        funext one
        exact holds_cons m row x one
      · rw [List.find?_map]
        have := gre_first n (rest m row d) hc
        have e2 : (holds m row ∘ fun x => d :: x) = holds m (rest m row d) := by
          funext one
          exact holds_cons m row d one
        rw [e2, this]
        rfl
/-- n is the least number that covers -/
def Least (n : Nat) (row : List α) : Prop := cov m ns n row = true ∧ ∀ k, k < n → cov m ns k row = false
theorem least_zero : Least m ns 0 [] := ⟨by rw [cov]; rfl, fun k h => absurd h (Nat.not_lt_zero k)⟩
theorem least_uniq {a b : Nat} {row : List α} (ha : Least m ns a row) (hb : Least m ns b row) : a = b := by
  rcases Nat.lt_trichotomy a b with h | h | h
  · have := hb.2 a h
    rw [ha.1] at this
    cases this
  · exact h
  · have := ha.2 b h
    rw [hb.1] at this
    cases this
/-- the last k deeds -/
def suf (row : List α) (k : Nat) : List α := row.drop (row.length - k)
theorem suf_len {row : List α} {k : Nat} (h : k ≤ row.length) : (suf row k).length = k := by
  unfold suf
  rw [List.length_drop]
  omega
theorem suf_zero (row : List α) : suf row 0 = [] := by
  unfold suf
  rw [Nat.sub_zero, List.drop_length]
theorem suf_all (row : List α) : suf row row.length = row := by
  unfold suf
  rw [Nat.sub_self, List.drop_zero]
theorem suf_drop {row : List α} {k b : Nat} (h : k ≤ row.length) (hb : b ≤ k) : (suf row k).drop b = suf row (k - b) := by
  unfold suf
  rw [List.drop_drop]
  congr 1
  omega
theorem rest_suf {row : List α} {k : Nat} (h : k ≤ row.length) (d : α) : rest m (suf row k) d = suf row (k - beg (suf row k) (look m d)) := by
  unfold rest
  refine suf_drop h ?_
  have := beg_le (suf row k) (look m d)
  rwa [suf_len h] at this
/-- one more: the least of those that cover the rest, and one -/
theorem least_step {row : List α} {k : Nat} (hk : k + 1 ≤ row.length) {few : Nat → Nat} (hf : ∀ j, j ≤ k → Least m ns (few j) (suf row j)) {x : Nat}
    (hin : ∃ d ∈ ns, 0 < beg (suf row (k + 1)) (look m d) ∧ x = few (k + 1 - beg (suf row (k + 1)) (look m d)))
    (hle : ∀ d ∈ ns, 0 < beg (suf row (k + 1)) (look m d) → x ≤ few (k + 1 - beg (suf row (k + 1)) (look m d))) : Least m ns (1 + x) (suf row (k + 1)) := by
  constructor
  · obtain ⟨d, hd, hb, rfl⟩ := hin
    rw [Nat.add_comm, cov, List.any_eq_true]
    refine ⟨d, hd, ?_⟩
    rw [rest_suf m hk]
    exact (hf _ (by omega)).1
  · intro j
    induction j with
    | zero =>
      intro _
      rw [cov]
      refine decide_eq_false fun e => ?_
      have := suf_len hk
      rw [e] at this
      cases this
    | succ j ih =>
      intro hj
      rw [cov]
      refine Bool.eq_false_iff.mpr fun h => ?_
      obtain ⟨d, hd, hc⟩ := List.any_eq_true.mp h
      by_cases hb : 0 < beg (suf row (k + 1)) (look m d)
      · have h1 := hle d hd hb
        have h2 := (hf (k + 1 - beg (suf row (k + 1)) (look m d)) (by omega)).2 j (by omega)
        rw [rest_suf m hk, h2] at hc
        cases hc
      · have e : rest m (suf row (k + 1)) d = suf row (k + 1) := by
          unfold rest
          rw [show beg (suf row (k + 1)) (look m d) = 0 by omega, List.drop_zero]
        rw [e, ih (by omega)] at hc
        cases hc
/-- what the greedy step chooses -/
theorem gre_step {row : List α} {k : Nat} (hk : k + 1 ≤ row.length) {few : Nat → Nat} (hf : ∀ j, j ≤ k + 1 → Least m ns (few j) (suf row j)) :
    ∃ d b, (ns.filter fun d => decide (few (k + 1 - beg (suf row (k + 1)) (look m d)) + 1 = few (k + 1)))[0]? = some d ∧ d ∈ ns ∧ b = beg (suf row (k + 1)) (look m d) ∧ 0 < b ∧ b ≤ k + 1 ∧ gre m ns (few (k + 1)) (suf row (k + 1)) = d :: gre m ns (few (k + 1 - b)) (suf row (k + 1 - b)) := by
  have hL := hf (k + 1) (Nat.le_refl _)
  have hbk : ∀ d, beg (suf row (k + 1)) (look m d) ≤ k + 1 := fun d => by
    have := beg_le (suf row (k + 1)) (look m d)
    rwa [suf_len hk] at this
  cases hn : few (k + 1) with
  | zero =>
    rw [hn] at hL
    have := hL.1
    rw [cov, decide_eq_true_iff] at this
    have h2 := suf_len hk
    rw [this] at h2
    cases h2
  | succ n =>
    rw [hn] at hL
    have same : ∀ d ∈ ns, decide (few (k + 1 - beg (suf row (k + 1)) (look m d)) + 1 = n + 1) = cov m ns n (rest m (suf row (k + 1)) d) := by
      intro d hd
      rw [rest_suf m hk]
      have hj := hf (k + 1 - beg (suf row (k + 1)) (look m d)) (by omega)
      generalize hjj : k + 1 - beg (suf row (k + 1)) (look m d) = j at hj ⊢
      cases hc : cov m ns n (suf row j) with
      | true =>
        refine decide_eq_true ?_
        have h1 : few j ≤ n := by
          apply Decidable.byContradiction
          intro z
          have := hj.2 n (by omega)
          rw [hc] at this
          cases this
        have h2 : cov m ns (few j + 1) (suf row (k + 1)) = true := by
          rw [cov, List.any_eq_true]
          refine ⟨d, hd, ?_⟩
          rw [rest_suf m hk, hjj]
          exact hj.1
        have h3 : n + 1 ≤ few j + 1 := by
          apply Decidable.byContradiction
          intro z
          have := hL.2 (few j + 1) (by omega)
          rw [h2] at this
          cases this
        omega
      | false =>
        refine decide_eq_false fun e => ?_
        have : few j = n := by omega
        rw [← this, hj.1] at hc
        cases hc
    have hc := hL.1
    rw [cov, List.any_eq_true] at hc
    obtain ⟨d0, hd0, hc0⟩ := hc
    cases e : ns.find? fun d => cov m ns n (rest m (suf row (k + 1)) d) with
    | none => exact absurd hc0 (List.find?_eq_none.mp e d0 hd0)
    | some d =>
      have hd : d ∈ ns := List.mem_of_find?_eq_some e
      have hcd := List.find?_some e
      have hw : few (k + 1 - beg (suf row (k + 1)) (look m d)) = n := by
        have := same d hd
        rw [hcd] at this
        have := of_decide_eq_true this
        omega
      refine ⟨d, _, ?_, hd, rfl, ?_, hbk d, ?_⟩
      · have : (ns.filter fun d => decide (few (k + 1 - beg (suf row (k + 1)) (look m d)) + 1 = n + 1)) = ns.filter fun d => cov m ns n (rest m (suf row (k + 1)) d) := List.filter_congr fun x hx => same x hx
        rw [this, ← List.head?_eq_getElem?, List.head?_filter]
        exact e
      · apply Decidable.byContradiction
        intro z
        rw [show beg (suf row (k + 1)) (look m d) = 0 by omega, Nat.sub_zero] at hw
        omega
      · rw [gre, e, hw, ← rest_suf m hk]
theorem gre_len : ∀ (n : Nat) (row : List α), cov m ns n row = true → (gre m ns n row).length = n ∧ (∀ d ∈ gre m ns n row, d ∈ ns) ∧ holds m row (gre m ns n row) = true := fun n row h => by
  have e := gre_first m ns n row h
  have h1 := lex_len (List.mem_of_find?_eq_some e)
  exact ⟨h1.1, h1.2, List.find?_some e⟩
/-- whatever is nearest is not longer than the row -/
theorem least_le {row : List α} {few : Nat → Nat} (hs : ∀ x ∈ row, ∃ d ∈ ns, x ∈ look m d) : ∀ k, k ≤ row.length → (∀ j, j ≤ k → Least m ns (few j) (suf row j)) → few k ≤ k := by
  intro k
  induction k using Nat.strongRecOn with
  | _ k ih =>
    intro hk hf
    cases k with
    | zero =>
      have := hf 0 (Nat.le_refl _)
      rw [suf_zero] at this
      exact Nat.le_of_eq (least_uniq m ns this (least_zero m ns))
    | succ k =>
      obtain ⟨d, b, _, hd, hb, hb0, hbk, _⟩ := gre_step m ns hk hf
      have h1 := ih (k + 1 - b) (by omega) (by omega) fun j hj => hf j (by omega)
      have h2 : cov m ns (few (k + 1 - b) + 1) (suf row (k + 1)) = true := by
        rw [cov, List.any_eq_true]
        refine ⟨d, hd, ?_⟩
        rw [rest_suf m hk, ← hb]
        exact (hf (k + 1 - b) (by omega)).1
      have h3 : few (k + 1) ≤ few (k + 1 - b) + 1 := by
        apply Decidable.byContradiction
        intro z
        have := (hf (k + 1) (Nat.le_refl _)).2 (few (k + 1 - b) + 1) (by omega)
        rw [h2] at this
        cases this
      omega
end
end Kf
namespace Kf
variable {α : Type} [DecidableEq α]
theorem cov_congr {m m' : List (α × List α)} {ns : List α} (h : ∀ d ∈ ns, look m d = look m' d) : ∀ (n : Nat) (row : List α), cov m ns n row = cov m' ns n row
  | 0, _ => by rw [cov, cov]
  | n + 1, row => by
    rw [cov, cov]
    rw [Bool.eq_iff_iff, List.any_eq_true, List.any_eq_true]
    constructor
    · rintro ⟨d, hd, q⟩
      refine ⟨d, hd, ?_⟩
      rw [← cov_congr h n]
      unfold rest at q ⊢
      rw [← h d hd]
      exact q
    · rintro ⟨d, hd, q⟩
      refine ⟨d, hd, ?_⟩
      rw [cov_congr h n]
      unfold rest at q ⊢
      rw [h d hd]
      exact q
theorem find_congr {β : Type} {p q : β → Bool} : ∀ {l : List β}, (∀ x ∈ l, p x = q x) → l.find? p = l.find? q
  | [], _ => rfl
  | x :: l, h => by
    rw [List.find?_cons, List.find?_cons, h x List.mem_cons_self, find_congr fun y hy => h y (List.mem_cons_of_mem _ hy)]
theorem gre_congr {m m' : List (α × List α)} {ns : List α} (h : ∀ d ∈ ns, look m d = look m' d) : ∀ (n : Nat) (row : List α), gre m ns n row = gre m' ns n row
  | 0, _ => by rw [gre, gre]
  | n + 1, row => by
    rw [gre, gre]
    have e : ns.find? (fun d => cov m ns n (rest m row d)) = ns.find? fun d => cov m' ns n (rest m' row d) := find_congr fun d hd => by
      rw [cov_congr h n]
      unfold rest
      rw [h d hd]
    rw [e]
    cases hf : ns.find? fun d => cov m' ns n (rest m' row d) with
    | none => rfl
    | some d =>
      have hd : d ∈ ns := List.mem_of_find?_eq_some hf
      show d :: gre m ns n (rest m row d) = d :: gre m' ns n (rest m' row d)
      rw [gre_congr h n]
      unfold rest
      rw [h d hd]
theorem least_congr {m m' : List (α × List α)} {ns : List α} (h : ∀ d ∈ ns, look m d = look m' d) {n : Nat} {row : List α} (q : Least m ns n row) : Least m' ns n row :=
  ⟨by rw [← cov_congr h]; exact q.1, fun k hk => by rw [← cov_congr h]; exact q.2 k hk⟩
end Kf
/-! l.extend(t), t a tuple. -/
namespace Ka
open PySem PySem.Spec PyProof.Rows L2
theorem extend_tup (l b : Addr) (xs zs : Array Value) (n k : Nat) (dc : Option Addr) (sl : Array (Option Value)) (h0 : ¬(!xs.isEmpty && Builtin.List.listTooLong (xs.size + zs.size)) = true) (h1 : xs.size ≤ sizeLine) (h2 : xs.size + zs.size ≤ sizeLine + 1) :
    Meets (Builtin.«list.extend» ⟨[.ref l, .ref b], []⟩) (fun _ R s => s.heap.get? l = some { cls := .type "list", dict := none, data := .seq xs n, slots := #[] } ∧ s.heap.get? b = some { cls := .type "tuple", dict := dc, data := .seq zs k, slots := sl } ∧
      R (.ok (.ret Value.none)) { s with heap := s.heap.update l (Obj.mapSeq fun x => x ++ zs), toks := s.toks }) :=
  .of_wp fun prog w A R s h => by
    obtain ⟨hp, g, d, tk, os⟩ := s
    obtain ⟨hl, hb, h⟩ := h
    have f1 := PySem.F.sub_tuple_tuple
    have f2 := PySem.F.sub_list_list
    have f3 := PySem.F.sub_tuple_list
    have f4 := PySem.F.sub_list_tuple
    have hz : (xs ++ zs).size ≤ sizeLine + 1 := by
      rw [Array.size_append]
      exact h2
    wp_walk using (wpAny_updateSeq hl rfl (hz := h1) (_hz' := hz)), wpAny_loadPart' hl, wpAny_loadPart' hb
    exact ⟨_, rfl, h⟩
def rExtT (K : PySem.W.Frag) : V → List V → Hp → VK → Prop := fun x vs H Q => ∃ l b xs zs, x = .ref l ∧ vs = [.ref b] ∧ H l = some (.lst xs) ∧ SqT K H b zs ∧ xs.length + zs.length ≤ sizeLine ∧ Q .non (upd H l (.lst (xs ++ zs)))
theorem mt_extT {X : Cx} : MtM X "list.extend" (rExtT X.K) := by
  intro pins s σ H x vs v us Q I rx rv ⟨l, b, xs, zs, ex, evs, hH, hB, hz, q⟩
  subst ex evs
  cases rx
  obtain ⟨u, rfl, ru⟩ := rv.one
  cases ru
  obtain ⟨z, its, n, r, hl, e⟩ := I.lstM hH
  obtain ⟨jts, r2, ⟨⟨cls, dc, data, sl⟩, eb, hc, k, hd⟩, _⟩ := I.tuple hB
  simp only at hc hd
  subst hc hd
  have hl2 := r2.length
  have room : its.toArray.size + jts.toArray.size ≤ sizeLine := by rw [List.size_toArray, List.size_toArray]; omega
  have short : ¬(!its.toArray.isEmpty && Builtin.List.listTooLong (its.toArray.size + jts.toArray.size)) = true := by
    rw [notLongL room, Bool.and_false]
    exact Bool.false_ne_true
  refine call_meets F.slot_list_extend ⟨_, e, rfl⟩ F.entry_list_extend (F.args_list_extend_2 _ _) (extend_tup l b its.toArray jts.toArray n k dc sl short (by rw [List.size_toArray]; omega) (by omega)) ⟨e, eb, ?_⟩
  refine ⟨.non, _, I.lset (its' := its ++ jts) hH e (by simp) (r.append r2) ?_, rfl, q⟩
  rw [List.length_append]
  omega
end Ka
namespace Kb
open PySem PySem.Spec PyProof.Rows L2
/-! ### makings in the heap -/
abbrev MK := List (Str × Addr × List Str)
/-- names and rows alone -/
def pm (M : MK) : List (Str × List Str) := M.map fun t => (t.1, t.2.2)
theorem pm_names (M : MK) : (pm M).map (·.1) = M.map (·.1) := by
  unfold pm
  rw [List.map_map]
  rfl
def kvM (M : MK) : List (L2.Key × V) := M.map fun t => (Sum.inr t.1, V.ref t.2.1)
theorem kvM_len (M : MK) : (kvM M).length = M.length := List.length_map _
theorem kvM_keys (M : MK) : (kvM M).map (·.1) = (M.map (·.1)).map Sum.inr := by
  unfold kvM
  rw [List.map_map, List.map_map]
  rfl
/-- the rows stand -/
def Stand (H : Hp) (M : MK) : Prop := ∀ t ∈ M, H t.2.1 = some (.tup (t.2.2.map V.str))
theorem Stand.mono {H H' : Hp} {M : MK} (h : Stand H M) (s : Same H H') : Stand H' M := fun t ht => s _ _ (h t ht)
structure Fit (M : MK) : Prop where
  few : M.length ≤ 4
  nd : (M.map (·.1)).Nodup
  rows : ∀ t ∈ M, t.2.2.length ≤ 5
theorem valV_M : ∀ {M : MK}, (M.map (·.1)).Nodup → ∀ {t : Str × Addr × List Str}, t ∈ M → valV (kvM M) (Sum.inr t.1) = some (.ref t.2.1)
  | [], _, _, h => nomatch h
  | t0 :: M, nd, t, h => by
    rw [List.map_cons, List.nodup_cons] at nd
    show ((((Sum.inr t0.1 : L2.Key), V.ref t0.2.1) :: kvM M).find? fun kv => decide (kv.1 = (Sum.inr t.1 : L2.Key))).map (·.2) = _
    rw [List.find?_cons]
    rcases List.mem_cons.mp h with e | e
    · subst e
      rw [decide_eq_true rfl]
      rfl
    · have : (Sum.inr t0.1 : L2.Key) ≠ Sum.inr t.1 := fun z => nd.1 (Sum.inr.inj z ▸ List.mem_map.mpr ⟨_, e, rfl⟩)
      rw [decide_eq_false this]
      exact valV_M nd.2 e
theorem look_M {M : MK} (nd : (M.map (·.1)).Nodup) {t : Str × Addr × List Str} (h : t ∈ M) : Kf.look (pm M) t.1 = t.2.2 :=
  Kf.look_mem (by rw [pm_names]; exact nd) (List.mem_map.mpr ⟨t, h, rfl⟩)
theorem name_M {M : MK} {d : Str} (h : d ∈ M.map (·.1)) : ∃ t ∈ M, t.1 = d := by
  obtain ⟨t, ht, e⟩ := List.mem_map.mp h
  exact ⟨t, ht, e⟩
theorem Rd.mono {H H' : Hp} {a : Addr} {u : HO} (h : Rd H a u) (s : Same H H') : Rd H' a u := h.elim (fun e => .inl (s _ _ e)) fun ⟨o, e⟩ => .inr ⟨o, s _ _ e⟩
/-- d[k], a making -/
theorem get_M {H : Hp} {d : Addr} {M : MK} (h : Rd H d (.dK (kvM M))) (nd : (M.map (·.1)).Nodup) {t : Str × Addr × List Str} (ht : t ∈ M) : DGet H d (.str t.1) (some (.ref t.2.1)) :=
  .inl ⟨_, Sum.inr t.1, h, rfl, (valV_M nd ht).symm⟩
theorem mad_len {M : MK} (F : Fit M) : ∀ {zs : List Str}, (∀ z ∈ zs, z ∈ M.map (·.1)) → (Kf.mad (pm M) zs).length ≤ 5 * zs.length
  | [], _ => Nat.zero_le _
  | z :: zs, h => by
    obtain ⟨t, ht, rfl⟩ := name_M (h z List.mem_cons_self)
    rw [Kf.mad_cons, look_M F.nd ht, List.length_append, List.length_cons]
    have := F.rows t ht
    have := mad_len F (zs := zs) fun x hx => h x (List.mem_cons_of_mem _ hx)
    omega
/-- a lock for the time of a walk -/
theorem lockBut {H : Hp} {d : Addr} {o : HO} : But d H (upd H d o) := But.upd
theorem unlock {H H' : Hp} {d : Addr} {u : HO} (h : H d = some u) (k : But d H H') : Same H (upd H' d u) := fun c o e => by
  by_cases q : c = d
  · rw [q, upd_same, ← h, ← q]
    exact e
  · rw [upd_ne q]
    exact k c o q e
theorem sub_lies (us zs : List Str) : sub us zs = Kf.lies us zs := by
  symm
  apply Kf.lies_eq
  induction zs generalizing us with
  | nil => cases us <;> simp [sub]
  | cons e z ih =>
    cases us with
    | nil => simp [sub]
    | cons d u =>
      rw [sub]
      by_cases h : d = e
      · subst h
        rw [if_pos rfl, ih, List.cons_sublist_cons]
      · rw [if_neg h, ih]
        constructor
        · exact fun q => q.cons e
        · intro q
          cases q with
          | cons _ q => exact q
          | cons_cons _ q => exact absurd rfl h
end Kb
/-! {k: v for t0 in i0 if .. for t1 in i1 if ..}, whatever the keys are. -/
namespace Ka
open PySem PySem.Spec PyProof.Rows L2
section
variable {P : Program} {w : World} {A : Around} {R : Result → Shared → Prop} {s : Shared} {kx vx t0 i0 t1 i1 : Expr} {f0 f1 : List Expr} {sc : Scope} {ps : Pos} {it : Value} {D : Addr} {ev : Env}
/-- the expression -/
abbrev dcE (kx vx t0 i0 : Expr) (f0 : List Expr) (t1 i1 : Expr) (f1 : List Expr) (sc : Scope) (ps : Pos) : Expr :=
  .DictComp kx vx [⟨t0, i0, f0, 0⟩, ⟨t1, i1, f1, 0⟩] sc ps
/-- whether a clause's tests hold -/
abbrev testsOf (fs : List Expr) (ev : Env) : Sem Bool :=
  forIn fs true fun c r => if r = true then do let ok ← isTrue c ev (eval c ev); pure (ForInStep.yield ok) else pure (ForInStep.yield r)
abbrev Raised (P : Program) (w : World) (A : Around) (ev : Env) (R : Result → Shared → Prop) : Value → Shared → Prop :=
  notedBy (model P w) A ev fun e s' => R (.error e) s'
theorem outer_eq : compTurn (dcE kx vx t0 i0 f0 t1 i1 f1 sc ps) 0 it (.ref D) ev = (do
    standAt i0.pos
    match ← pyNext it with
    | none => pure (.done .next)
    | some v =>
      letOwnedTupleGo t0 it v
      assign t0 ev v
      let ok ← testsOf f0 ev
      if ok then
        let z ← eval i1 ev
        standAt i1.pos
        let z ← foldedSetIterable i1 ev z
        let _ ← runOwn (.compStart (dcE kx vx t0 i0 f0 t1 i1 f1 sc ps) 1 (← holding [z] (pyIter z)) (.ref D) ev) ev
      again (.compLoop (dcE kx vx t0 i0 f0 t1 i1 f1 sc ps) 0 it (.ref D) ev)) := by rfl
theorem inner_eq : compTurn (dcE kx vx t0 i0 f0 t1 i1 f1 sc ps) 1 it (.ref D) ev = (do
    standAt i1.pos
    match ← pyNext it with
    | none => pure (.done .next)
    | some v =>
      letOwnedTupleGo t1 it v
      assign t1 ev v
      let ok ← testsOf f1 ev
      if ok then
        (do
          let y ← eval kx ev
          let z ← holding [y] (eval vx ev)
          standAt { kx.pos with endLine := vx.pos.endLine, endCol := vx.pos.endCol }
          holding [y, z] (dictSet D y z))
      again (.compLoop (dcE kx vx t0 i0 f0 t1 i1 f1 sc ps) 1 it (.ref D) ev)) := by rfl
/-- a turn of the first clause -/
def OutTurn (P : Program) (w : World) (A : Around) (R : Result → Shared → Prop) (kx vx t0 i0 : Expr) (f0 : List Expr) (t1 i1 : Expr) (f1 : List Expr) (sc : Scope) (ps : Pos) (it : Value) (D : Addr) (ev : Env) (go : Shared → Prop) (s : Shared) : Prop :=
  wpAny (model P w) A (pyNext it) (fun r s1 => match r with
    | none => R (.ok .next) s1
    | some v => wpAny (model P w) A (letOwnedTupleGo t0 it v) (fun _ s2 => wpAny (model P w) A (assign t0 ev v) (fun _ s3 => wpAny (model P w) A (testsOf f0 ev) (fun ok s4 =>
        if ok = true then wpAny (model P w) A (eval i1 ev) (fun z s5 => wpAny (model P w) A (pyIter z) (fun it1 s6 => codeAny (model P w) A (.compStart (dcE kx vx t0 i0 f0 t1 i1 f1 sc ps) 1 it1 (.ref D) ev) (fun r s' => match r with
            | .ok _ => go s'
            | .error _ => False) s6) (Raised P w A ev R) s5) (Raised P w A ev R) s4
        else go s4) (Raised P w A ev R) s3) (Raised P w A ev R) s2) (Raised P w A ev R) s1) (Raised P w A ev R) s
theorem outer_loop (hs : ∀ x, foldedSetIterable i1 ev x = pure x) (I : Nat → Shared → Prop) (turn : ∀ n s, I n s → OutTurn P w A R kx vx t0 i0 f0 t1 i1 f1 sc ps it D ev (fun s' => ∃ m, m < n ∧ I m s') s) (n : Nat) (h : I n s) :
    codeAny (model P w) A (.compLoop (dcE kx vx t0 i0 f0 t1 i1 f1 sc ps) 0 it (.ref D) ev) R s := by
  refine codeAny_loop rfl I (fun n s hI => ?_) n h
  have T := turn n s hI
  show wpAny _ A ((compTurn (dcE kx vx t0 i0 f0 t1 i1 f1 sc ps) 0 it (.ref D) ev).onRaise (fun x => do noteFrame x ev; theTreesLotGoes x)) _ _ s
  refine wpAny_noted ?_
  rw [outer_eq]
  refine wpAny_bind (wpAny_standAt (wpAny_bind (wpAny_mono T (fun r a1 b1 => ?_) fun _ _ z => z)))
  cases r with
  | none => exact wpAny_pure b1
  | some v =>
    refine wpAny_bind (wpAny_mono b1 (fun _ a2 b2 => wpAny_bind (wpAny_mono b2 (fun _ a3 b3 => wpAny_bind (wpAny_mono b3 (fun ok a4 b4 => ?_) fun _ _ z => z)) fun _ _ z => z)) fun _ _ z => z)
    cases ok with
    | false => exact wpAny_pure ⟨rfl, b4⟩
    | true =>
      refine wpAny_bind (wpAny_mono b4 (fun z a5 b5 => wpAny_bind (wpAny_standAt (wpAny_bind (wpAny_of_eq (hs z) (wpAny_bind (wpAny_holding (wpAny_mono b5 (fun it1 a6 b6 => ?_) fun _ _ z => z))))))) fun _ _ z => z)
      refine wpAny_bind (wpAny_runOwn ?_)
      rw [Around.mark_none]
      refine codeAny_mono b6 fun r s' hr => ?_
      cases r with
      | error e => exact hr.elim
      | ok f => first | exact wpAny_pure ⟨rfl, hr⟩ | exact wpAny_bind (wpAny_pure (wpAny_pure ⟨rfl, hr⟩))
/-- a turn of the second -/
def InTurn (P : Program) (w : World) (A : Around) (R : Result → Shared → Prop) (kx vx t1 : Expr) (f1 : List Expr) (it : Value) (D : Addr) (ev : Env) (go : Shared → Prop) (s : Shared) : Prop :=
  wpAny (model P w) A (pyNext it) (fun r s1 => match r with
    | none => R (.ok .next) s1
    | some v => wpAny (model P w) A (letOwnedTupleGo t1 it v) (fun _ s2 => wpAny (model P w) A (assign t1 ev v) (fun _ s3 => wpAny (model P w) A (testsOf f1 ev) (fun ok s4 =>
        if ok = true then wpAny (model P w) A (eval kx ev) (fun y s5 => wpAny (model P w) A (eval vx ev) (fun z s6 => wpAny (model P w) A (dictSet D y z) (fun _ s7 => go s7) (Raised P w A ev R) s6) (Raised P w A ev R) s5) (Raised P w A ev R) s4
        else go s4) (Raised P w A ev R) s3) (Raised P w A ev R) s2) (Raised P w A ev R) s1) (Raised P w A ev R) s
theorem inner_loop (I : Nat → Shared → Prop) (turn : ∀ n s, I n s → InTurn P w A R kx vx t1 f1 it D ev (fun s' => ∃ m, m < n ∧ I m s') s) (n : Nat) (h : I n s) :
    codeAny (model P w) A (.compLoop (dcE kx vx t0 i0 f0 t1 i1 f1 sc ps) 1 it (.ref D) ev) R s := by
  refine codeAny_loop rfl I (fun n s hI => ?_) n h
  have T := turn n s hI
  show wpAny _ A ((compTurn (dcE kx vx t0 i0 f0 t1 i1 f1 sc ps) 1 it (.ref D) ev).onRaise (fun x => do noteFrame x ev; theTreesLotGoes x)) _ _ s
  refine wpAny_noted ?_
  rw [inner_eq]
  refine wpAny_bind (wpAny_standAt (wpAny_bind (wpAny_mono T (fun r a1 b1 => ?_) fun _ _ z => z)))
  cases r with
  | none => exact wpAny_pure b1
  | some v =>
    refine wpAny_bind (wpAny_mono b1 (fun _ a2 b2 => wpAny_bind (wpAny_mono b2 (fun _ a3 b3 => wpAny_bind (wpAny_mono b3 (fun ok a4 b4 => ?_) fun _ _ z => z)) fun _ _ z => z)) fun _ _ z => z)
    cases ok with
    | false => exact wpAny_pure ⟨rfl, b4⟩
    | true =>
      exact wpAny_bind (wpAny_bind (wpAny_mono b4 (fun y a5 b5 => wpAny_bind (wpAny_holding (wpAny_mono b5 (fun z a6 b6 => wpAny_bind (wpAny_standAt (wpAny_holding (wpAny_mono b6 (fun _ a7 b7 => wpAny_pure ⟨rfl, b7⟩) fun _ _ z => z)))) fun _ _ z => z))) fun _ _ z => z))
/-- the second clause begins -/
theorem inner_start (h0 : codeAny (model P w) A (.compLoop (dcE kx vx t0 i0 f0 t1 i1 f1 sc ps) 1 it (.ref D) ev) R s)
    (h : wpAny (model P w) A (pyIter it) (fun j s' => codeAny (model P w) A (.compLoop (dcE kx vx t0 i0 f0 t1 i1 f1 sc ps) 1 j (.ref D) ev) R s') (Raised P w A ev R) s) :
    codeAny (model P w) A (.compStart (dcE kx vx t0 i0 f0 t1 i1 f1 sc ps) 1 it (.ref D) ev) R s := by
  refine codeAny_of_tree ?_
  show wpAny _ _ ((compStart (dcE kx vx t0 i0 f0 t1 i1 f1 sc ps) 1 it (.ref D) ev).onRaise (fun x => do noteFrame x ev; standAt theWindowsPlace)) _ _ s
  refine wpAny_notedAt ?_
  unfold compStart
  show wpAny _ _ (ask >>= _) _ _ s
  refine wpAny_bind (wpAny_askSetting (wpAny_ite ?_))
  have l1 : ∀ (j : Value) (s' : Shared), codeAny (model P w) A (.compLoop (dcE kx vx t0 i0 f0 t1 i1 f1 sc ps) 1 j (.ref D) ev) R s' → codeAny (model P w) A (.compLoop (dcE kx vx t0 i0 f0 t1 i1 f1 sc ps) 1 j (.ref D) ev) R s' := fun _ _ z => z
  split
  · first | exact wpAny_pure ⟨rfl, h0⟩ | exact wpAny_bind (wpAny_pure (wpAny_pure ⟨rfl, h0⟩))
  · refine wpAny_bind (wpAny_rule ?_)
    first
      | exact wpAny_bind (wpAny_standAt (wpAny_bind (wpAny_mono h (fun j s' z => wpAny_pure ⟨rfl, z⟩) fun _ _ z => z)))
      | (show wpAny _ _ (standAt i1.pos >>= _) _ _ s; exact wpAny_bind (wpAny_standAt (wpAny_bind (wpAny_mono h (fun j s' z => wpAny_pure ⟨rfl, z⟩) fun _ _ z => z))))
end
/-- what is stored: o0 an empty dict, up what it takes to put a key and a value into the dict at an address -/
structure Store (X : Cx) (o0 : HO) (up : Addr → V → V → Hp → (Hp → Prop) → Prop) : Prop where
  fresh : ∀ {pins : List (Addr × Obj)} {σ : L2.St} {H : Hp} {s : Shared}, Inv X pins σ H s → Inv X pins σ (upd H s.heap.objs.size o0) { s with heap := s.heap.push { cls := .type "dict", data := .dict #[] } }
  put : ∀ {Z : Cx} {pins : List (Addr × Obj)} {σ : L2.St} {H : Hp} {s : Shared} {E : Value → Shared → Prop} {D : Addr} {y z : V} {u r : Value} {Nx : Hp → Prop} {Q : Unit → Shared → Prop}, Z.A = X.A → Inv Z pins σ H s → RelV y u → RelV z r → up D y z H Nx →
    (∀ H' s', Inv Z pins σ H' s' → Nx H' → Q () s') → wpAny (model Z.prog Z.w) Z.A (dictSet D u r) Q E s
/-- keys numbers or texts -/
def upK : Addr → V → V → Hp → (Hp → Prop) → Prop := fun D y z H Nx => ∃ kvs k, y = kV k ∧ H D = some (.dK kvs) ∧ kvs.length < sizeLine ∧ Nx (upd H D (.dK (putK kvs k z)))
/-- keys tuples of them -/
def upT : Addr → V → V → Hp → (Hp → Prop) → Prop := fun D y z H Nx => ∃ kvs k b, y = .ref b ∧ H b = some (.tup (k.map kV)) ∧ H D = some (.dT kvs) ∧ kvs.length < sizeLine ∧ Nx (upd H D (.dT (putK kvs k z)))
theorem storeK {X : Cx} : Store X (.dK []) upK where
  fresh := fun {pins σ H s} I => I.laid (t' := s.toks) (fun b o z => Heap.get?_push_of_some _ z) (Nat.le_refl _) (dk_empty s.heap I.big)
  put := fun _ I ry rz ⟨kvs, k, ey, hD, hz, nx⟩ q => by
    subst ey
    exact d_dictSet I hD hz ry rz fun s' I' => q _ s' I' nx
theorem storeT {X : Cx} (hu : X.A.units + 1 < cLine) : Store X (.dT []) upT where
  fresh := fun {pins σ H s} I => I.laid (t' := s.toks) (fun b o z => Heap.get?_push_of_some _ z) (Nat.le_refl _) (dt_empty s.heap I.big)
  put := fun e I ry rz ⟨kvs, k, b, ey, hb, hD, hz, nx⟩ q => by
    subst ey
    exact dT_set (by rw [e]; exact hu) I hD hz hb ry rz fun s' I' => q _ s' I' nx
/-- the turns of the second clause, from which Nx is reached -/
def InP (up : Addr → V → V → Hp → (Hp → Prop) → Prop) (D : Addr) (g1 : TG) (tt1 : TT) (tk tv : TE) (vs1 : List Nat) (τ : L2.St) (Nx : Hp → Prop) (J : It) (H0 : Hp) : Prop :=
  ∃ W : Nat → Nat → Hp → Prop, (∃ m, W 0 m H0) ∧ ∀ j k H, W j k H → (J.stop j H ∧ Nx H) ∨ (J.go j H ∧ ∃ N1 : Hp → Prop, (∀ H', N1 H' → ∃ k', k' < k ∧ W (j + 1) k' H') ∧
    ∀ x H', J.yld j H x H' → g1 x (wipe τ vs1) H' fun τ2 H5 => wipe τ2 vs1 = wipe τ vs1 ∧ tt1 τ2 H5 fun b H6 => if b = true then tk τ2 H6 fun y H7 => tv τ2 H7 fun z H8 => up D y z H8 N1 else N1 H6)
/-- {k: v for target in iter if .. for target in iter if ..} -/
def tDc2 (o0 : HO) (up : Addr → V → V → Hp → (Hp → Prop) → Prop) (wi : TI) (g : TG) (tt : TT) (wi1 : TI) (g1 : TG) (tt1 : TT) (tk tv : TE) (vs vs1 : List Nat) : TE := fun σ H Q => wi σ H fun J H1 => ∀ D, H1 D = none →
  ∃ W : Nat → Nat → Hp → Prop, (∃ m, W 0 m (upd H1 D o0)) ∧ ∀ i m H, W i m H → (J.stop i H ∧ Q (.ref D) H) ∨ (J.go i H ∧ ∃ Nx : Hp → Prop, (∀ H', Nx H' → ∃ m', m' < m ∧ W (i + 1) m' H') ∧
    ∀ x H', J.yld i H x H' → g x (wipe σ vs) H' fun τ H2 => wipe τ vs = wipe σ vs ∧ tt τ H2 fun b H3 => if b = true then wi1 τ H3 fun J1 H4 => InP up D g1 tt1 tk tv vs1 τ Nx J1 H4 else Nx H3)
section
variable {X : Cx}
/-- a block's part, for any frame that it may get -/
abbrev inB (X : Cx) (sc : Scope) (s : Shared) (H : Hp) (C : Addr) (cl : List (Str × Addr)) (fp : List Addr) : Cx := X.blk s H sc (compEnvC sc cl C X.env) fp
theorem keep_out {σ τ : L2.St} {vs vs1 : List Nat} (hv : ∀ i ∈ vs1, i ∈ vs) (e : wipe τ vs = wipe σ vs) {j : Nat} {v : V} (h : (wipe σ vs)[j]? = some (some v)) : (wipe τ vs1)[j]? = some (some v) := by
  rw [← e] at h
  have h2 := wipe_some h
  rw [wipe_out fun z => h2.2 (hv j z)]
  exact h2.1
/-- what stands between two turns of a clause -/
def Btw (Z : Cx) (pins : List (Addr × Obj)) (fp : List Addr) (tn : Nat → Heap → Prop) (τ : L2.St) (W : Nat → Nat → Hp → Prop) (n : Nat) (s : Shared) : Prop :=
  ∃ i H, Inv Z pins τ H s ∧ tn i s.heap ∧ (∀ b ∈ fp, H b = none) ∧ W i n H
/-- from a turn to the next -/
theorem btw_next {Z : Cx} {pins : List (Addr × Obj)} {t : Expr} {J : It} {fp : List Addr} {it : Addr} {tn : Nat → Heap → Prop} {h : Heap} (T : Turn Z.prog Z.w Z.K t J fp it tn) {τ τ2 : L2.St} {W : Nat → Nat → Hp → Prop} {i n m : Nat} {H : Hp} {s : Shared} (sth : tn (i + 1) h)
    (I : Inv Z (pins ++ pinsAt fp h) τ2 H s) (hl : τ.length = τ2.length) (hk : ∀ (j : Nat) v, τ[j]? = some (some v) → τ2[j]? = some (some v)) (hm : m < n) (w : W (i + 1) m H) : ∃ m, m < n ∧ Btw Z pins fp tn τ W m s := by
  have pin : ∀ b ∈ fp, ∀ o, h.get? b = some o → s.heap.get? b = some o ∧ H b = none := fun b hb o e =>
    let z := I.pin (b, o) (List.mem_append_right _ (List.mem_append_right _ (mem_pinsAt hb e)))
    ⟨z.1, z.2.1⟩
  refine ⟨m, hm, i + 1, H, (I.unpinned (pins := pins)).weak hl hk, T.keep _ _ _ sth fun b hb o e => (pin b hb o e).1, fun b hb => ?_, w⟩
  obtain ⟨o, e, _⟩ := T.obj _ _ sth b hb
  exact (pin b hb o e).2
theorem len_of {τ τ2 : L2.St} {vs : List Nat} (e : wipe τ2 vs = wipe τ vs) : (wipe τ vs).length = τ2.length := by rw [← e, wipe_length]
theorem knows_of {τ τ2 : L2.St} {vs : List Nat} (e : wipe τ2 vs = wipe τ vs) (j : Nat) (v : V) (h : (wipe τ vs)[j]? = some (some v)) : τ2[j]? = some (some v) := by
  rw [← e] at h
  exact (wipe_some h).1
theorem in_turn {Z : Cx} {R : Result → Shared → Prop} {kx vx t1 : Expr} {f1 : List Expr} {o0 : HO} {up : Addr → V → V → Hp → (Hp → Prop) → Prop} (st : Store X o0 up) (zA : Z.A = X.A) (hE : Z.xe = fun _ _ => False) (hc : Z.calm = true) {D : Addr} {J1 : It} {fp1 : List Addr} {it1 : Addr} {tn1 : Nat → Heap → Prop} (T1 : Turn Z.prog Z.w Z.K t1 J1 fp1 it1 tn1)
    {τ : L2.St} {vs1 : List Nat} {pins : List (Addr × Obj)} {Nx : Hp → Prop} {W1 : Nat → Nat → Hp → Prop} {g1 : TG} {tt1 : TT} {tk tv : TE} (pg1 : PG Z t1 g1) (pt1 : PTs Z f1 tt1) (pk : PE Z kx tk) (px : PE Z vx tv) (far : ∀ {H' : Hp}, (∀ b ∈ fp1, H' b = none) → ∀ b ∈ fp1, FpOk Z pins H' b)
    (turn : ∀ j k H, W1 j k H → (J1.stop j H ∧ Nx H) ∨ (J1.go j H ∧ ∃ N1 : Hp → Prop, (∀ H', N1 H' → ∃ k', k' < k ∧ W1 (j + 1) k' H') ∧
      ∀ x H', J1.yld j H x H' → g1 x (wipe τ vs1) H' fun τ2 H5 => wipe τ2 vs1 = wipe τ vs1 ∧ tt1 τ2 H5 fun b H6 => if b = true then tk τ2 H6 fun y H7 => tv τ2 H7 fun z H8 => up D y z H8 N1 else N1 H6))
    (fin : ∀ {H' : Hp} {s' : Shared}, Inv Z pins (wipe τ vs1) H' s' → Nx H' → R (.ok .next) s') (k : Nat) (s : Shared) (h : Btw Z pins fp1 tn1 (wipe τ vs1) W1 k s) :
    InTurn Z.prog Z.w Z.A R kx vx t1 f1 (.ref it1) D Z.env (fun s' => ∃ m, m < k ∧ Btw Z pins fp1 tn1 (wipe τ vs1) W1 m s') s := by
  obtain ⟨j, H, I, stj, no, w⟩ := h
  rcases turn j k H w with ⟨stop, nx⟩ | ⟨go, N1, hN, step⟩
  · refine thnF (T1.done Z rfl rfl rfl hc j _ s _ H (fun _ _ => False) I (far no) stj stop) fun r a1 ⟨hr, I1⟩ => ?_
    subst hr
    exact fin I1 nx
  · refine thnF (T1.item Z rfl rfl rfl hc j _ s _ H (fun _ _ => False) I (far no) stj go) fun r a1 ⟨u, hr, h1⟩ => ?_
    subst hr
    refine thnF h1 fun _ a2 ⟨x, H2, I2, r2, y2, st2, n2⟩ => ?_
    have I2' := I2.pinned (far n2) (T1.obj _ _ st2)
    have b3 := pg1.run _ a2 _ H2 x u _ I2' r2 (step x H2 y2)
    rw [hE] at b3
    refine thnF b3 fun _ a3 ⟨τ2, H3, I3, e3, q3⟩ => ?_
    have b4 := pt1.run _ a3 τ2 H3 _ I3 q3
    rw [hE] at b4
    refine thnF b4 fun b a4 ⟨H4, I4, q4⟩ => ?_
    have next : ∀ {H' : Hp} {s' : Shared}, Inv Z (pins ++ pinsAt fp1 a2.heap) τ2 H' s' → N1 H' → ∃ m, m < k ∧ Btw Z pins fp1 tn1 (wipe τ vs1) W1 m s' := fun I' n' => by
      obtain ⟨m, hm, w'⟩ := hN _ n'
      exact btw_next T1 st2 I' (len_of e3) (knows_of e3) hm w'
    cases b with
    | false =>
      rw [if_neg Bool.false_ne_true] at q4 ⊢
      exact next I4 q4
    | true =>
      rw [if_pos rfl] at q4 ⊢
      have b5 := pk.run _ a4 τ2 H4 _ I4 q4
      rw [hE] at b5
      refine thnF b5 fun v5 a5 ⟨y, H5, I5, r5, q5⟩ => ?_
      have b6 := px.run _ a5 τ2 H5 _ I5 q5
      rw [hE] at b6
      refine thnF b6 fun v6 a6 ⟨z, H6, I6, r6, q6⟩ => ?_
      exact st.put zA I6 r5 r6 q6 fun H' s' I' n' => next I' n'
theorem out_turn {Z : Cx} {R : Result → Shared → Prop} {kx vx t0 i0 t1 i1 : Expr} {f0 f1 : List Expr} {sc : Scope} {ps : Pos} {o0 : HO} {up : Addr → V → V → Hp → (Hp → Prop) → Prop} (st : Store X o0 up) (zA : Z.A = X.A) (hE : Z.xe = fun _ _ => False) (hc : Z.calm = true) {D : Addr} {J : It} {fp : List Addr} {it : Addr} {tn : Nat → Heap → Prop} (T : Turn Z.prog Z.w Z.K t0 J fp it tn)
    {σ : L2.St} {vs vs1 : List Nat} (hv : ∀ i ∈ vs1, i ∈ vs) {Qd : Hp → Prop} {W : Nat → Nat → Hp → Prop} {wi1 : TI} {g g1 : TG} {tt tt1 : TT} {tk tv : TE} (pg : PG Z t0 g) (pt : PTs Z f0 tt) (pi1 : PI Z t1 i1 wi1) (pg1 : PG Z t1 g1) (pt1 : PTs Z f1 tt1) (pk : PE Z kx tk) (px : PE Z vx tv)
    (far : ∀ {τ' : L2.St} {H' : Hp} {s' : Shared}, Inv Z [] τ' H' s' → (∀ b ∈ fp, H' b = none) → ∀ b ∈ fp, FpOk Z [] H' b)
    (turn : ∀ i m H, W i m H → (J.stop i H ∧ Qd H) ∨ (J.go i H ∧ ∃ Nx : Hp → Prop, (∀ H', Nx H' → ∃ m', m' < m ∧ W (i + 1) m' H') ∧
      ∀ x H', J.yld i H x H' → g x (wipe σ vs) H' fun τ H2 => wipe τ vs = wipe σ vs ∧ tt τ H2 fun b H3 => if b = true then wi1 τ H3 fun J1 H4 => InP up D g1 tt1 tk tv vs1 τ Nx J1 H4 else Nx H3))
    (fin : ∀ {H' : Hp} {s' : Shared}, Inv Z [] (wipe σ vs) H' s' → Qd H' → R (.ok .next) s') (n : Nat) (s : Shared) (h : Btw Z [] fp tn (wipe σ vs) W n s) :
    OutTurn Z.prog Z.w Z.A R kx vx t0 i0 f0 t1 i1 f1 sc ps (.ref it) D Z.env (fun s' => ∃ m, m < n ∧ Btw Z [] fp tn (wipe σ vs) W m s') s := by
  obtain ⟨i, H, I, sti, no, w⟩ := h
  rcases turn i n H w with ⟨stop, qd⟩ | ⟨go, Nx, hN, step⟩
  · refine thnF (T.done Z rfl rfl rfl hc i _ s _ H (fun _ _ => False) I (far I no) sti stop) fun r a1 ⟨hr, I1⟩ => ?_
    subst hr
    exact fin I1 qd
  · refine thnF (T.item Z rfl rfl rfl hc i _ s _ H (fun _ _ => False) I (far I no) sti go) fun r a1 ⟨u, hr, h1⟩ => ?_
    subst hr
    refine thnF h1 fun _ a2 ⟨x, H2, I2, r2, y2, st2, n2⟩ => ?_
    have I2' := I2.pinned (far I2 n2) (T.obj _ _ st2)
    have b3 := pg.run _ a2 _ H2 x u _ I2' r2 (step x H2 y2)
    rw [hE] at b3
    refine thnF b3 fun _ a3 ⟨τ, H3, I3, e3, q3⟩ => ?_
    have b4 := pt.run _ a3 τ H3 _ I3 q3
    rw [hE] at b4
    refine thnF b4 fun b a4 ⟨H4, I4, q4⟩ => ?_
    have next : ∀ {τ2 : L2.St} {H' : Hp} {s' : Shared}, Inv Z ([] ++ pinsAt fp a2.heap) τ2 H' s' → (wipe σ vs).length = τ2.length → (∀ (j : Nat) v, (wipe σ vs)[j]? = some (some v) → τ2[j]? = some (some v)) → Nx H' → ∃ m, m < n ∧ Btw Z [] fp tn (wipe σ vs) W m s' := fun I' hl hk n' => by
      obtain ⟨m, hm, w'⟩ := hN _ n'
      exact btw_next T st2 I' hl hk hm w'
    cases b with
    | false =>
      rw [if_neg Bool.false_ne_true] at q4 ⊢
      exact next I4 (len_of e3) (knows_of e3) q4
    | true =>
      rw [if_pos rfl] at q4 ⊢
      have b5 := pi1.run _ a4 τ H4 _ I4 q4
      rw [hE] at b5
      refine thnF b5 fun xv a5 h5 => thnF h5 fun itv a6 ⟨it1, fp1, tn1, J1, H6, e6, I6, T1, st6, f6, W1, ⟨m1, w1⟩, turn1⟩ => ?_
      subst e6
      have loop := inner_loop (t0 := t0) (i0 := i0) (i1 := i1) (f0 := f0) (sc := sc) (ps := ps) (P := Z.prog) (w := Z.w) (A := Z.A) (kx := kx) (vx := vx) (t1 := t1) (f1 := f1) (it := .ref it1) (D := D) (ev := Z.env)
        (R := fun r s' => match r with
          | .ok _ => ∃ m, m < n ∧ Btw Z [] fp tn (wipe σ vs) W m s'
          | .error _ => False)
        (Btw Z ([] ++ pinsAt fp a2.heap) fp1 tn1 (wipe τ vs1) W1)
        (in_turn st zA hE hc T1 (Nx := Nx) pg1 pt1 pk px (fun hn b hb => ⟨hn b hb, (f6 b hb).2⟩) turn1 (fun I' nx => next I' ((len_of e3).trans (wipe_length τ vs1).symm) (fun j v z => keep_out hv e3 z) nx))
        m1 (s := a6) ⟨0, H6, I6.weak (wipe_length _ _) (fun j v z => (wipe_some z).1), st6, fun b hb => (f6 b hb).1, w1⟩
      exact inner_start loop (T1.self _ _ _ _ _ st6 loop)
theorem pe_dc2 {kx vx t0 i0 t1 i1 : Expr} {f0 f1 : List Expr} {sc : Scope} {own : List (Str × Nat)} {vs1 : List Nat} {ps : Pos} {o0 : HO} {up : Addr → V → V → Hp → (Hp → Prop) → Prop} {wi wi1 : TI} {g g1 : TG} {tt tt1 : TT} {tk tv : TE} (st : Store X o0 up) (hc : X.calm = true) (hN : X.N.Nodup) (hi : PI X t0 i0 wi) (ok : BlkOk X.N X.env.scope sc own) (hv : ∀ i ∈ vs1, i ∈ own.map (·.2))
    (hg : ∀ s H C cl fp, PG (inB X sc s H C cl fp) t0 g) (ht : ∀ s H C cl fp, PTs (inB X sc s H C cl fp) f0 tt) (hi1 : ∀ s H C cl fp, PI (inB X sc s H C cl fp) t1 i1 wi1) (hg1 : ∀ s H C cl fp, PG (inB X sc s H C cl fp) t1 g1) (ht1 : ∀ s H C cl fp, PTs (inB X sc s H C cl fp) f1 tt1) (hk : ∀ s H C cl fp, PE (inB X sc s H C cl fp) kx tk) (hx : ∀ s H C cl fp, PE (inB X sc s H C cl fp) vx tv)
    (hs : ∀ x, foldedSetIterable i0 X.env x = pure x := by intro _; rfl) (hs1 : ∀ ev x, foldedSetIterable i1 ev x = pure x := by intro _ _; rfl) : PE X (dcE kx vx t0 i0 f0 t1 i1 f1 sc ps) (tDc2 o0 up wi g tt wi1 g1 tt1 tk tv (own.map (·.2)) vs1) := by
  refine ⟨fun pins s σ H Q I h => ?_⟩
  rw [arm_eval_DictComp]
  have free : ∀ y ∈ sc.names, y.2 = .free → ∃ c, X.env.cells.lookup y.1 = some c := fun y hy e => (ok.free y hy e).elim (fun k => I.ok.has _ (.inl k)) (fun k => I.ok.has _ (.inr k))
  refine wpAny_comprehension_free rfl hs (closure_ok free) ok.kind (fun y hy e => by rw [ok.uniq y hy, e]) (thn (hi.run pins s σ H _ I h) fun _ s1 hx1 => thn hx1 fun _ s2 ⟨it, fp, tn, J, H2, e, I2, T, st2, f2, q⟩ => ?_)
  subst e
  refine wpAny_newObj_type (newEnv_comp ?_)
  have I3 := st.fresh I2
  generalize hD : s2.heap.objs.size = D at I3
  have nD : H2 D = none := I2.hok.fresh (Nat.le_of_eq hD)
  obtain ⟨W, ⟨m0, w0⟩, turn⟩ := q D nD
  generalize hs3 : ({ s2 with heap := s2.heap.push { cls := .type "dict", data := .dict #[] } } : Shared) = s3 at I3
  have h3 : s3.heap = s2.heap.push { cls := .type "dict", data := .dict #[] } := by rw [← hs3]
  have f3 : ∀ b ∈ fp, FpOk X pins (upd H2 D o0) b ∧ b < s3.heap.objs.size := fun b hb => by
    obtain ⟨o, e, _⟩ := T.obj _ _ st2 b hb
    have lt : b < s2.heap.objs.size := Heap.lt_size e
    exact ⟨⟨by rw [upd_ne (by rw [← hD]; exact Nat.ne_of_lt lt)]; exact (f2 b hb).1, (f2 b hb).2⟩, by rw [h3, Heap.size_push]; exact Nat.lt_succ_of_lt lt⟩
  have I4 := block_start I3 ok hN f3
  generalize hcl : cellsFrom (s3.heap.objs.size + 1) sc.names (cloFrom X.env.cells sc.names []) = cl at I4
  have pg := hg s3 (upd H2 D o0) s3.heap.objs.size cl fp
  have pt := ht s3 (upd H2 D o0) s3.heap.objs.size cl fp
  have pi1 := hi1 s3 (upd H2 D o0) s3.heap.objs.size cl fp
  have pg1 := hg1 s3 (upd H2 D o0) s3.heap.objs.size cl fp
  have pt1 := ht1 s3 (upd H2 D o0) s3.heap.objs.size cl fp
  have pk := hk s3 (upd H2 D o0) s3.heap.objs.size cl fp
  have px := hx s3 (upd H2 D o0) s3.heap.objs.size cl fp
  dsimp only [inB] at pg pt pi1 pg1 pt1 pk px
  show codeAny _ _ (.compStart (dcE kx vx t0 i0 f0 t1 i1 f1 sc ps) 0 (.ref it) (.ref D) (compEnvC sc cl s3.heap.objs.size X.env)) (compPost (model X.prog X.w) X.A X.xe none (EP X pins σ Q) (.ref D) s3.heap.objs.size) { s3 with heap := pushCells (s3.heap.push { cls := .type "dict", data := .dict #[] }) sc.names }
  generalize hce : compEnvC sc cl s3.heap.objs.size X.env = ce at I4 pg pt pi1 pg1 pt1 pk px ⊢
  have cL : ce.locals = s3.heap.objs.size := by subst hce; rfl
  generalize hH3 : upd H2 D o0 = H3 at I3 I4 pg pt pi1 pg1 pt1 pk px w0 f3
  generalize hs4 : ({ s3 with heap := pushCells (s3.heap.push { cls := .type "dict", data := .dict #[] }) sc.names } : Shared) = s4 at I4 ⊢
  have st4 : tn 0 s4.heap := T.keep _ _ _ st2 fun b _ o z => by
    rw [← hs4]
    exact pushCells_keeps _ _ _ _ (Heap.get?_push_of_some _ (by rw [h3]; exact Heap.get?_push_of_some _ z))
  have far : ∀ {τ : L2.St} {H' : Hp} {s' : Shared}, Inv (X.blk s3 H3 sc ce fp) [] τ H' s' → (∀ b ∈ fp, H' b = none) → ∀ b ∈ fp, FpOk (X.blk s3 H3 sc ce fp) [] H' b := fun J' hn b hb =>
    ⟨hn b hb, (J'.ok.exf b hb).1, J'.ok.exfs b hb, .inl hb, fun x c z => (J'.ok.exf b hb).2 x c z, fun p hp => absurd (show p ∈ ([] : List (Addr × Obj)) ++ [] from hp) (by simp)⟩
  have loop : codeAny (model X.prog X.w) X.A (.compLoop (dcE kx vx t0 i0 f0 t1 i1 f1 sc ps) 0 (.ref it) (.ref D) ce) (compPost (model X.prog X.w) X.A X.xe none (EP X pins σ Q) (.ref D) s3.heap.objs.size) s4 := by
    refine outer_loop (hs1 ce) (Btw (X.blk s3 H3 sc ce fp) [] fp tn (wipe σ (own.map (·.2))) W) (fun n s' b => ?_) m0 ⟨0, H3, I4, st4, fun b hb => (f3 b hb).1.1, w0⟩
    refine out_turn (Z := X.blk s3 H3 sc ce fp) st rfl rfl hc T hv (Qd := fun H => Q (.ref D) H) pg pt pi1 pg1 pt1 pk px far turn (fun {H' s'} I' qq => ?_) n s' b
    have I7 : Inv X pins σ H' s' := I3.call' (ch := fp) I'.os I'.base I'.hok I'.bare fun b hb => ⟨(f3 b hb).1.2.2.2.1, (f3 b hb).1.2.1, (f3 b hb).1.2.2.2.2.1, (f3 b hb).1.2.2.2.2.2⟩
    have nC : H' s3.heap.objs.size = none := by
      have z : H' ce.locals = none := I'.free
      rwa [cL] at z
    obtain ⟨m, hn, _⟩ := I'.loc
    have hn : s'.heap.Ns ce.locals m := hn
    rw [cL] at hn
    obtain ⟨z0, z1, z2, z4, z5, z6⟩ := I3.fpOk (Nat.le_refl _) nC
    exact ⟨m, hn, fun h'' sb => ⟨.ref D, H', I7.turned (t' := s'.toks) (fun b o hb z => (sb.2 b hb).trans z) z0 z1 z4 z5 z6, rfl, qq⟩⟩
  exact codeAny_compStart_dict loop (T.self X.A 0 _ _ _ st4 loop)
end
end Ka
namespace Kb
open PySem PySem.Spec PyProof.Rows L2
/-! ### dict comprehensions over walks -/
/-- keys numbers or texts, with tests -/
theorem dcK_it {J : It} {n : Nat} {G : Hp → Prop} {Y : Nat → Hp → V → Hp → Prop} (w : Walk J n G Y) {g : TG} {tt : TT} {tk tv : TE} {vs : List Nat} {σ : L2.St} {H1 : Hp} {D : Addr} {Qd : Hp → Prop} (Pv : Nat → Hp → Prop) (h0 : Pv 0 (upd H1 D (.dK []))) (hG : ∀ i H, i ≤ n → Pv i H → G H)
    (hs : ∀ i x H H', i < n → Pv i H → Y i H x H' → g x (wipe σ vs) H' fun σ2 H2 => wipe σ2 vs = wipe σ vs ∧ tt σ2 H2 fun b H3 => if b = true then tk σ2 H3 fun y H4 => tv σ2 H4 fun z H5 => ∃ kvs k, y = kV k ∧ H5 D = some (.dK kvs) ∧ kvs.length < sizeLine ∧ Pv (i + 1) (upd H5 D (.dK (putK kvs k z))) else Pv (i + 1) H3)
    (hd : ∀ H, Pv n H → Qd H) : ∃ W : Nat → Nat → Hp → Prop, (∃ m, W 0 m (upd H1 D (.dK []))) ∧ ∀ i m H, W i m H →
      (J.stop i H ∧ Qd H) ∨ (J.go i H ∧ ∃ Nx : Hp → Prop, (∀ H', Nx H' → ∃ m', m' < m ∧ W (i + 1) m' H') ∧ ∀ x H', J.yld i H x H' → g x (wipe σ vs) H' fun σ2 H2 => wipe σ2 vs = wipe σ vs ∧ tt σ2 H2 fun b H3 =>
        if b = true then tk σ2 H3 fun y H4 => tv σ2 H4 fun z H5 => ∃ kvs k, y = kV k ∧ H5 D = some (.dK kvs) ∧ kvs.length < sizeLine ∧ Nx (upd H5 D (.dK (putK kvs k z))) else Nx H3) := by
  refine ⟨fun i m H => m = n - i ∧ i ≤ n ∧ Pv i H, ⟨n, rfl, Nat.zero_le _, h0⟩, fun i m H ⟨em, hi, p⟩ => ?_⟩
  by_cases hlt : i < n
  · refine .inr ⟨w.goes i H hlt (hG i H hi p), Pv (i + 1), fun H' p' => ⟨n - (i + 1), by omega, rfl, hlt, p'⟩, fun x H' y => ?_⟩
    exact hs i x H H' hlt p (w.yields i H x H' hlt (hG i H hi p) y)
  · obtain rfl : i = n := by omega
    exact .inl ⟨w.stops H (hG i H hi p), hd H p⟩
/-- the second clause of two -/
theorem in_it {J : It} {n : Nat} {G : Hp → Prop} {Y : Nat → Hp → V → Hp → Prop} (w : Walk J n G Y) {up : Addr → V → V → Hp → (Hp → Prop) → Prop} {D : Addr} {g1 : TG} {tt1 : TT} {tk tv : TE} {vs1 : List Nat} {τ : L2.St} {H0 : Hp} {Nx : Hp → Prop} (Pv : Nat → Hp → Prop) (h0 : Pv 0 H0) (hG : ∀ i H, i ≤ n → Pv i H → G H)
    (hs : ∀ j x H H', j < n → Pv j H → Y j H x H' → g1 x (wipe τ vs1) H' fun τ2 H5 => wipe τ2 vs1 = wipe τ vs1 ∧ tt1 τ2 H5 fun b H6 => if b = true then tk τ2 H6 fun y H7 => tv τ2 H7 fun z H8 => up D y z H8 (Pv (j + 1)) else Pv (j + 1) H6)
    (hd : ∀ H, Pv n H → Nx H) : Ka.InP up D g1 tt1 tk tv vs1 τ Nx J H0 := by
  refine ⟨fun i m H => m = n - i ∧ i ≤ n ∧ Pv i H, ⟨n, rfl, Nat.zero_le _, h0⟩, fun i m H ⟨em, hi, p⟩ => ?_⟩
  by_cases hlt : i < n
  · refine .inr ⟨w.goes i H hlt (hG i H hi p), Pv (i + 1), fun H' p' => ⟨n - (i + 1), by omega, rfl, hlt, p'⟩, fun x H' y => ?_⟩
    exact hs i x H H' hlt p (w.yields i H x H' hlt (hG i H hi p) y)
  · obtain rfl : i = n := by omega
    exact .inl ⟨w.stops H (hG i H hi p), hd H p⟩
/-- the first -/
theorem out_it {J : It} {n : Nat} {G : Hp → Prop} {Y : Nat → Hp → V → Hp → Prop} (w : Walk J n G Y) {o0 : HO} {up : Addr → V → V → Hp → (Hp → Prop) → Prop} {g g1 : TG} {tt tt1 : TT} {wi1 : TI} {tk tv : TE} {vs vs1 : List Nat} {σ : L2.St} {H1 : Hp} {D : Addr} {Qd : Hp → Prop} (Pv : Nat → Hp → Prop) (h0 : Pv 0 (upd H1 D o0)) (hG : ∀ i H, i ≤ n → Pv i H → G H)
    (hs : ∀ i x H H', i < n → Pv i H → Y i H x H' → g x (wipe σ vs) H' fun τ H2 => wipe τ vs = wipe σ vs ∧ tt τ H2 fun b H3 => if b = true then wi1 τ H3 fun J1 H4 => Ka.InP up D g1 tt1 tk tv vs1 τ (Pv (i + 1)) J1 H4 else Pv (i + 1) H3)
    (hd : ∀ H, Pv n H → Qd H) : ∃ W : Nat → Nat → Hp → Prop, (∃ m, W 0 m (upd H1 D o0)) ∧ ∀ i m H, W i m H → (J.stop i H ∧ Qd H) ∨ (J.go i H ∧ ∃ Nx : Hp → Prop, (∀ H', Nx H' → ∃ m', m' < m ∧ W (i + 1) m' H') ∧
      ∀ x H', J.yld i H x H' → g x (wipe σ vs) H' fun τ H2 => wipe τ vs = wipe σ vs ∧ tt τ H2 fun b H3 => if b = true then wi1 τ H3 fun J1 H4 => Ka.InP up D g1 tt1 tk tv vs1 τ Nx J1 H4 else Nx H3) := by
  refine ⟨fun i m H => m = n - i ∧ i ≤ n ∧ Pv i H, ⟨n, rfl, Nat.zero_le _, h0⟩, fun i m H ⟨em, hi, p⟩ => ?_⟩
  by_cases hlt : i < n
  · refine .inr ⟨w.goes i H hlt (hG i H hi p), Pv (i + 1), fun H' p' => ⟨n - (i + 1), by omega, rfl, hlt, p'⟩, fun x H' y => ?_⟩
    exact hs i x H H' hlt p (w.yields i H x H' hlt (hG i H hi p) y)
  · obtain rfl : i = n := by omega
    exact .inl ⟨w.stops H (hG i H hi p), hd H p⟩
theorem piT_at {X : Cx} {K : PySem.W.Frag} {tg l : Expr} {t : TE} (h : X.K = K) (hl : PE X l t) : PI X tg l (iTup K t) := by
  subst h
  exact pi_tup hl
theorem piL_at {X : Cx} {K : PySem.W.Frag} {tg l : Expr} {t : TE} (h : X.K = K) (hl : PE X l t) : PI X tg l (iList K t) := by
  subst h
  exact pi_list hl
/-! ### ascending -/
theorem putK_new {κ : Type} [DecidableEq κ] : ∀ {kvs : List (κ × V)} {k : κ} {v : V}, k ∉ kvs.map (·.1) → putK kvs k v = kvs ++ [(k, v)] := by
  intro kvs k v h
  unfold putK
  rw [if_neg]
  rw [List.any_eq_true]
  rintro ⟨x, hx, e⟩
  exact h (List.mem_map.mpr ⟨x, hx, of_decide_eq_true e⟩)
def pickM (M : MK) (y : Str) : Str × Addr × List Str := (M.find? fun t => decide (t.1 = y)).getD ("", 0, [])
theorem pickM_of : ∀ {M : MK}, (M.map (·.1)).Nodup → ∀ {t : Str × Addr × List Str}, t ∈ M → pickM M t.1 = t
  | [], _, _, h => nomatch h
  | t0 :: M, nd, t, h => by
    rw [List.map_cons, List.nodup_cons] at nd
    unfold pickM
    rw [List.find?_cons]
    rcases List.mem_cons.mp h with e | e
    · subst e
      rw [decide_eq_true rfl]
      rfl
    · have : t0.1 ≠ t.1 := fun z => nd.1 (z ▸ List.mem_map.mpr ⟨_, e, rfl⟩)
      rw [decide_eq_false this]
      exact pickM_of nd.2 e
theorem pick_all {M : MK} (nd : (M.map (·.1)).Nodup) : (M.map (·.1)).map (pickM M) = M := by
  rw [List.map_map]
  have : M.map (pickM M ∘ fun t => t.1) = M.map id := List.map_congr_left fun t ht => pickM_of nd ht
  rw [this, List.map_id]
theorem pick_perm {M : MK} {ys : List Str} (nd : (M.map (·.1)).Nodup) (p : ys.Perm (M.map (·.1))) : (ys.map (pickM M)).Perm M := by
  have := p.map (pickM M)
  rwa [pick_all nd] at this
theorem pick_name {M : MK} {y : Str} (nd : (M.map (·.1)).Nodup) (h : y ∈ M.map (·.1)) : (pickM M y).1 = y ∧ pickM M y ∈ M := by
  obtain ⟨t, ht, rfl⟩ := name_M h
  rw [pickM_of nd ht]
  exact ⟨rfl, ht⟩
theorem pick_names {M : MK} {ys : List Str} (nd : (M.map (·.1)).Nodup) (h : ∀ y ∈ ys, y ∈ M.map (·.1)) : (ys.map (pickM M)).map (·.1) = ys := by
  rw [List.map_map]
  have : ys.map ((fun t => t.1) ∘ pickM M) = ys.map id := List.map_congr_left fun t ht => (pick_name nd (h t ht)).1
  rw [this, List.map_id]
section
variable {P : Program} {w : World} {K : PySem.W.Frag} {mg : Str → Option Value} {base : Heap}
theorem scAsc : FnScope ["table", "key"] ["table"] (defScope sAsc) := ⟨rfl, rfl, rfl, by decide +kernel, rfl, by decide +kernel, by decide +kernel⟩
def spAsc : Sp := fun vs H Q _ => ∃ (d : Addr) (M : MK), vs = [.ref d] ∧ Rd H d (.dK (kvM M)) ∧ (M.map (·.1)).Nodup ∧ M.length < 64 ∧
  ∀ (H' : Hp) (p : Addr) (N : MK), Same H H' → H p = none → H' p = some (.dK (kvM N)) → N.Perm M → sortedS (N.map (·.1)) = true → Q (.ref p) H'
theorem ok_asc {f : Addr} {fd : FuncData} (F : Fun K "ascending" "ascending" sAsc f fd) (ms : mg "sorted" = none) : FnOk P w K mg base CX0 1 f fd ["table"] spAsc := by
  refine F.ok scAsc (fun vs H Q E h => ?_) (fun cdv A outer s H vs Q E hr h => ?_)
  · obtain ⟨d, M, rfl, _⟩ := h
    rfl
  · obtain ⟨d, M, rfl, hd, nd, hz, q⟩ := h
    refine ⟨_, pss_one (ps_ret (pe_dc (own := [("key", 1)]) (g := gName 1) (tt := tYes) rfl scAsc.nd (pi_list (pe_callB (call_sortedD rfl) (by rfl) ms (by decide +kernel) (pa_cons (pv 0) pa_nil))) (blkOk_by (own := [("key", 1)]) (N := ["table", "key"]) (sc := defScope sAsc) (by decide +kernel)) (fun _ _ _ _ _ => pg_name (i := 1) scAsc.nd rfl (Or.inl rfl)) (fun _ _ _ _ _ => pts_nil)
        (fun _ _ _ _ _ => pv 1) (fun _ _ _ _ _ => pe_dget (hu_of hr) (pv 0) (pv 1) (fun _ _ => rfl)))), ?_⟩
    refine ⟨.ref d, rfl, d, _, M.map (·.1), rfl, hd, kvM_keys M, by rw [List.length_map]; exact hz, fun ys p hp hs np => ?_⟩
    have ndy : ys.Nodup := hp.nodup_iff.mpr nd
    have iny : ∀ y ∈ ys, y ∈ M.map (·.1) := fun y hy => hp.mem_iff.mp hy
    have hlen : ys.length = M.length := by rw [hp.length_eq, List.length_map]
    refine ⟨p, rfl, ⟨_, sqL_new upd_same⟩, fun D nD => ?_⟩
    have s1 : Same H (upd H p (.lst (ys.map V.str))) := same_new np
    refine dcK_it (walk_list (K := K) (a := p) (xs := ys.map V.str)) (fun i H2 => Same (upd H p (.lst (ys.map V.str))) H2 ∧ H2 D = some (.dK (kvM ((ys.map (pickM M)).take i)))) ⟨same_new nD, upd_same⟩ (fun i H2 _ h => (h.1.seq (sqL_new upd_same))) (fun i x H2 H3 hi h y => ?_) (fun H2 h => ?_)
    · obtain ⟨rfl, hx⟩ := y
      obtain ⟨sm, eD⟩ := h
      obtain ⟨z, hz2, rfl⟩ := get_map hx
      have hzM := pick_name nd (iny z (List.mem_of_getElem? hz2))
      have hg : (ys.map (pickM M))[i]? = some (pickM M z) := by rw [List.getElem?_map, hz2]; rfl
      have gd := get_M (Rd.mono hd (s1.trans sm)) nd hzM.2
      rw [hzM.1] at gd
      refine ⟨rfl, .str z, rfl, .ref d, rfl, .str z, rfl, d, _, rfl, gd, _, Sum.inr z, rfl, eD, ?_, fun c o e => ?_, ?_⟩
      · rw [kvM_len, List.length_take, List.length_map]
        exact small (by omega)
      · rw [upd_ne (ne_of_none e nD)]
        exact sm c o e
      · rw [upd_same, putK_new, take_of_get hg]
        · unfold kvM
          rw [List.map_append, List.map_singleton, hzM.1]
        · rw [kvM_keys, List.map_take, pick_names nd iny]
          intro z2
          obtain ⟨y2, h2, e2⟩ := List.mem_map.mp z2
          have e2 := Sum.inr.inj e2
          subst e2
          obtain ⟨j, hj⟩ := List.getElem?_of_mem h2
          rw [List.getElem?_take] at hj
          split at hj
          · rename_i hlt
            have := (List.getElem?_inj (by have := lt_of_get hj; omega) ndy).mp (hj.trans hz2.symm)
            omega
          · cases hj
    · obtain ⟨sm, eD⟩ := h
      rw [List.take_of_length_le (by rw [List.length_map, List.length_map]; exact Nat.le_refl _)] at eD
      refine q H2 D _ (s1.trans sm) (s1.free nD) eD (pick_perm nd hp) ?_
      rw [pick_names nd iny]
      exact hs
end
end Kb
namespace Kb
open PySem PySem.Spec PyProof.Rows L2
/-! ### own deeds -/
def trueKV (xs : List Str) : List (L2.Key × V) := xs.map fun x => (Sum.inr x, V.bl true)
def addS (xs : List Str) (x : Str) : List Str := if x ∈ xs then xs else xs ++ [x]
theorem mem_addS {xs : List Str} {x y : Str} : y ∈ addS xs x ↔ y ∈ xs ∨ y = x := by
  unfold addS
  by_cases h : x ∈ xs
  · rw [if_pos h]
    exact ⟨.inl, fun e => e.elim id fun e => e ▸ h⟩
  · rw [if_neg h, List.mem_append, List.mem_singleton]
theorem nd_addS {xs : List Str} {x : Str} (h : xs.Nodup) : (addS xs x).Nodup := by
  unfold addS
  by_cases e : x ∈ xs
  · rw [if_pos e]
    exact h
  · rw [if_neg e, List.nodup_append]
    refine ⟨h, List.nodup_cons.mpr ⟨by simp, List.nodup_nil⟩, fun a ha b hb => ?_⟩
    rw [List.mem_singleton.mp hb]
    exact fun z => e (z ▸ ha)
theorem len_addS (xs : List Str) (x : Str) : (addS xs x).length ≤ xs.length + 1 := by
  unfold addS
  split
  · omega
  · rw [List.length_append]
    exact Nat.le_refl _
theorem trueKV_add (xs : List Str) (x : Str) : putK (trueKV xs) (Sum.inr x : L2.Key) (.bl true) = trueKV (addS xs x) := by
  unfold addS
  by_cases h : x ∈ xs
  · rw [if_pos h]
    unfold putK
    rw [if_pos]
    · unfold trueKV
      rw [List.map_map]
      apply List.map_congr_left
      intro y hy
      show (if (Sum.inr y : L2.Key) = Sum.inr x then ((Sum.inr y : L2.Key), V.bl true) else (Sum.inr y, V.bl true)) = _
      split <;> rfl
    · rw [List.any_eq_true]
      exact ⟨_, List.mem_map.mpr ⟨x, h, rfl⟩, decide_eq_true rfl⟩
  · rw [if_neg h, putK_new]
    · unfold trueKV
      rw [List.map_append]
      rfl
    · unfold trueKV
      rw [List.map_map]
      intro z
      obtain ⟨y, hy, e⟩ := List.mem_map.mp z
      exact h (Sum.inr.inj e ▸ hy)
theorem valV_true {xs : List Str} {x : Str} : valV (trueKV xs) (Sum.inr x : L2.Key) = if x ∈ xs then some (V.bl true) else none := by
  unfold valV trueKV
  induction xs with
  | nil => simp
  | cons y xs ih =>
    rw [List.map_cons, List.find?_cons]
    by_cases h : y = x
    · subst h
      simp
    · rw [decide_eq_false (fun z => h (Sum.inr.inj z))]
      simp only [List.mem_cons]
      rw [ih]
      have : (x = y ∨ x ∈ xs) ↔ x ∈ xs := ⟨fun z => z.resolve_left fun e => h e.symm, .inr⟩
      simp only [this]
/-- the own deeds of d, in order -/
structure IsLot (m : List (Str × List Str)) (d : Str) (L : List Str) : Prop where
  srt : sortedS L = true
  nd : L.Nodup
  mem : ∀ x, x ∈ L ↔ Kf.Own m d x
theorem own_iff {M : MK} (nd : (M.map (·.1)).Nodup) {t : Str × Addr × List Str} (ht : t ∈ M) (x : Str) : Kf.Own (pm M) t.1 x ↔ x ∈ t.2.2 ∧ ¬ ∃ t' ∈ M, t'.1 ≠ t.1 ∧ x ∈ t'.2.2 := by
  unfold Kf.Own
  rw [look_M nd ht, pm_names]
  refine and_congr_right fun _ => ⟨fun h => ?_, fun h e he ne hx => ?_⟩
  · rintro ⟨t', ht', ne, hx⟩
    refine h t'.1 (List.mem_map.mpr ⟨t', ht', rfl⟩) ne ?_
    rw [look_M nd ht']
    exact hx
  · obtain ⟨t', ht', rfl⟩ := name_M he
    rw [look_M nd ht'] at hx
    exact h ⟨t', ht', ne, hx⟩
section
variable {P : Program} {w : World} {K : PySem.W.Frag} {mg : Str → Option Value} {base : Heap}
theorem scOwnD : FnScope ["making", "found", "deed", "others", "other", "one"] ["making"] (defScope sOwnD) := ⟨rfl, rfl, rfl, by decide +kernel, rfl, by decide +kernel, by decide +kernel⟩
def spOwnD : Sp := fun vs H Q _ => ∃ (d : Addr) (M : MK), vs = [.ref d] ∧ H d = some (.dK (kvM M)) ∧ Stand H M ∧ Fit M ∧
  ∀ (H' : Hp) (p : Addr) (N : MK), Same H H' → H p = none → H' p = some (.dK (kvM N)) → Stand H' N → sortedS (N.map (·.1)) = true → (N.map (·.1)).Perm (M.map (·.1)) → (∀ t ∈ N, IsLot (pm M) t.1 t.2.2) → (∀ t ∈ N, t.2.2.length ≤ 5) → Q (.ref p) H'
theorem ok_ownD {f fA : Addr} {fd fdA : FuncData} (F : Fun K "own_deeds" "own_deeds" sOwnD f fd) (FA : Fun K "ascending" "ascending" sAsc fA fdA) (bA : Binds K fdA ["table"] []) (gA : mg "ascending" = some (.ref fA)) (ms : mg "sorted" = none) (mt : mg "tuple" = none) : FnOk P w K mg base CX0 2 f fd ["making"] spOwnD := by
  have GA : FnOk P w K mg base CX0 1 fA fdA ["table"] spAsc := ok_asc FA ms
  refine F.ok scOwnD (fun vs H Q E h => ?_) (fun cdv A outer s H vs Q E hr h => ?_)
  · obtain ⟨d, M, rfl, _⟩ := h
    rfl
  · obtain ⟨d, M, rfl, hd, hM, ft, q⟩ := h
    refine ⟨_, pss_cons (ps_set (i := 1) scOwnD.nd rfl (.inl rfl) pe_dnewK)
      (pss_cons (ps_lock (ps_for PassesOwn.never rfl (pi_keys (pv 0)) (pg_name (i := 2) scOwnD.nd rfl (.inr rfl))
        (pss_cons (ps_set (i := 3) scOwnD.nd rfl (.inr rfl) (Ka.pe_dc2 (own := [("other", 4), ("one", 5)]) (vs1 := [5]) (g := gName 4) (g1 := gName 5) (tt1 := tYes) Ka.storeK rfl scOwnD.nd (pi_keys (pv 0)) (blkOk_by (own := [("other", 4), ("one", 5)]) (N := ["making", "found", "deed", "others", "other", "one"]) (sc := defScope sOwnD) (by decide +kernel)) (by decide)
            (fun _ _ _ _ _ => pg_name (i := 4) scOwnD.nd rfl (Or.inl rfl)) (fun _ _ _ _ _ => pts_one (pt_cmpR op_ne (pv 4) (pv 2) (nomark _))) (fun _ _ _ _ _ => piT_at (K := K) rfl (pe_dget (hu_of hr) (pv 0) (pv 4) (fun _ _ => rfl))) (fun _ _ _ _ _ => pg_name (i := 5) scOwnD.nd rfl (Or.inl rfl)) (fun _ _ _ _ _ => pts_nil) (fun _ _ _ _ _ => pv 5) (fun _ _ _ _ _ => pe_bl)))
        (pss_one (ps_dput (hu_of hr) (pv 1) (pv 2) (pe_callTy call_tuple_of (by rfl) mt (by decide +kernel) (pa_cons (pe_callB (call_sortedD rfl) (by rfl) ms (by decide +kernel) (pa_cons
          (pe_dc (own := [("one", 5)]) (g := gName 5) rfl scOwnD.nd (pi_tup (pe_dget (hu_of hr) (pv 0) (pv 2) (fun _ _ => rfl))) (blkOk_by (own := [("one", 5)]) (N := ["making", "found", "deed", "others", "other", "one"]) (sc := defScope sOwnD) (by decide +kernel)) (fun _ _ _ _ _ => pg_name (i := 5) scOwnD.nd rfl (Or.inl rfl)) (fun _ _ _ _ _ => pts_one (pt_cmp (pc_dnotin (hu_of hr) (pv 5) (pv 3))))
            (fun _ _ _ _ _ => pv 5) (fun _ _ _ _ _ => pe_bl)) pa_nil)) pa_nil)) rfl)))))
      (pss_one (ps_ret (pe_call GA hr (by rfl) gA FA.kp bA .nil pass0 (pa_cons (pv 1) pa_nil))))), ?_⟩
    refine fun o no => ?_
    have s0 : Same H (upd H o (.dK [])) := same_new no
    have hdo : d ≠ o := ne_of_none hd no
    refine ⟨d, .dK (kvM M), s0 _ _ hd, True.intro, fun od => ?_⟩
    generalize hH1 : upd (upd H o (.dK [])) d (.frz od (.dK (kvM M))) = H1
    have b1 : But d (upd H o (.dK [])) H1 := by rw [← hH1]; exact But.upd
    have f1 : H1 d = some (.frz od (.dK (kvM M))) := by rw [← hH1]; exact upd_same
    have o1 : H1 o = some (.dK []) := by rw [← hH1, upd_ne (Ne.symm hdo)]; exact upd_same
    have M1 : Stand H1 M := fun t ht => b1 _ _ (fun e => by
      have := hM t ht
      rw [e, hd] at this
      cases this) (s0 _ _ (hM t ht))
    have free1 : ∀ c, H1 c = none → H c = none := fun c e => by
      cases hc : H c with
      | none => rfl
      | some u =>
        by_cases q : c = d
        · rw [q, f1] at e
          cases e
        · rw [b1 c u q (s0 _ _ hc)] at e
          cases e
    refine ⟨.ref d, rfl, d, od, rfl, .inl ⟨kvM M, f1, ?_⟩⟩
    refine for_it (walk_keys (d := d) (o := od) (kvs := kvM M)) (fun i σ H' => ∃ (x2 x3 : Option V) (N : MK), σ = [some (.ref d), some (.ref o), x2, x3, none, none] ∧ But o H1 H' ∧ H' o = some (.dK (kvM N)) ∧ N.map (·.1) = (M.map (·.1)).take i ∧ Stand H' N ∧ (∀ t ∈ N, IsLot (pm M) t.1 t.2.2) ∧ ∀ t ∈ N, t.2.2.length ≤ 5)
      ⟨none, none, [], rfl, But.refl, o1, rfl, (fun t ht => nomatch ht), (fun t ht => nomatch ht), (fun t ht => nomatch ht)⟩ (fun i σ H' _ ⟨_, _, _, _, k, _⟩ => k _ _ hdo f1) (fun i x σ H2 H3 hi h y => ?_) (fun σ H2 h => ?_)
    · obtain ⟨rfl, ky, va, hkv, rfl⟩ := y
      obtain ⟨x2, x3, N, rfl, k3, eo, hN, sN, lN, rN⟩ := h
      obtain ⟨t, ht, ekv⟩ := get_map hkv
      cases ekv
      have htM := List.mem_of_getElem? ht
      have f3 := k3 _ _ hdo f1
      have M3 : Stand H3 M := fun t ht => k3 _ _ (fun e => by
        have := M1 t ht
        rw [e, o1] at this
        cases this) (M1 t ht)
      refine ⟨.ref d, rfl, d, od, rfl, .inl ⟨kvM M, f3, fun D nD => ?_⟩⟩
      refine out_it (walk_keys (d := d) (o := od) (kvs := kvM M)) (fun i2 G => Same H3 G ∧ ∃ xs : List Str, G D = some (.dK (trueKV xs)) ∧ xs.length ≤ 5 * i2 ∧ ∀ x, x ∈ xs ↔ ∃ t' ∈ M.take i2, t'.1 ≠ t.1 ∧ x ∈ t'.2.2)
        ⟨same_new nD, [], upd_same, Nat.le_refl _, fun x => ⟨fun h => (nomatch h), fun ⟨t', h, _⟩ => (nomatch h)⟩⟩ (fun i2 G _ h => h.1 _ _ f3) (fun i2 x2' G G' hi2 h y => ?_) (fun G h => ?_)
      · obtain ⟨rfl, ky2, va2, hkv2, rfl⟩ := y
        obtain ⟨t', ht', ekv2⟩ := get_map hkv2
        cases ekv2
        have htM' := List.mem_of_getElem? ht'
        have hi4 : i2 < 4 := by
          have := ft.few
          have := lt_of_get ht'
          omega
        obtain ⟨sG, xs, eD, hl, hx⟩ := h
        refine ⟨rfl, .str t'.1, rfl, .str t.1, rfl, rfl, _, rfl, ?_⟩
        have stepM : ∀ x, (∃ t2 ∈ M.take (i2 + 1), t2.1 ≠ t.1 ∧ x ∈ t2.2.2) ↔ (∃ t2 ∈ M.take i2, t2.1 ≠ t.1 ∧ x ∈ t2.2.2) ∨ (t'.1 ≠ t.1 ∧ x ∈ t'.2.2) := fun x => by
          rw [take_of_get ht']
          constructor
          · rintro ⟨t2, h2, r⟩
            rcases List.mem_append.mp h2 with z | z
            · exact .inl ⟨t2, z, r⟩
            · rw [List.mem_singleton.mp z] at r
              exact .inr r
          · rintro (⟨t2, h2, r⟩ | r)
            · exact ⟨t2, List.mem_append_left _ h2, r⟩
            · exact ⟨t', List.mem_append_right _ (List.mem_singleton.mpr rfl), r⟩
        refine ite2 (fun c => ?_) (fun c => ?_)
        · have c : t'.1 ≠ t.1 := by
            intro e
            rw [e] at c
            simp at c
          refine ⟨.ref d, rfl, .str t'.1, rfl, d, _, rfl, get_M (.inr ⟨od, sG _ _ f3⟩) ft.nd htM', t'.2.1, rfl, ⟨_, sqT_new (sG _ _ (M3 t' htM'))⟩, ?_⟩
          refine in_it (walk_tup (K := K) (a := t'.2.1) (xs := t'.2.2.map V.str)) (fun j Z => Same H3 Z ∧ ∃ xs : List Str, Z D = some (.dK (trueKV xs)) ∧ xs.length ≤ 5 * i2 + j ∧ ∀ x, x ∈ xs ↔ (∃ t2 ∈ M.take i2, t2.1 ≠ t.1 ∧ x ∈ t2.2.2) ∨ x ∈ t'.2.2.take j)
            ⟨sG, xs, eD, hl, fun x => by rw [hx, List.take_zero]; exact ⟨.inl, fun z => z.elim id fun z => nomatch z⟩⟩ (fun j Z _ h => sqT_new (h.1 _ _ (M3 t' htM'))) (fun j y Z Z' hj h yy => ?_) (fun Z h => ?_)
          · obtain ⟨rfl, hy⟩ := yy
            obtain ⟨z, hz, rfl⟩ := get_map hy
            obtain ⟨sZ, xs, eD, hl, hx⟩ := h
            have hj5 : j < 5 := by
              have := ft.rows t' htM'
              have := lt_of_get hz
              omega
            refine ⟨rfl, .str z, rfl, trueKV xs, Sum.inr z, rfl, eD, ?_, fun c u e => ?_, addS xs z, ?_, ?_, fun x => ?_⟩
            · unfold trueKV
              rw [List.length_map]
              exact small (by omega)
            · rw [upd_ne (ne_of_none e nD)]
              exact sZ c u e
            · rw [upd_same, trueKV_add]
            · have := len_addS xs z
              omega
            · rw [mem_addS, hx, take_of_get hz, List.mem_append, List.mem_singleton, or_assoc]
          · obtain ⟨sZ, xs, eD, hl, hx⟩ := h
            rw [List.length_map] at hl hx
            rw [List.take_length] at hx
            refine ⟨sZ, xs, eD, ?_, fun x => ?_⟩
            · have := ft.rows t' htM'
              omega
            · rw [hx, stepM]
              exact or_congr_right ⟨fun z => ⟨c, z⟩, fun z => z.2⟩
        · have c : t'.1 = t.1 := by
            apply Decidable.byContradiction
            intro e
            apply c
            simp [e]
          refine ⟨sG, xs, eD, by omega, fun x => ?_⟩
          rw [hx, stepM]
          exact ⟨.inl, fun z => z.elim id fun z => absurd c z.1⟩
      · obtain ⟨sG, xs, eD, hl, hx⟩ := h
        rw [kvM_len] at hl hx
        rw [List.take_length] at hx
        have xl : xs.length ≤ 20 := by
          have := ft.few
          omega
        have f4 := sG _ _ f3
        have nt : t.1 ∉ N.map (·.1) := by
          rw [hN]
          intro z
          obtain ⟨j, hj⟩ := List.getElem?_of_mem z
          rw [List.getElem?_take] at hj
          split at hj
          · rename_i hlt
            have e2 : (M.map (·.1))[i]? = some t.1 := by rw [List.getElem?_map, ht]; rfl
            have := (List.getElem?_inj (lt_of_get hj) ft.nd).mp (hj.trans e2.symm)
            omega
          · cases hj
        refine ⟨.ref d, rfl, .str t.1, rfl, d, _, rfl, get_M (.inr ⟨od, f4⟩) ft.nd htM, t.2.1, rfl, ⟨_, sqT_new (sG _ _ (M3 t htM))⟩, fun D2 nD2 => ?_⟩
        refine dcK_it (walk_tup (K := K) (a := t.2.1) (xs := t.2.2.map V.str)) (fun j Z => Same G Z ∧ ∃ ys : List Str, Z D2 = some (.dK (trueKV ys)) ∧ ys.Nodup ∧ ys.length ≤ j ∧ ∀ x, x ∈ ys ↔ x ∈ t.2.2.take j ∧ x ∉ xs)
          ⟨same_new nD2, [], upd_same, List.nodup_nil, Nat.le_refl _, fun x => ⟨fun h => (nomatch h), fun h => (nomatch h.1)⟩⟩ (fun j Z _ h => sqT_new (h.1 _ _ (sG _ _ (M3 t htM)))) (fun j y Z Z' hj h yy => ?_) (fun Z h => ?_)
        · obtain ⟨rfl, hy⟩ := yy
          obtain ⟨z, hz, rfl⟩ := get_map hy
          obtain ⟨sZ, ys, eD2, ndy, yl, hy2⟩ := h
          have hj5 : j < 5 := by
            have := ft.rows t htM
            have := lt_of_get hz
            omega
          refine ⟨rfl, .str z, rfl, .ref D, rfl, D, _, rfl, DGet.k (k := Sum.inr z) (sZ _ _ eD), ?_⟩
          rw [valV_true]
          by_cases c : z ∈ xs
          · rw [if_pos c]
            refine ⟨false, rfl, ?_⟩
            refine ⟨sZ, ys, eD2, ndy, by omega, fun x => ?_⟩
            rw [hy2, take_of_get hz, List.mem_append, List.mem_singleton]
            exact ⟨fun h => ⟨.inl h.1, h.2⟩, fun h => ⟨h.1.resolve_right fun e => h.2 (e ▸ c), h.2⟩⟩
          · rw [if_neg c]
            refine ⟨true, rfl, ?_⟩
            refine iteT ?_
            refine ⟨.str z, rfl, trueKV ys, Sum.inr z, rfl, eD2, ?_, fun c u e => ?_, addS ys z, ?_, nd_addS ndy, ?_, fun x => ?_⟩
            · unfold trueKV
              rw [List.length_map]
              exact small (by omega)
            · rw [upd_ne (ne_of_none e nD2)]
              exact sZ c u e
            · rw [upd_same, trueKV_add]
            · have := len_addS ys z
              omega
            · rw [mem_addS, hy2, take_of_get hz, List.mem_append, List.mem_singleton]
              constructor
              · rintro (h | rfl)
                · exact ⟨.inl h.1, h.2⟩
                · exact ⟨.inr rfl, c⟩
              · rintro ⟨h | rfl, h2⟩
                · exact .inl ⟨h, h2⟩
                · exact .inr rfl
        · obtain ⟨sZ, ys, eD2, ndy, yl, hy2⟩ := h
          rw [List.length_map] at yl hy2
          rw [List.take_length] at hy2
          have r5 := ft.rows t htM
          refine ⟨D2, _, ys, rfl, .inl eD2, ?_, by omega, fun zs p hp hs np => ?_⟩
          · unfold trueKV
            rw [List.map_map]
            rfl
          · refine ⟨p, _, rfl, .inl ⟨sqL_new upd_same, fun l nl => ?_⟩⟩
            generalize hZ2 : upd (upd Z p (.lst (zs.map V.str))) l (.tup (zs.map V.str)) = Z2
            have s5 : Same H3 Z2 := by
              rw [← hZ2]
              exact (sG.trans sZ).trans ((same_new np).trans (same_new nl))
            have el : Z2 l = some (.tup (zs.map V.str)) := by rw [← hZ2]; exact upd_same
            have nlo : l ≠ o := fun e => by
              have q1 := (sG.trans sZ) _ _ eo
              have q2 := (same_new (o := .lst (zs.map V.str)) np) _ _ q1
              rw [e, q2] at nl
              cases nl
            have N4 : N.length = i := by
              have := congrArg List.length hN
              rw [List.length_map, List.length_take, List.length_map] at this
              have := lt_of_get ht
              omega
            refine ⟨.ref o, rfl, .str t.1, rfl, o, _, rfl, DPut.k (k := Sum.inr t.1) (s5 _ _ eo) ?_, ?_⟩
            · rw [kvM_len]
              have := ft.few
              have := lt_of_get ht
              exact small (by omega)
            · refine ⟨_, _, N ++ [(t.1, l, zs)], rfl, fun c u hc e => ?_, ?_, ?_, fun t2 h2 => ?_, fun t2 h2 => ?_, fun t2 h2 => ?_⟩
              · rw [upd_ne hc]
                exact s5 _ _ (k3 c u hc e)
              · rw [upd_same, putK_new]
                · unfold kvM
                  rw [List.map_append]
                  rfl
                · rw [kvM_keys]
                  intro z
                  obtain ⟨y, hy, e⟩ := List.mem_map.mp z
                  exact nt (Sum.inr.inj e ▸ hy)
              · rw [List.map_append, hN, take_of_get (l := M.map (·.1)) (i := i) (x := t.1) (by rw [List.getElem?_map, ht]; rfl)]
                rfl
              · rcases List.mem_append.mp h2 with z | z
                · have q1 := sN t2 z
                  rw [upd_ne (fun e => by rw [e, eo] at q1; cases q1)]
                  exact s5 _ _ q1
                · rw [List.mem_singleton.mp z, upd_ne nlo]
                  exact el
              · rcases List.mem_append.mp h2 with z | z
                · exact lN t2 z
                · rw [List.mem_singleton.mp z]
                  refine ⟨hs, hp.nodup_iff.mpr ndy, fun x => ?_⟩
                  rw [own_iff ft.nd htM, hp.mem_iff, hy2, hx]
              · rcases List.mem_append.mp h2 with z | z
                · exact rN t2 z
                · rw [List.mem_singleton.mp z]
                  show zs.length ≤ 5
                  rw [hp.length_eq]
                  omega
    · obtain ⟨x2, x3, N, rfl, k, eo, hN, sN, lN, rN⟩ := h
      rw [kvM_len, List.take_of_length_le (by rw [List.length_map]; exact Nat.le_refl _)] at hN
      refine ⟨k _ _ hdo f1, ?_⟩
      have hoD : o ≠ d := Ne.symm hdo
      have sU : Same H (upd H2 d (.dK (kvM M))) := fun c u e => by
        by_cases q : c = d
        · rw [q, upd_same, ← hd, ← q]
          exact e
        · rw [upd_ne q]
          exact k _ _ (ne_of_none e no) (b1 _ _ q (s0 _ _ e))
      have nl : N.length = M.length := by
        have := congrArg List.length hN
        rw [List.length_map, List.length_map] at this
        exact this
      have few := ft.few
      refine ⟨.ref o, rfl, o, N, rfl, .inl (by rw [upd_ne hoD]; exact eo), by rw [hN]; exact ft.nd, by omega, fun H5 p N2 s5 np ep perm srt => ?_⟩
      have sN2 : Stand H5 N2 := fun t ht => by
        have q1 := sN t (perm.mem_iff.mp ht)
        refine s5 _ _ ?_
        rw [upd_ne (fun e => by
          rw [e, k _ _ hdo f1] at q1
          cases q1)]
        exact q1
      refine q H5 p N2 (sU.trans s5) (sU.free np) ep sN2 srt ?_ (fun t ht => lN t (perm.mem_iff.mp ht)) (fun t ht => rN t (perm.mem_iff.mp ht))
      rw [← hN]
      exact perm.map _
end
end Kb
namespace Kb
open PySem PySem.Spec PyProof.Rows L2
/-! ### the order of texts -/
abbrev leS (a b : Str) : Prop := a.cps.toList ≤ b.cps.toList
theorem leS_anti {a b : Str} (h1 : leS a b) (h2 : leS b a) : a = b := by
  have e : a.cps.toList = b.cps.toList := List.le_antisymm h1 h2
  cases a
  cases b
  rename_i x y
  have : x = y := Array.toList_inj.mp e
  rw [this]
theorem rising_pw : ∀ (l : List Str) (p : Str), risingS p l = true → (p :: l).Pairwise leS
  | [], p, _ => List.pairwise_singleton _ _
  | x :: r, p, h => by
    have h : (!ltCps x.cps.toList p.cps.toList && risingS x r) = true := h
    rw [Bool.and_eq_true, ltCps_eq, Bool.not_eq_true', decide_eq_false_iff_not] at h
    have ih := rising_pw r x h.2
    have hpx : leS p x := h.1
    refine List.pairwise_cons.mpr ⟨fun y hy => ?_, ih⟩
    rcases List.mem_cons.mp hy with e | e
    · rw [e]
      exact hpx
    · exact List.le_trans hpx ((List.pairwise_cons.mp ih).1 y e)
theorem sorted_pw {l : List Str} (h : sortedS l = true) : l.Pairwise leS := by
  cases l with
  | nil => exact List.Pairwise.nil
  | cons x r => exact rising_pw r x h
theorem sorted_of {l : List Str} (h : l.Pairwise leS) : sortedS l = true := by
  refine sortedS_of_pairwise l (h.imp fun {a b} hab => ?_)
  rw [ltCps_eq, decide_eq_false_iff_not]
  exact hab
theorem pw_uniq : ∀ {a b : List Str}, a.Pairwise leS → b.Pairwise leS → a.Perm b → a = b
  | [], b, _, _, p => (List.nil_perm.mp p).symm
  | x :: a, [], _, _, p => absurd p.length_eq (by simp)
  | x :: a, y :: b, ha, hb, p => by
    have ha2 := List.pairwise_cons.mp ha
    have hb2 := List.pairwise_cons.mp hb
    have exy : x = y := by
      rcases List.mem_cons.mp (p.mem_iff.mp List.mem_cons_self : x ∈ y :: b) with e | e
      · exact e
      · rcases List.mem_cons.mp (p.mem_iff.mpr List.mem_cons_self : y ∈ x :: a) with e2 | e2
        · exact e2.symm
        · exact leS_anti (ha2.1 y e2) (hb2.1 x e)
    subst exy
    rw [pw_uniq ha2.2 hb2.2 (List.Perm.cons_inv p)]
theorem sorted_uniq {a b : List Str} (ha : sortedS a = true) (hb : sortedS b = true) (p : a.Perm b) : a = b := pw_uniq (sorted_pw ha) (sorted_pw hb) p
theorem perm_of_mem : ∀ {a b : List Str}, a.Nodup → b.Nodup → (∀ x, x ∈ a ↔ x ∈ b) → a.Perm b := fun ha hb h => (List.perm_ext_iff_of_nodup ha hb).mpr h
theorem sorted_filter {l : List Str} (p : Str → Bool) (h : sortedS l = true) : sortedS (l.filter p) = true := sorted_of ((sorted_pw h).filter p)
theorem lot_uniq {m : List (Str × List Str)} {d : Str} {a b : List Str} (ha : IsLot m d a) (hb : IsLot m d b) : a = b :=
  sorted_uniq ha.srt hb.srt (perm_of_mem ha.nd hb.nd fun x => (ha.mem x).trans (hb.mem x).symm)
/-- no own deed -/
def Bare (m : List (Str × List Str)) (d : Str) : Prop := ∀ x, ¬ Kf.Own m d x
theorem lot_bare {m : List (Str × List Str)} {d : Str} {L : List Str} (h : IsLot m d L) : L = [] ↔ Bare m d := by
  constructor
  · rintro rfl x hx
    exact nomatch (h.mem x).mpr hx
  · intro hb
    cases L with
    | nil => rfl
    | cons x r => exact absurd ((h.mem x).mp List.mem_cons_self) (hb x)
theorem exact_iff {m : List (Str × List Str)} : Kf.Exact m ↔ ∀ d ∈ m.map (·.1), ¬ Bare m d := by
  unfold Kf.Exact Bare
  refine ⟨fun h d hd hb => ?_, fun h d hd => Classical.byContradiction fun z => h d hd fun x hx => z ⟨x, hx⟩⟩
  obtain ⟨x, hx⟩ := h d hd
  exact hb x hx
section
variable {P : Program} {w : World} {K : PySem.W.Frag} {mg : Str → Option Value} {base : Heap}
theorem scExact : FnScope ["making", "own", "deed"] ["making"] (defScope sExact) := ⟨rfl, rfl, rfl, by decide +kernel, rfl, by decide +kernel, by decide +kernel⟩
def spExact : Sp := fun vs H Q _ => ∃ (d : Addr) (M : MK), vs = [.ref d] ∧ H d = some (.dK (kvM M)) ∧ Stand H M ∧ Fit M ∧ ∀ (H' : Hp) (b : Bool), Same H H' → (b = true ↔ Kf.Exact (pm M)) → Q (.bl b) H'
theorem ok_exact {f fO fA : Addr} {fd fdO fdA : FuncData} (F : Fun K "is_exact" "is_exact" sExact f fd) (FO : Fun K "own_deeds" "own_deeds" sOwnD fO fdO) (bO : Binds K fdO ["making"] []) (gO : mg "own_deeds" = some (.ref fO)) (FA : Fun K "ascending" "ascending" sAsc fA fdA) (bA : Binds K fdA ["table"] []) (gA : mg "ascending" = some (.ref fA))
    (ms : mg "sorted" = none) (mt : mg "tuple" = none) (ma : mg "all" = none) (ml : mg "len" = none) : FnOk P w K mg base CX0 3 f fd ["making"] spExact := by
  have GO : FnOk P w K mg base CX0 2 fO fdO ["making"] spOwnD := ok_ownD FO FA bA gA ms mt
  refine F.ok scExact (fun vs H Q E h => ?_) (fun cdv A outer s H vs Q E hr h => ?_)
  · obtain ⟨d, M, rfl, _⟩ := h
    rfl
  · obtain ⟨d, M, rfl, hd, hM, ft, q⟩ := h
    refine ⟨_, pss_cons (ps_set (i := 1) scExact.nd rfl (.inr rfl) (pe_call GO hr (by rfl) gO FO.kp bO .nil pass0 (pa_cons (pv 0) pa_nil)))
      (pss_one (ps_ret (pe_callB (cr_all rfl) (by rfl) ma (by decide +kernel) (pa_cons (pe_lock (pe_lc (own := [("deed", 2)]) (g := gName 2) (tt := tYes) rfl scExact.nd (pi_keys (pv 1)) (blkOk_by (own := [("deed", 2)]) (N := ["making", "own", "deed"]) (sc := defScope sExact) (by decide +kernel)) (fun _ _ _ _ _ => pg_name (i := 2) scExact.nd rfl (Or.inl rfl)) (fun _ _ _ _ _ => pts_nil)
        (fun _ _ _ _ _ => pe_cmpR op_gt (pe_callB (len_at (K := K) rfl) (by rfl) ml PySem.boot_len (pa_cons (pe_dget (hu_of hr) (pv 1) (pv 2) (fun _ _ => rfl)) pa_nil)) pe_int (nomark _)))) pa_nil)))), ?_⟩
    refine ⟨.ref d, rfl, d, M, rfl, hd, hM, ft, fun H1 p N s1 np ep sN srt perm lots rows => ?_⟩
    refine ⟨p, _, ep, True.intro, fun od => ?_⟩
    have ndN : (N.map (·.1)).Nodup := perm.nodup_iff.mpr ft.nd
    have lenN : N.length ≤ 4 := by
      have := perm.length_eq
      rw [List.length_map, List.length_map] at this
      rw [this]
      exact ft.few
    generalize hH2 : upd H1 p (.frz od (.dK (kvM N))) = H2
    have f2 : H2 p = some (.frz od (.dK (kvM N))) := by rw [← hH2]; exact upd_same
    have k2 : But p H1 H2 := by rw [← hH2]; exact But.upd
    have sN2 : Stand H2 N := fun t ht => k2 _ _ (fun e => by
      have := sN t ht
      rw [e, ep] at this
      cases this) (sN t ht)
    refine ⟨.ref p, rfl, p, od, rfl, .inl ⟨kvM N, f2, fun D nD => ?_⟩⟩
    refine lc_it (walk_keys (d := p) (o := od) (kvs := kvM N)) (fun i G => Same H2 G ∧ G D = some (.lst (((N.take i).map fun t => decide (0 < t.2.2.length)).map V.bl))) ⟨same_new nD, upd_same⟩ (fun i G _ h => h.1 _ _ f2) (fun i x G G' hi h y => ?_) (fun G h => ?_)
    · obtain ⟨rfl, ky, va, hkv, rfl⟩ := y
      obtain ⟨t, ht, ekv⟩ := get_map hkv
      cases ekv
      have htN := List.mem_of_getElem? ht
      obtain ⟨sG, eD⟩ := h
      refine ⟨rfl, .ref p, rfl, .str t.1, rfl, p, _, rfl, get_M (.inr ⟨od, sG _ _ f2⟩) ndN htN, t.2.1, _, rfl, .inr (sqT_new (sG _ _ (sN2 t htN))), _, 0, rfl, rfl, _, eD, ?_, fun c u e => ?_, ?_⟩
      · rw [List.length_map, List.length_map, List.length_take]
        exact small (by omega)
      · rw [upd_ne (ne_of_none e nD)]
        exact sG c u e
      · rw [upd_same, take_of_get ht, List.map_append, List.map_append]
        simp only [List.map_cons, List.map_nil, List.length_map]
        congr 5
        first | rfl | (apply propext; omega) | simp
    · obtain ⟨sG, eD⟩ := h
      rw [kvM_len, List.take_length] at eD
      refine ⟨sG _ _ f2, ?_⟩
      have hDp : D ≠ p := fun e => by rw [e, f2] at nD; cases nD
      refine ⟨D, _, rfl, sqL_new (by rw [upd_ne hDp]; exact eD), ?_⟩
      refine q _ _ (s1.trans (unlock ep (k2.trans (But.of sG)))) ?_
      rw [exact_iff, pm_names, List.all_eq_true]
      constructor
      · intro h dd hdd
        obtain ⟨t, ht, rfl⟩ := name_M (perm.mem_iff.mpr hdd)
        have := h _ (List.mem_map.mpr ⟨t, ht, rfl⟩)
        rw [← lot_bare (lots t ht)]
        intro e
        rw [e] at this
        simp at this
      · intro h b hb
        obtain ⟨t, ht, rfl⟩ := List.mem_map.mp hb
        have := h t.1 (perm.mem_iff.mp (List.mem_map.mpr ⟨t, ht, rfl⟩))
        rw [← lot_bare (lots t ht)] at this
        refine decide_eq_true ?_
        exact List.length_pos_iff.mpr this
end
end Kb
namespace Kb
open PySem PySem.Spec PyProof.Rows L2
section
variable {P : Program} {w : World} {K : PySem.W.Frag} {mg : Str → Option Value} {base : Heap}
theorem scBegun : FnScope ["row", "other", "many", "deed"] ["row", "other"] (defScope sBegun) := ⟨rfl, rfl, rfl, by decide +kernel, rfl, by decide +kernel, by decide +kernel⟩
def spBegun (K : PySem.W.Frag) : Sp := fun vs H Q _ => ∃ (a b : Addr) (us zs : List Str), vs = [.ref a, .ref b] ∧ SqT K H a (us.map V.str) ∧ SqT K H b (zs.map V.str) ∧ Q (.int (Kf.beg us zs : Nat)) H
theorem ok_begun {f : Addr} {fd : FuncData} (F : Fun K "begun" "begun" sBegun f fd) (ml : mg "len" = none) : FnOk P w K mg base CX0 1 f fd ["row", "other"] (spBegun K) := by
  refine F.ok scBegun (fun vs H Q E h => ?_) (fun cdv A outer s H vs Q E hr h => ?_)
  · obtain ⟨a, b, us, zs, rfl, _⟩ := h
    rfl
  · obtain ⟨a, b, us, zs, rfl, hA, hB, q⟩ := h
    refine ⟨_, pss_cons (ps_set (i := 2) scBegun.nd rfl (.inl rfl) pe_int)
      (pss_cons (ps_for PassesOwn.never rfl (pi_tup (pv 1)) (pg_name (i := 3) scBegun.nd rfl (.inl rfl))
        (pss_one (ps_if (PW.pt (pw_and (pt_cmpR op_lt (pv 2) (pe_callB call_len_seq (by rfl) ml PySem.boot_len (pa_cons (pv 0) pa_nil)) (nomark _)) (pw_and1 (pt_cmpR op_eq (pe_ix ix_tup (pv 0) (pv 2) (fun _ _ => rfl)) (pv 3) (nomark _)))))
          (pss_one (ps_aug (i := 2) scBegun.nd rfl (.inl rfl) pe_int ip_add)) pss_nil)))
      (pss_one (ps_ret (pv 2)))), ?_⟩
    refine ⟨.ref b, rfl, b, rfl, ⟨_, hB⟩, ?_⟩
    refine for_tup (K := K) (a := b) (xs := zs.map V.str) (fun i σ H' => ∃ (m : Nat) (d : Option V), σ = [some (.ref a), some (.ref b), some (.int (m : Nat)), d] ∧ H' = H ∧ m + Kf.beg (us.drop m) (zs.drop i) = Kf.beg us zs)
      ⟨0, none, rfl, rfl, by rw [List.drop_zero, List.drop_zero, Nat.zero_add]⟩ (fun i σ H' _ ⟨_, _, _, e, _⟩ => by rw [e]; exact hB) ?_ ?_
    · rintro i x σ H' hx ⟨m, d, rfl, rfl, eq⟩
      obtain ⟨z, hz, rfl⟩ := get_map hx
      rw [drop_of_get hz, Kf.beg_step] at eq
      refine ⟨.int (m : Nat), rfl, .ref a, rfl, a, _, rfl, .inr hA, _, _, rfl, rfl, _, rfl, ite2 (fun c => ?_) (fun c => ?_)⟩
      · have c := of_decide_eq_true c
        rw [List.length_map] at c
        have hm : m < us.length := by omega
        have hg : us[m]? = some us[m] := List.getElem?_eq_getElem hm
        refine ⟨.ref a, rfl, .int (m : Nat), rfl, a, _, _, _, rfl, rfl, hA, atI_nat (by rw [List.getElem?_map, hg]; rfl), .str z, rfl, rfl, _, rfl, ite2 (fun c2 => ?_) (fun c2 => ?_)⟩
        · have e2 : us[m] = z := V.str.inj (of_decide_eq_true c2)
          rw [hg, e2, if_pos rfl] at eq
          refine ⟨_, rfl, _, 1, rfl, rfl, ?_⟩
          exact ⟨m + 1, _, rfl, rfl, by omega⟩
        · have e2 : us[m] ≠ z := fun e => c2 (decide_eq_true (by rw [e]))
          rw [hg, if_neg fun e => e2 (Option.some.inj e)] at eq
          exact ⟨m, _, rfl, rfl, eq⟩
      · have c : ¬ ((m : Int) < ((us.map V.str).length : Nat)) := fun z => c (decide_eq_true z)
        rw [List.length_map] at c
        rw [List.getElem?_eq_none (by omega), if_neg fun e => nomatch e] at eq
        exact ⟨m, _, rfl, rfl, eq⟩
    · rintro σ H' ⟨m, d, rfl, rfl, eq⟩
      rw [List.length_map, List.drop_length, Kf.beg_nil, Nat.add_zero] at eq
      refine ⟨_, rfl, ?_⟩
      rw [eq]
      exact q
theorem scRowBy : FnScope ["view", "row", "found", "deed"] ["view", "row"] (defScope sRowBy) := ⟨rfl, rfl, rfl, by decide +kernel, rfl, by decide +kernel, by decide +kernel⟩
def spRowBy (K : PySem.W.Frag) : Sp := fun vs H Q _ => ∃ (d b : Addr) (M : MK) (zs : List Str), vs = [.ref d, .ref b] ∧ Rd H d (.dK (kvM M)) ∧ Stand H M ∧ Fit M ∧ SqT K H b (zs.map V.str) ∧ (∀ z ∈ zs, z ∈ M.map (·.1)) ∧ zs.length ≤ 1000 ∧
  ∀ (H' : Hp) (p : Addr), Same H H' → H p = none → H' p = some (.tup ((Kf.mad (pm M) zs).map V.str)) → Q (.ref p) H'
theorem ok_rowBy {f : Addr} {fd : FuncData} (F : Fun K "row_by" "row_by" sRowBy f fd) (mt : mg "tuple" = none) : FnOk P w K mg base CX0 1 f fd ["view", "row"] (spRowBy K) := by
  refine F.ok scRowBy (fun vs H Q E h => ?_) (fun cdv A outer s H vs Q E hr h => ?_)
  · obtain ⟨d, b, M, zs, rfl, _⟩ := h
    rfl
  · obtain ⟨d, b, M, zs, rfl, hd, hM, ft, hB, hin, hz, q⟩ := h
    refine ⟨_, pss_cons (ps_set (i := 2) scRowBy.nd rfl (.inl rfl) (pe_lst pa_nil))
      (pss_cons (ps_for PassesOwn.never rfl (pi_tup (pv 1)) (pg_name (i := 3) scRowBy.nd rfl (.inl rfl))
        (pss_one (ps_expr (pe_bm PySem.F.plainAttrs_list PySem.F.slot_list_extend PySem.F.type_list_extend Ka.mt_extT (pv 2) (pa_cons (pe_dget (hu_of hr) (pv 0) (pv 3) (fun _ _ => rfl)) pa_nil)))))
      (pss_one (ps_ret (pe_callTy call_tuple_of (by rfl) mt (by decide +kernel) (pa_cons (pv 2) pa_nil))))), ?_⟩
    refine ⟨Nat.zero_le _, fun o no => ?_⟩
    refine ⟨.ref b, rfl, b, rfl, ⟨_, Same.sqT (same_new no) hB⟩, ?_⟩
    refine for_tup (K := K) (a := b) (xs := zs.map V.str) (fun i σ H' => ∃ (x : Option V), σ = [some (.ref d), some (.ref b), some (.ref o), x] ∧ Same H H' ∧ H' o = some (.lst ((Kf.mad (pm M) (zs.take i)).map V.str)))
      ⟨none, rfl, same_new no, upd_same⟩ (fun i σ H' _ ⟨_, _, s, _⟩ => Same.sqT s hB) ?_ ?_
    · rintro i x σ H' hx ⟨y, rfl, sm, eo⟩
      obtain ⟨z, hz2, rfl⟩ := get_map hx
      obtain ⟨t, ht, rfl⟩ := name_M (hin z (List.mem_of_getElem? hz2))
      have hlen := mad_len ft (zs := zs.take i) fun x hx => hin x (List.mem_of_mem_take hx)
      have hr5 := ft.rows t ht
      refine ⟨.ref o, rfl, .inl ⟨rfl, _, sqL_new eo⟩, .ref d, rfl, .str t.1, rfl, d, _, rfl, get_M (Rd.mono hd sm) ft.nd ht, ?_⟩
      refine ⟨o, t.2.1, _, _, rfl, rfl, eo, sqT_new (sm _ _ (hM t ht)), ?_, ?_⟩
      · rw [List.length_map, List.length_map]
        refine smallE ?_
        rw [List.length_take] at hlen
        omega
      · refine ⟨_, rfl, fun c u e => ?_, ?_⟩
        · rw [upd_ne (ne_of_none e no)]
          exact sm c u e
        · rw [upd_same, take_of_get hz2, Kf.mad_snoc, look_M ft.nd ht, List.map_append]
    · rintro σ H' ⟨y, rfl, sm, eo⟩
      rw [List.length_map, List.take_length] at eo
      refine ⟨_, rfl, o, _, rfl, .inl ⟨sqL_new eo, fun l nl => ?_⟩⟩
      exact q _ l (sm.trans (same_new nl)) (sm.free nl) upd_same
theorem scMade : FnScope ["making", "row"] ["making", "row"] (defScope sMade) := ⟨rfl, rfl, rfl, by decide +kernel, rfl, by decide +kernel, by decide +kernel⟩
theorem ok_made {f fR : Addr} {fd fdR : FuncData} (F : Fun K "made_row" "made_row" sMade f fd) (FR : Fun K "row_by" "row_by" sRowBy fR fdR) (bR : Binds K fdR ["view", "row"] []) (gR : mg "row_by" = some (.ref fR)) (mt : mg "tuple" = none) : FnOk P w K mg base CX0 2 f fd ["making", "row"] (spRowBy K) := by
  have GR : FnOk P w K mg base CX0 1 fR fdR ["view", "row"] (spRowBy K) := ok_rowBy FR mt
  refine F.ok scMade (fun vs H Q E h => ?_) (fun cdv A outer s H vs Q E hr h => ?_)
  · obtain ⟨d, b, M, zs, rfl, _⟩ := h
    rfl
  · obtain ⟨d, b, M, zs, rfl, rest⟩ := h
    refine ⟨_, pss_one (ps_ret (pe_call GR hr (by rfl) gR FR.kp bR .nil pass0 (pa_cons (pv 0) (pa_cons (pv 1) pa_nil)))), ?_⟩
    exact ⟨.ref d, rfl, .ref b, rfl, d, b, M, zs, rfl, rest⟩
theorem scCheckC : FnScope ["making", "u", "v"] ["making", "u", "v"] (defScope sCheckC) := ⟨rfl, rfl, rfl, by decide +kernel, rfl, by decide +kernel, by decide +kernel⟩
def spCheckC (K : PySem.W.Frag) : Sp := fun vs H Q _ => ∃ (d a b : Addr) (M : MK) (us zs : List Str), vs = [.ref d, .ref a, .ref b] ∧ Rd H d (.dK (kvM M)) ∧ Stand H M ∧ Fit M ∧ SqT K H a (us.map V.str) ∧ SqT K H b (zs.map V.str) ∧ (∀ z ∈ us, z ∈ M.map (·.1)) ∧ (∀ z ∈ zs, z ∈ M.map (·.1)) ∧ us.length ≤ 1000 ∧ zs.length ≤ 1000 ∧
  ∀ (H' : Hp), Same H H' → Q (.bl (Kf.lies (Kf.mad (pm M) us) (Kf.mad (pm M) zs) && !Kf.lies us zs)) H'
theorem ok_checkC {f fM fR fW : Addr} {fd fdM fdR fdW : FuncData} (F : Fun K "check_couple" "check_couple" sCheckC f fd) (FM : Fun K "made_row" "made_row" sMade fM fdM) (bM : Binds K fdM ["making", "row"] []) (gM : mg "made_row" = some (.ref fM)) (FR : Fun K "row_by" "row_by" sRowBy fR fdR) (bR : Binds K fdR ["view", "row"] []) (gR : mg "row_by" = some (.ref fR))
    (FW : Fun K "within" "within" sWithin fW fdW) (bW : Binds K fdW ["u", "v"] []) (gW : mg "within" = some (.ref fW)) (mt : mg "tuple" = none) (mi : mg "iter" = none) : FnOk P w K mg base CX0 3 f fd ["making", "u", "v"] (spCheckC K) := by
  have GM : FnOk P w K mg base CX0 2 fM fdM ["making", "row"] (spRowBy K) := ok_made FM FR bR gR mt
  have GW : FnOk P w K mg base CX0 1 fW fdW ["u", "v"] (spWithin K) := ok_within FW mi
  refine F.ok scCheckC (fun vs H Q E h => ?_) (fun cdv A outer s H vs Q E hr h => ?_)
  · obtain ⟨d, a, b, M, us, zs, rfl, _⟩ := h
    rfl
  · obtain ⟨d, a, b, M, us, zs, rfl, hd, hM, ft, hA, hB, hu, hv, lu, lv, q⟩ := h
    refine ⟨_, pss_one (ps_ret (pe_and (pe_call GW (hr.mono (by decide)) (by rfl) gW FW.kp bW .nil pass0 (pa_cons (pe_call GM hr (by rfl) gM FM.kp bM .nil pass0 (pa_cons (pv 0) (pa_cons (pv 1) pa_nil))) (pa_cons (pe_call GM hr (by rfl) gM FM.kp bM .nil pass0 (pa_cons (pv 0) (pa_cons (pv 2) pa_nil))) pa_nil)))
      (pe_one (pe_not (pe_call GW (hr.mono (by decide)) (by rfl) gW FW.kp bW .nil pass0 (pa_cons (pv 1) (pa_cons (pv 2) pa_nil))))))), ?_⟩
    refine ⟨.ref d, rfl, .ref a, rfl, d, a, M, us, rfl, hd, hM, ft, hA, hu, lu, fun H1 p s1 np ep => ?_⟩
    refine ⟨.ref d, rfl, .ref b, rfl, d, b, M, zs, rfl, Rd.mono hd s1, hM.mono s1, ft, Same.sqT s1 hB, hv, lv, fun H2 r s2 nr er => ?_⟩
    have s12 := s1.trans s2
    refine ⟨p, r, _, _, rfl, sqT_new (s2 _ _ ep), sqT_new er, fun H3 s3 => ?_⟩
    have s13 := s12.trans s3
    rw [sub_lies]
    cases hb : Kf.lies (Kf.mad (pm M) us) (Kf.mad (pm M) zs) with
    | false =>
      rw [hb, Bool.false_and] at q
      exact ⟨false, rfl, q H3 s13⟩
    | true =>
      rw [hb, Bool.true_and] at q
      refine ⟨true, rfl, ?_⟩
      refine ⟨.ref a, rfl, .ref b, rfl, a, b, us, zs, rfl, Same.sqT s13 hA, Same.sqT s13 hB, fun H4 s4 => ?_⟩
      rw [sub_lies]
      exact ⟨_, rfl, q H4 (s13.trans s4)⟩
end
end Kb
namespace Kb
open PySem PySem.Spec PyProof.Rows L2
theorem walk_rr {a b : Int} {m : Nat} (ha : a = 0) (hb : b = (m : Int)) : Walk (Itc (a + (((b - a).toNat : Nat) : Int) - 1) (-1) (b - a).toNat) m (fun _ => True) (fun i H x H' => H' = H ∧ x = .int ((m - 1 - i : Nat) : Int)) := by
  have e : (b - a).toNat = m := by omega
  rw [e]
  refine walk_rangeC.mono (fun _ h => h) fun i H x H' hi _ y => ⟨y.1, ?_⟩
  rw [y.2]
  show V.int (a + (m : Int) - 1 + (i : Int) * (-1)) = _
  congr 1
  omega
theorem atI_m1 {α : Type} {xs : List α} {k : Nat} {v : α} (hl : xs.length = k + 1) (h : xs[k]? = some v) : atI xs (-1) = some v := by
  have e : xs = xs.take k ++ [v] := by
    rw [← take_of_get h, List.take_of_length_le (Nat.le_of_eq hl)]
  rw [e]
  exact atI_last _ _
end Kb
namespace Kb
open PySem PySem.Spec PyProof.Rows L2
abbrev nFc : List Str := ["making", "row", "fewest", "place", "deed", "ontos", "found", "left", "rests", "onto", "one"]
theorem filt_yes {α : Type} {p : α → Bool} {l : List α} {x : α} (h : p x = true) : (l ++ [x]).filter p = l.filter p ++ [x] := by
  rw [List.filter_append, List.filter_cons_of_pos h, List.filter_nil]
theorem filt_no {α : Type} {p : α → Bool} {l : List α} {x : α} (h : p x = false) : (l ++ [x]).filter p = l.filter p := by
  rw [List.filter_append, List.filter_cons_of_neg (by rw [h]; exact Bool.false_ne_true), List.filter_nil, List.append_nil]
theorem natV_int (l : List Nat) : natV l = (l.map fun (i : Nat) => (i : Int)).map V.int := by
  unfold natV
  rw [List.map_map]
  rfl
/-- a dict by a function of its keys -/
def fnKV (g : Str → V) (l : List Str) : List (L2.Key × V) := l.map fun y => (Sum.inr y, g y)
theorem valV_fn {g : Str → V} {y : Str} : ∀ {l : List Str}, y ∈ l → valV (fnKV g l) (Sum.inr y : L2.Key) = some (g y)
  | [], h => nomatch h
  | x :: l, h => by
    show ((((Sum.inr x : L2.Key), g x) :: fnKV g l).find? fun kv => decide (kv.1 = (Sum.inr y : L2.Key))).map (·.2) = _
    rw [List.find?_cons]
    by_cases e : x = y
    · subst e
      rw [decide_eq_true rfl]
      rfl
    · rw [decide_eq_false (fun z => e (Sum.inr.inj z))]
      exact valV_fn ((List.mem_cons.mp h).resolve_left fun z => e z.symm)
theorem fnKV_add {g : Str → V} {l : List Str} {y : Str} (h : y ∉ l) : putK (fnKV g l) (Sum.inr y : L2.Key) (g y) = fnKV g (l ++ [y]) := by
  rw [putK_new]
  · unfold fnKV
    rw [List.map_append]
    rfl
  · unfold fnKV
    rw [List.map_map]
    intro z
    obtain ⟨x, hx, e⟩ := List.mem_map.mp z
    exact h (Sum.inr.inj e ▸ hx)
theorem not_before {α : Type} {l : List α} {i : Nat} {x : α} (nd : l.Nodup) (h : l[i]? = some x) : x ∉ l.take i := by
  intro z
  obtain ⟨j, hj⟩ := List.getElem?_of_mem z
  rw [List.getElem?_take] at hj
  split at hj
  · have := (List.getElem?_inj (lt_of_get hj) nd).mp (hj.trans h.symm)
    omega
  · cases hj
section
variable {P : Program} {w : World} {K : PySem.W.Frag} {mg : Str → Option Value} {base : Heap}
theorem scFirstC : FnScope nFc ["making", "row"] (defScope sFirstC) := ⟨rfl, rfl, rfl, by decide +kernel, rfl, by decide +kernel, by decide +kernel⟩
def spFirstC (K : PySem.W.Frag) : Sp := fun vs H Q _ => ∃ (d b : Addr) (M : MK) (us ns : List Str), vs = [.ref d, .ref b] ∧ H d = some (.dK (kvM M)) ∧ Stand H M ∧ Fit M ∧ SqT K H b (us.map V.str) ∧ us.length ≤ 5 ∧ (∀ x ∈ us, ∃ t ∈ M, x ∈ t.2.2) ∧ sortedS ns = true ∧ ns.Perm (M.map (·.1)) ∧
  ∀ (H' : Hp) (p : Addr) (n : Nat), Same H H' → H p = none → H' p = some (.tup ((Kf.gre (pm M) ns n us).map V.str)) → Kf.Least (pm M) ns n us → n ≤ 5 → Q (.ref p) H'
theorem ok_firstC {f fB : Addr} {fd fdB : FuncData} (F : Fun K "first_cover" "first_cover" sFirstC f fd) (FB : Fun K "begun" "begun" sBegun fB fdB) (bB : Binds K fdB ["row", "other"] []) (gB : mg "begun" = some (.ref fB)) (ms : mg "sorted" = none) (mt : mg "tuple" = none) (ml : mg "len" = none) (mr : mg "range" = none) (mv : mg "reversed" = none) (mm : mg "min" = none) :
    FnOk P w K mg base CX0 2 f fd ["making", "row"] (spFirstC K) := by
  have GB : FnOk P w K mg base CX0 1 fB fdB ["row", "other"] (spBegun K) := ok_begun FB ml
  refine F.ok scFirstC (fun vs H Q E h => ?_) (fun cdv A outer s H vs Q E hr h => ?_)
  · obtain ⟨d, b, M, us, ns, rfl, _⟩ := h
    rfl
  · obtain ⟨d, b, M, us, ns, rfl, hd, hM, ft, hB, hu, hin, srt, perm, q⟩ := h
    refine ⟨_, pss_cons (ps_set (i := 2) scFirstC.nd rfl (.inr rfl) (pe_lst (pa_cons pe_int pa_nil)))
      (pss_cons (ps_for PassesOwn.never rfl (pi_revR (by rfl) mv (prg_1 (by rfl) mr (pe_callB call_len_seq (by rfl) ml PySem.boot_len (pa_cons (pv 1) pa_nil)))) (pg_name (i := 3) scFirstC.nd rfl (.inr rfl))
        (pss_cons (ps_lock (ps_setLc (i := 5) (own := [("deed", 4)]) (g := gName 4) (tt := tYes) rfl scFirstC.nd rfl rfl (sw_true rfl rfl rfl rfl) (pi_keys (pv 0)) (blkOk_by (own := [("deed", 4)]) (N := nFc) (sc := defScope sFirstC) (by decide +kernel)) (fun _ _ _ _ _ => pg_name (i := 4) scFirstC.nd rfl (Or.inl rfl)) (fun _ _ _ _ _ => pts_nil)
            (fun _ _ _ _ _ => pe_op op_add (pv 3) (pe_call GB hr (by rfl) gB FB.kp bB .nil pass0 (pa_cons (pe_slice (slA_at (K := K) rfl) (pv 1) (po_some (pv 3)) po_none) (pa_cons (pe_dget (hu_of hr) (pv 0) (pv 4) (fun _ _ => rfl)) pa_nil))))))
        (pss_one (ps_expr (pe_bm PySem.F.plainAttrs_list PySem.F.slot_list_append PySem.F.type_list_append mt_append (pv 2) (pa_cons (pe_op op_add pe_int (pe_callB (cr_min rfl) (by rfl) mm (by decide +kernel) (pa_cons
          (pe_lc (own := [("onto", 9)]) (g := gName 9) rfl scFirstC.nd (pi_list (pv 5)) (blkOk_by (own := [("onto", 9)]) (N := nFc) (sc := defScope sFirstC) (by decide +kernel)) (fun _ _ _ _ _ => pg_name (i := 9) scFirstC.nd rfl (Or.inl rfl)) (fun _ _ _ _ _ => pts_one (pt_cmpR op_gt (pv 9) (pv 3) (nomark _)))
            (fun _ _ _ _ _ => pe_ix (ixL_at (K := K) rfl) (pv 2) (pe_op op_sub (pe_callB (len_at (K := K) rfl) (by rfl) ml PySem.boot_len (pa_cons (pv 1) pa_nil)) (pv 9)) (fun _ _ => rfl))) pa_nil))) pa_nil))))))
      (pss_cons (ps_set (i := 6) scFirstC.nd rfl (.inl rfl) (pe_lst pa_nil))
      (pss_cons (ps_set (i := 7) scFirstC.nd rfl (.inr rfl) (pe_callB call_len_seq (by rfl) ml PySem.boot_len (pa_cons (pv 1) pa_nil)))
      (pss_cons (ps_while PassesOwn.never (pt_truth (pv 7) (by intro _; rfl))
        (pss_cons (ps_set (i := 8) scFirstC.nd rfl (.inr rfl) (pe_dc (own := [("deed", 4)]) (g := gName 4) (tt := tYes) rfl scFirstC.nd (pi_list (pe_callB (call_sortedD rfl) (by rfl) ms (by decide +kernel) (pa_cons (pv 0) pa_nil))) (blkOk_by (own := [("deed", 4)]) (N := nFc) (sc := defScope sFirstC) (by decide +kernel)) (fun _ _ _ _ _ => pg_name (i := 4) scFirstC.nd rfl (Or.inl rfl)) (fun _ _ _ _ _ => pts_nil)
            (fun _ _ _ _ _ => pv 4) (fun _ _ _ _ _ => pe_op op_sub (pv 7) (pe_call GB hr (by rfl) gB FB.kp bB .nil pass0 (pa_cons (pe_slice (slA_at (K := K) rfl) (pv 1) (po_some (pe_op op_sub (pe_callB (len_at (K := K) rfl) (by rfl) ml PySem.boot_len (pa_cons (pv 1) pa_nil)) (pv 7))) po_none) (pa_cons (pe_dget (hu_of hr) (pv 0) (pv 4) (fun _ _ => rfl)) pa_nil))))))
        (pss_cons (ps_set (i := 4) scFirstC.nd rfl (.inl rfl) (pe_ix ix_list (pe_lock (pe_lc (own := [("one", 10)]) (g := gName 10) rfl scFirstC.nd (pi_keys (pv 8)) (blkOk_by (own := [("one", 10)]) (N := nFc) (sc := defScope sFirstC) (by decide +kernel)) (fun _ _ _ _ _ => pg_name (i := 10) scFirstC.nd rfl (Or.inl rfl))
            (fun _ _ _ _ _ => pts_one (pt_cmpR op_eq (pe_ix (ixL_at (K := K) rfl) (pv 2) (pe_dget (hu_of hr) (pv 8) (pv 10) (fun _ _ => rfl)) (fun _ _ => rfl)) (pe_op op_sub (pe_ix (ixL_at (K := K) rfl) (pv 2) (pv 7) (fun _ _ => rfl)) pe_int) (nomark _))) (fun _ _ _ _ _ => pv 10))) pe_int (fun _ _ => rfl)))
        (pss_cons (ps_expr (pe_bm PySem.F.plainAttrs_list PySem.F.slot_list_append PySem.F.type_list_append mt_append (pv 6) (pa_cons (pv 4) pa_nil)))
        (pss_one (ps_set (i := 7) scFirstC.nd rfl (.inr rfl) (pe_dget (hu_of hr) (pv 8) (pv 4) (fun _ _ => rfl))))))))
      (pss_one (ps_ret (pe_callTy call_tuple_of (by rfl) mt (by decide +kernel) (pa_cons (pv 6) pa_nil)))))))), ?_⟩
    have lenU : ((us.map V.str).length : Nat) = us.length := List.length_map _
    refine ⟨smallE (show 1 ≤ 1000000 by decide), fun o no => ?_⟩
    have s0 : Same H (upd H o (.lst [V.int 0])) := same_new no
    generalize hH1 : upd H o (.lst [V.int 0]) = H1 at s0
    have o1 : H1 o = some (.lst (natV [0])) := by rw [← hH1]; exact upd_same
    have hdo : d ≠ o := ne_of_none hd no
    have up : ∀ {G : Hp}, But o H1 G → Same H G := fun k c u e => k c u (ne_of_none e no) (s0 c u e)
    refine ⟨.ref b, rfl, b, _, rfl, .inr (Same.sqT s0 hB), _, rfl, by decide, by decide, by omega, by rw [lenU]; omega, ?_⟩
    refine for_it (walk_rr (m := us.length) rfl (by rw [lenU])) (fun t σ H' => ∃ (fs : List Nat) (x3 x4 x5 : Option V), σ = [some (.ref d), some (.ref b), some (.ref o), x3, x4, x5, none, none, none, none, none] ∧ But o H1 H' ∧ H' o = some (.lst (natV fs)) ∧ fs.length = t + 1 ∧ ∀ j, j ≤ t → Kf.Least (pm M) ns (fs.getD j 0) (Kf.suf us j))
      ⟨[0], none, none, none, rfl, But.refl, o1, rfl, fun j hj => ?_⟩ (fun _ _ _ _ _ => True.intro) (fun t x σ H9 H' ht hPv yy => ?_) (fun σ H' hPv => ?_)
    · obtain rfl : j = 0 := by omega
      rw [Kf.suf_zero]
      exact Kf.least_zero (pm M) ns
    · obtain ⟨fs, x3, x4, x5, rfl, k, eo, hl, hL⟩ := hPv
      obtain ⟨e9, rfl⟩ := yy
      subst e9
      have sm := up k
      obtain ⟨pl, hpl⟩ : ∃ pl, pl = us.length - 1 - t := ⟨_, rfl⟩
      rw [← hpl]
      have hsuf : Kf.suf us (t + 1) = us.drop pl := by
        unfold Kf.suf
        congr 1
        omega
      refine ⟨d, _, sm _ _ hd, True.intro, fun od => ?_⟩
      generalize hL0 : upd H' d (.frz od (.dK (kvM M))) = L
      have kL : But d H' L := by rw [← hL0]; exact But.upd
      have fL : L d = some (.frz od (.dK (kvM M))) := by rw [← hL0]; exact upd_same
      have ML : Stand L M := fun t ht => kL _ _ (fun e => by
        have := hM t ht
        rw [e, hd] at this
        cases this) (sm _ _ (hM t ht))
      have BL : ∀ {G : Hp}, Same L G → SqT K G b (us.map V.str) := fun sG => by
        have : ∀ c u, H c = some u → c ≠ d → L c = some u := fun c u e hc => kL c u hc (sm c u e)
        rcases hB with (h | ⟨ob, h⟩) | h
        · exact .inl (.inl (sG _ _ (this _ _ h (fun e => by rw [e, hd] at h; cases h))))
        · exact .inl (.inr ⟨ob, sG _ _ (this _ _ h (fun e => by rw [e, hd] at h; cases h))⟩)
        · exact .inr h
      refine ⟨.ref d, rfl, d, od, rfl, .inl ⟨kvM M, fL, fun D nD => ?_⟩⟩
      refine lc_it (walk_keys (d := d) (o := od) (kvs := kvM M)) (fun i G => Same L G ∧ G D = some (.lst (natV ((M.take i).map fun t2 => pl + Kf.beg (us.drop pl) t2.2.2)))) ⟨same_new nD, upd_same⟩ (fun i G _ h => h.1 _ _ fL) (fun i x G G' hi h y => ?_) (fun G h => ?_)
      · obtain ⟨rfl, ky, va, hkv, rfl⟩ := y
        obtain ⟨t2, ht2, ekv⟩ := get_map hkv
        cases ekv
        have htM := List.mem_of_getElem? ht2
        obtain ⟨sG, eD⟩ := h
        refine ⟨rfl, .int (pl : Nat), rfl, .ref b, rfl, .int (pl : Nat), rfl, _, rfl, ?_⟩
        dsimp only [tNoPart]
        refine slA_dropR (BL sG) fun G2 p2 s2 hp2 => ?_
        have sG2 := sG.trans s2
        refine ⟨.ref d, rfl, .str t2.1, rfl, d, _, rfl, get_M (.inr ⟨od, sG2 _ _ fL⟩) ft.nd htM, p2, t2.2.1, us.drop pl, t2.2.2, rfl, hp2, sqT_new (sG2 _ _ (ML t2 htM)), ?_⟩
        refine ⟨_, _, rfl, rfl, _, s2 _ _ eD, ?_, fun c u e => ?_, ?_⟩
        · rw [natV_len, List.length_map, List.length_take]
          have := ft.few
          exact small (by omega)
        · rw [upd_ne (ne_of_none e nD)]
          exact sG2 c u e
        · rw [upd_same, take_of_get ht2, List.map_append]
          unfold natV
          rw [List.map_append]
          rfl
      · obtain ⟨sG, eD⟩ := h
        rw [kvM_len, List.take_length] at eD
        refine ⟨sG _ _ fL, ?_⟩
        have hDd : D ≠ d := fun e => by rw [e, fL] at nD; cases nD
        have hDo : D ≠ o := fun e => by
          rw [e, kL _ _ (Ne.symm hdo) eo] at nD
          cases nD
        have sU : Same H' (upd G d (.dK (kvM M))) := unlock (sm _ _ hd) (kL.trans (But.of sG))
        have eDu : upd G d (.dK (kvM M)) D = some (.lst (natV (M.map fun t2 => pl + Kf.beg (us.drop pl) t2.2.2))) := by
          rw [upd_ne hDd]
          exact eD
        generalize upd G d (.dK (kvM M)) = U at sU eDu
        have sHU := sm.trans sU
        have hBU := Same.sqT sHU hB
        have eoU := sU _ _ eo
        refine ⟨.ref o, rfl, .inl ⟨rfl, _, sqL_new eoU⟩, ?_⟩
        refine ⟨.ref D, rfl, D, rfl, ⟨_, sqL_new eDu⟩, fun D2 nD2 => ?_⟩
        refine lc_it (walk_list (K := K) (a := D) (xs := natV (M.map fun t2 => pl + Kf.beg (us.drop pl) t2.2.2))) (fun i G => Same U G ∧ G D2 = some (.lst (natV (((M.take i).filter fun t2 => decide (0 < Kf.beg (us.drop pl) t2.2.2)).map fun t2 => fs.getD (t + 1 - Kf.beg (us.drop pl) t2.2.2) 0))))
          ⟨same_new nD2, upd_same⟩ (fun i G _ h => h.1.seq (sqL_new eDu)) (fun i x Z Z' hi h y => ?_) (fun Z h => ?_)
        · obtain ⟨rfl, hx⟩ := y
          obtain ⟨sZ, eD2⟩ := h
          unfold natV at hx
          rw [List.map_map] at hx
          obtain ⟨t2, ht2, rfl⟩ := get_map hx
          have htM := List.mem_of_getElem? ht2
          have hb5 : Kf.beg (us.drop pl) t2.2.2 ≤ t + 1 := by
            have := Kf.beg_le (us.drop pl) t2.2.2
            rw [List.length_drop] at this
            omega
          refine ⟨rfl, .int ((pl + Kf.beg (us.drop pl) t2.2.2 : Nat) : Int), rfl, .int (pl : Nat), rfl, _, _, rfl, rfl, _, rfl, ite2 (fun c => ?_) (fun c => ?_)⟩
          · have c : 0 < Kf.beg (us.drop pl) t2.2.2 := by
              have := of_decide_eq_true c
              omega
            have hg : fs[t + 1 - Kf.beg (us.drop pl) t2.2.2]? = some (fs.getD (t + 1 - Kf.beg (us.drop pl) t2.2.2) 0) := by
              rw [List.getD_eq_getElem?_getD, List.getElem?_eq_getElem (by omega)]
              rfl
            refine ⟨.ref o, rfl, .ref b, rfl, b, _, rfl, .inr (Same.sqT sZ hBU), .int ((pl + Kf.beg (us.drop pl) t2.2.2 : Nat) : Int), rfl, _, _, rfl, rfl, ?_⟩
            refine ⟨o, natV fs, _, _, rfl, rfl, sqL_new (sZ _ _ eoU), at_of (j := t + 1 - Kf.beg (us.drop pl) t2.2.2) ?_ (natV_get hg), ?_⟩
            · rw [lenU]
              omega
            · refine ⟨_, eD2, ?_, fun c u e => ?_, ?_⟩
              · rw [natV_len, List.length_map]
                have := List.length_filter_le (fun t2 => decide (0 < Kf.beg (us.drop pl) t2.2.2)) (M.take i)
                rw [List.length_take] at this
                have := ft.few
                exact small (by omega)
              · rw [upd_ne (ne_of_none e nD2)]
                exact sZ c u e
              · rw [upd_same, take_of_get ht2, filt_yes (p := fun t2 : Str × Addr × List Str => decide (0 < Kf.beg (us.drop pl) t2.2.2)) (x := t2) (decide_eq_true c), List.map_append]
                unfold natV
                rw [List.map_append]
                rfl
          · have c : ¬ 0 < Kf.beg (us.drop pl) t2.2.2 := fun z => c (decide_eq_true (by omega))
            refine ⟨sZ, ?_⟩
            rw [take_of_get ht2, filt_no (p := fun t2 : Str × Addr × List Str => decide (0 < Kf.beg (us.drop pl) t2.2.2)) (x := t2) (decide_eq_false c)]
            exact eD2
        · obtain ⟨sZ, eD2⟩ := h
          rw [natV_len, List.length_map, List.take_length, natV_int] at eD2
          have hpl2 : pl < us.length := by omega
          obtain ⟨tx, htx, hxx⟩ := hin us[pl] (List.getElem_mem hpl2)
          have hbx : 0 < Kf.beg (us.drop pl) tx.2.2 := by
            rw [List.drop_eq_getElem_cons hpl2]
            exact Kf.beg_pos hxx
          refine ⟨D2, _, rfl, sqL_new eD2, ?_, fun mn hmn hle => ?_⟩
          · rw [List.length_map]
            exact List.length_pos_of_mem (List.mem_map.mpr ⟨tx, List.mem_filter.mpr ⟨htx, decide_eq_true hbx⟩, rfl⟩)
          · obtain ⟨wn, hwn, rfl⟩ := List.mem_map.mp hmn
            obtain ⟨tw, htw, ew⟩ := List.mem_map.mp hwn
            obtain ⟨htw1, htw2⟩ := List.mem_filter.mp htw
            have htw2 := of_decide_eq_true htw2
            refine ⟨_, _, rfl, rfl, o, _, _, rfl, rfl, sZ _ _ eoU, ?_, ?_⟩
            · rw [natV_len, hl]
              exact small (by omega)
            · refine ⟨fs ++ [1 + wn], _, _, _, rfl, fun c u hc e => ?_, ?_, by rw [List.length_append, hl]; rfl, fun j hj => ?_⟩
              · rw [upd_ne hc]
                exact sZ _ _ (sU _ _ (k c u hc e))
              · rw [upd_same]
                unfold natV
                rw [List.map_append]
                rfl
              · by_cases hjt : j ≤ t
                · have : (fs ++ [1 + wn]).getD j 0 = fs.getD j 0 := by
                    rw [List.getD_eq_getElem?_getD, List.getD_eq_getElem?_getD, List.getElem?_append_left (by omega)]
                  rw [this]
                  exact hL j hjt
                · obtain rfl : j = t + 1 := by omega
                  have : (fs ++ [1 + wn]).getD (t + 1) 0 = 1 + wn := by
                    rw [List.getD_eq_getElem?_getD, List.getElem?_append_right (by omega), hl, Nat.sub_self]
                    rfl
                  rw [this]
                  have nameIn : ∀ tt ∈ M, tt.1 ∈ ns := fun tt h => perm.mem_iff.mpr (List.mem_map.mpr ⟨tt, h, rfl⟩)
                  refine Kf.least_step (pm M) ns (few := fun j => fs.getD j 0) (by omega) hL ⟨tw.1, nameIn tw htw1, ?_, ?_⟩ fun dd hdd hb => ?_
                  · rw [hsuf, look_M ft.nd htw1]
                    exact htw2
                  · rw [hsuf, look_M ft.nd htw1]
                    exact ew.symm
                  · obtain ⟨td, htd, rfl⟩ := name_M (perm.mem_iff.mp hdd)
                    rw [hsuf, look_M ft.nd htd] at hb ⊢
                    have := hle _ (List.mem_map.mpr ⟨_, List.mem_map.mpr ⟨td, List.mem_filter.mpr ⟨htd, decide_eq_true hb⟩, rfl⟩, rfl⟩)
                    omega
    · obtain ⟨fs, x3, x4, x5, rfl, k, eo, hl, hL⟩ := hPv
      have sm := up k
      have ndn : ns.Nodup := perm.nodup_iff.mpr ft.nd
      have hfew := Kf.least_le (pm M) ns (few := fun j => fs.getD j 0) (fun x hx => by
        obtain ⟨t, ht, hxt⟩ := hin x hx
        exact ⟨t.1, perm.mem_iff.mpr (List.mem_map.mpr ⟨t, ht, rfl⟩), by rw [look_M ft.nd ht]; exact hxt⟩) us.length (Nat.le_refl _) hL
      refine ⟨Nat.zero_le _, fun g ng => ?_⟩
      have sg : Same H' (upd H' g (.lst [])) := same_new ng
      have ngH : H g = none := sm.free ng
      generalize hH2 : upd H' g (.lst []) = H2 at sg
      have g2 : H2 g = some (.lst (([] : List Str).map V.str)) := by rw [← hH2]; exact upd_same
      have s2 := sm.trans sg
      have up2 : ∀ {G : Hp}, But g H2 G → Same H G := fun kk c u e => kk c u (ne_of_none e ngH) (s2 c u e)
      have hog : o ≠ g := ne_of_none eo ng
      refine ⟨.ref b, rfl, b, _, rfl, .inr (Same.sqT s2 hB), ?_⟩
      refine ⟨fun n σ H' => ∃ (x3 x4 x5 x8 : Option V) (zs : List Str), σ = [some (.ref d), some (.ref b), some (.ref o), x3, x4, x5, some (.ref g), some (.int (n : Nat)), x8, none, none] ∧ But g H2 H' ∧ H' g = some (.lst (zs.map V.str)) ∧ n ≤ us.length ∧ zs.length + n ≤ us.length ∧
          zs ++ Kf.gre (pm M) ns (fs.getD n 0) (Kf.suf us n) = Kf.gre (pm M) ns (fs.getD us.length 0) us, ⟨us.length, x3, x4, x5, none, [], ?_, But.refl, g2, Nat.le_refl _, ?_, ?_⟩, ?_⟩
      · rw [lenU]
        rfl
      · exact Nat.le_of_eq (Nat.zero_add _)
      · rw [Kf.suf_all]
        rfl
      rintro n σ H3 ⟨x3, x4, x5, x8, zs, rfl, k3, eg, hn, hz, hcat⟩
      have s3 := up2 k3
      have eo3 := k3 _ _ hog (sg _ _ eo)
      refine ⟨.int (n : Nat), rfl, ((n : Int) != 0), rfl, ?_⟩
      cases n with
      | zero =>
        rw [if_neg (by decide)]
        have f0 : fs.getD 0 0 = 0 := by
          have := hL 0 (Nat.zero_le _)
          rw [Kf.suf_zero] at this
          exact Kf.least_uniq (pm M) ns this (Kf.least_zero (pm M) ns)
        rw [f0, Kf.gre, List.append_nil] at hcat
        refine ⟨.ref g, rfl, g, _, rfl, .inl ⟨sqL_new eg, fun l nl => ?_⟩⟩
        refine q _ l (fs.getD us.length 0) (s3.trans (same_new nl)) (s3.free nl) (by rw [upd_same, hcat]) ?_ (Nat.le_trans hfew hu)
        have := hL us.length (Nat.le_refl _)
        rwa [Kf.suf_all] at this
      | succ k0 =>
        rw [if_pos (by rw [bne_iff_ne]; omega)]
        refine ⟨_, fun _ _ h => h, ?_⟩
        have hd3 := s3 _ _ hd
        have hsl : ((us.map V.str).length : Int) - ((k0 + 1 : Nat) : Int) = ((us.length - (k0 + 1) : Nat) : Int) := by
          rw [lenU]
          omega
        refine ⟨.ref d, rfl, d, _, M.map (·.1), rfl, .inl hd3, kvM_keys M, by rw [List.length_map]; have := ft.few; omega, fun ys p hp hs np => ?_⟩
        have eys : ys = ns := sorted_uniq hs srt (hp.trans perm.symm)
        subst eys
        have s4 : Same H3 (upd H3 p (.lst (ys.map V.str))) := same_new np
        have ep : upd H3 p (.lst (ys.map V.str)) p = some (.lst (ys.map V.str)) := upd_same
        generalize upd H3 p (.lst (ys.map V.str)) = H4 at s4 ep
        refine ⟨p, rfl, ⟨_, sqL_new ep⟩, fun D nD => ?_⟩
        have nlen : ys.length ≤ 4 := by
          rw [perm.length_eq, List.length_map]
          exact ft.few
        obtain ⟨gv, hgv⟩ : ∃ gv : Str → V, gv = fun y => V.int (((k0 + 1 : Nat) : Int) - (Kf.beg (Kf.suf us (k0 + 1)) (Kf.look (pm M) y) : Nat)) := ⟨_, rfl⟩
        have hbk : ∀ y, Kf.beg (Kf.suf us (k0 + 1)) (Kf.look (pm M) y) ≤ k0 + 1 := fun y => by
          have := Kf.beg_le (Kf.suf us (k0 + 1)) (Kf.look (pm M) y)
          rwa [Kf.suf_len hn] at this
        refine dcK_it (walk_list (K := K) (a := p) (xs := ys.map V.str)) (fun i G => Same H4 G ∧ G D = some (.dK (fnKV gv (ys.take i)))) ⟨same_new nD, upd_same⟩ (fun i G _ h => h.1.seq (sqL_new ep)) (fun i x Z Z' hi h y => ?_) (fun Z h => ?_)
        · obtain ⟨rfl, hx⟩ := y
          obtain ⟨sZ, eD⟩ := h
          obtain ⟨z, hz2, rfl⟩ := get_map hx
          obtain ⟨t2, ht2, rfl⟩ := name_M (perm.mem_iff.mp (List.mem_of_getElem? hz2))
          have sHZ := (s3.trans s4).trans sZ
          refine ⟨rfl, .str t2.1, rfl, .int ((k0 + 1 : Nat) : Int), rfl, .ref b, rfl, .ref b, rfl, b, _, rfl, .inr (Same.sqT sHZ hB), .int ((k0 + 1 : Nat) : Int), rfl, _, _, rfl, rfl, _, rfl, ?_⟩
          dsimp only [tNoPart]
          rw [hsl]
          refine slA_dropR (Same.sqT sHZ hB) fun G2 p2 s2' hp2 => ?_
          have sHG := sHZ.trans s2'
          refine ⟨.ref d, rfl, .str t2.1, rfl, d, _, rfl, get_M (.inl (sHG _ _ hd)) ft.nd ht2, p2, t2.2.1, us.drop (us.length - (k0 + 1)), t2.2.2, rfl, hp2, sqT_new (sHG _ _ (hM t2 ht2)), ?_⟩
          refine ⟨_, _, rfl, rfl, _, Sum.inr t2.1, rfl, s2' _ _ eD, ?_, fun c u e => ?_, ?_⟩
          · unfold fnKV
            rw [List.length_map, List.length_take]
            exact small (by omega)
          · rw [upd_ne (ne_of_none e nD)]
            exact s2' _ _ (sZ c u e)
          · rw [upd_same, take_of_get hz2]
            have ev : V.int (((k0 + 1 : Nat) : Int) - (Kf.beg (us.drop (us.length - (k0 + 1))) t2.2.2 : Nat)) = gv t2.1 := by
              rw [hgv]
              show _ = V.int _
              rw [look_M ft.nd ht2]
              rfl
            refine (congrArg (fun z => some (HO.dK (putK (fnKV gv (ys.take i)) (Sum.inr t2.1 : L2.Key) z))) ev).trans ?_
            rw [fnKV_add (not_before ndn hz2)]
        · obtain ⟨sZ, eD⟩ := h
          rw [List.length_map, List.take_length] at eD
          have s3Z := s4.trans sZ
          have eoZ := s3Z _ _ eo3
          have egZ := s3Z _ _ eg
          refine ⟨D, _, eD, True.intro, fun od => ?_⟩
          generalize hL0 : upd Z D (.frz od (.dK (fnKV gv ys))) = L
          have kL : But D Z L := by rw [← hL0]; exact But.upd
          have fL : L D = some (.frz od (.dK (fnKV gv ys))) := by rw [← hL0]; exact upd_same
          have hoD : o ≠ D := fun e => by rw [e, eD] at eoZ; cases eoZ
          have eoL := kL _ _ hoD eoZ
          refine ⟨.ref D, rfl, D, od, rfl, .inl ⟨_, fL, fun D2 nD2 => ?_⟩⟩
          obtain ⟨dd, bb, hfirst, hdd, hbb, hb0, hb1, hgre⟩ := Kf.gre_step (pm M) ys hn (few := fun j => fs.getD j 0) fun j hj => hL j (by omega)
          refine lc_it (walk_keys (d := D) (o := od) (kvs := fnKV gv ys)) (fun i G => Same L G ∧ G D2 = some (.lst (((ys.take i).filter fun y => decide (fs.getD (k0 + 1 - Kf.beg (Kf.suf us (k0 + 1)) (Kf.look (pm M) y)) 0 + 1 = fs.getD (k0 + 1) 0)).map V.str)))
            ⟨same_new nD2, upd_same⟩ (fun i G _ h => h.1 _ _ fL) (fun i x G G' hi h y => ?_) (fun G h => ?_)
          · obtain ⟨rfl, ky, va, hkv, rfl⟩ := y
            obtain ⟨sG, eD2⟩ := h
            obtain ⟨y, hy, ekv⟩ := get_map hkv
            cases ekv
            have hyM := List.mem_of_getElem? hy
            have gd : DGet G' D (.str y) (some (gv y)) := .inl ⟨_, Sum.inr y, .inr ⟨od, sG _ _ fL⟩, rfl, (valV_fn hyM).symm⟩
            have eoG := sG _ _ eoL
            have hb := hbk y
            have hg1 : fs[k0 + 1 - Kf.beg (Kf.suf us (k0 + 1)) (Kf.look (pm M) y)]? = some (fs.getD (k0 + 1 - Kf.beg (Kf.suf us (k0 + 1)) (Kf.look (pm M) y)) 0) := by
              rw [List.getD_eq_getElem?_getD, List.getElem?_eq_getElem (by omega)]
              rfl
            have hg2 : fs[k0 + 1]? = some (fs.getD (k0 + 1) 0) := by
              rw [List.getD_eq_getElem?_getD, List.getElem?_eq_getElem (by omega)]
              rfl
            refine ⟨rfl, .ref o, rfl, .ref D, rfl, .str y, rfl, D, gv y, rfl, gd, ?_⟩
            rw [hgv]
            refine ⟨o, natV fs, _, _, rfl, rfl, sqL_new eoG, at_of (j := k0 + 1 - Kf.beg (Kf.suf us (k0 + 1)) (Kf.look (pm M) y)) (by omega) (natV_get hg1), ?_⟩
            refine ⟨.ref o, rfl, .int ((k0 + 1 : Nat) : Int), rfl, o, natV fs, _, _, rfl, rfl, sqL_new eoG, atI_nat (natV_get hg2), _, _, rfl, rfl, rfl, _, rfl, ite2 (fun c => ?_) (fun c => ?_)⟩
            · have c := V.int.inj (of_decide_eq_true c)
              have c : decide (fs.getD (k0 + 1 - Kf.beg (Kf.suf us (k0 + 1)) (Kf.look (pm M) y)) 0 + 1 = fs.getD (k0 + 1) 0) = true := decide_eq_true (by omega)
              refine ⟨.str y, rfl, _, eD2, ?_, fun c' u e => ?_, ?_⟩
              · rw [List.length_map]
                have := List.length_filter_le (fun y => decide (fs.getD (k0 + 1 - Kf.beg (Kf.suf us (k0 + 1)) (Kf.look (pm M) y)) 0 + 1 = fs.getD (k0 + 1) 0)) (ys.take i)
                rw [List.length_take] at this
                exact small (by omega)
              · rw [upd_ne (ne_of_none e nD2)]
                exact sG c' u e
              · rw [upd_same, take_of_get hy, filt_yes (p := fun y => decide (fs.getD (k0 + 1 - Kf.beg (Kf.suf us (k0 + 1)) (Kf.look (pm M) y)) 0 + 1 = fs.getD (k0 + 1) 0)) (x := y) c, List.map_append]
                rfl
            · have c : decide (fs.getD (k0 + 1 - Kf.beg (Kf.suf us (k0 + 1)) (Kf.look (pm M) y)) 0 + 1 = fs.getD (k0 + 1) 0) = false := decide_eq_false fun z => c (decide_eq_true (by congr 1; omega))
              refine ⟨sG, ?_⟩
              rw [take_of_get hy, filt_no (p := fun y => decide (fs.getD (k0 + 1 - Kf.beg (Kf.suf us (k0 + 1)) (Kf.look (pm M) y)) 0 + 1 = fs.getD (k0 + 1) 0)) (x := y) c]
              exact eD2
          · obtain ⟨sG, eD2⟩ := h
            have hlen : (fnKV gv ys).length = ys.length := List.length_map _
            rw [hlen, List.take_length] at eD2
            refine ⟨sG _ _ fL, ?_⟩
            have hD2D : D2 ≠ D := fun e => by rw [e, fL] at nD2; cases nD2
            have sU : Same Z (upd G D (.dK (fnKV gv ys))) := unlock eD (kL.trans (But.of sG))
            have eD2u : upd G D (.dK (fnKV gv ys)) D2 = some (.lst ((ys.filter fun y => decide (fs.getD (k0 + 1 - Kf.beg (Kf.suf us (k0 + 1)) (Kf.look (pm M) y)) 0 + 1 = fs.getD (k0 + 1) 0)).map V.str)) := by
              rw [upd_ne hD2D]
              exact eD2
            generalize upd G D (.dK (fnKV gv ys)) = U at sU eD2u
            refine ⟨D2, _, 0, _, rfl, rfl, sqL_new eD2u, atI_nat (j := 0) (by rw [List.getElem?_map, hfirst]; rfl), ?_⟩
            refine ⟨.ref g, rfl, .inl ⟨rfl, _, sqL_new (sU _ _ egZ)⟩, .str dd, rfl, g, _, _, rfl, rfl, sU _ _ egZ, by rw [List.length_map]; exact small (by omega), ?_⟩
            have eDU := sU _ _ eD
            have hDg : D ≠ g := fun e => by rw [e, egZ] at eD; cases eD
            have gd : DGet (upd U g (.lst (zs.map V.str ++ [V.str dd]))) D (.str dd) (some (gv dd)) := .inl ⟨_, Sum.inr dd, .inl (by rw [upd_ne hDg]; exact eDU), rfl, (valV_fn hdd).symm⟩
            refine ⟨.ref D, rfl, .str dd, rfl, D, gv dd, rfl, gd, ?_⟩
            have egv : gv dd = V.int ((k0 + 1 - bb : Nat) : Int) := by
              rw [hgv]
              show V.int _ = _
              congr 1
              omega
            rw [egv]
            refine ⟨k0 + 1 - bb, by omega, _, _, _, _, zs ++ [dd], rfl, fun c u hc e => ?_, ?_, by omega, ?_, ?_⟩
            · rw [upd_ne hc]
              exact sU _ _ (s3Z _ _ (k3 c u hc e))
            · rw [upd_same, List.map_append]
              rfl
            · rw [List.length_append, List.length_singleton]
              omega
            · rw [← hcat, hgre, List.append_assoc]
              rfl
end
end Kb
/-! {k: v}, k a tuple of numbers and texts: one entry. -/
namespace Ka
open PySem PySem.Spec PyProof.Rows L2
/-- a display of one entry whose key is a tuple -/
def tDisp1T (tk tv : TE) : TE := fun σ H Q => ∀ p, H p = none → tk σ (upd H p (.dT [])) fun y H1 => tv σ H1 fun z H2 => ∃ (b : Addr) (k : List L2.Key), y = .ref b ∧ H2 b = some (.tup (k.map kV)) ∧ H2 p = some (.dT []) ∧ Q (.ref p) (upd H2 p (.dT [(k, z)]))
theorem pe_disp1T {X : Cx} {kx vx : Expr} {pos : Pos} {tk tv : TE} (hu : X.A.units + 1 < cLine) (hk : PE X kx tk) (hv : PE X vx tv) : PE X (.Dict [some kx] [vx] pos) (tDisp1T tk tv) := by
  refine ⟨fun pins s σ H Q I q => ?_⟩
  have hn := I.hok.fresh (Nat.le_refl s.heap.objs.size)
  have I1 := I.laid (a := s.heap.objs.size) (o := .dT []) (h' := s.heap.push { cls := .type "dict", data := .dict #[] }) (t' := s.toks) (fun _ _ q => Heap.get?_push_of_some _ q) (Nat.le_refl _) (dt_empty s.heap I.big)
  refine wpAny_Dict_any rfl rfl (fun z => by cases z) (show 1 ≤ 15 by decide) ?_
  refine pairTrees_cons_walk (thn (hk.run pins _ σ _ _ I1 (q _ hn)) fun u s1 ⟨y, H1, I1', ry, q1⟩ => thn (hv.run pins s1 σ H1 _ I1' q1) fun w2 s2 ⟨z, H2, I2, rz, b, k, ey, eb, ep, q2⟩ => pairTrees_nil_walk ?_)
  subst ey
  have e0 : ∀ (d : Addr) (vs : List (Value × Value)), storeAll d vs = forIn vs PUnit.unit fun (x : Value × Value) (_ : PUnit) => (do dictSet d x.1 x.2; pure (ForInStep.yield PUnit.unit) : Sem (ForInStep PUnit)) := fun _ _ => rfl
  rw [e0, List.forIn_cons]
  refine wpAny_bind (wpAny_bind (dT_set hu I2 ep (by rw [List.length_nil, sizeLine_eq]; decide) eb (show RelV (.ref b) u from ry) rz fun s' I' => wpAny_pure ?_))
  exact wpAny_pure ⟨.ref _, _, I', rfl, q2⟩
end Ka
/-! y = {k: v for ..} on one line. -/
namespace Ka
open PySem PySem.Spec PyProof.Rows L2
theorem sw_dc {kx vx : Expr} {gs : List Comprehension} {scope : Scope} {pos py : Pos} {y : Str} {l : Nat} {env : Env} (hk : env.scope.kind = .function) (hy : env.scope.names.lookup y = some .local) (hl : (py.line == pos.line) = true)
    (ha : (scope.names.any fun (n, k) => n == y && (k == .local || k == .cell)) = false) : swapsWith (.DictComp kx vx gs scope pos) (some (.Name y py)) l env = pure true := by
  have ky : env.kindOf y = some .local := hy
  have hb : env.blockKind = .function := by unfold Env.blockKind; rw [hk]; rfl
  unfold swapsWith
  simp only [hb, ky, ha, Expr.pos, hl]
  rfl
theorem ps_setDc {X : Cx} {i : Nat} {y : Str} {py : Pos} {kx vx tg iter : Expr} {ifs : List Expr} {scope : Scope} {own : List (Str × Nat)} {pos spos : Pos} {wi : TI} {g : TG} {tt : TT} {tk tv : TE} (hc : X.calm = true) (hN : X.N.Nodup) (hy : X.N[i]? = some y) (hyl : X.env.scope.names.lookup y = some .local)
    (hsw : swapsWith (.DictComp kx vx [⟨tg, iter, ifs, 0⟩] scope pos) (some (.Name y py)) spos.line X.env = pure true) (hi : PI X tg iter wi) (ok : BlkOk X.N X.env.scope scope own)
    (hg : ∀ (s : Shared) (H : Hp) (C : Addr) (cl : List (Str × Addr)) (fp : List Addr), PG (X.blk s H scope (compEnvC scope cl C X.env) fp) tg g) (ht : ∀ (s : Shared) (H : Hp) (C : Addr) (cl : List (Str × Addr)) (fp : List Addr), PTs (X.blk s H scope (compEnvC scope cl C X.env) fp) ifs tt)
    (hk : ∀ (s : Shared) (H : Hp) (C : Addr) (cl : List (Str × Addr)) (fp : List Addr), PE (X.blk s H scope (compEnvC scope cl C X.env) fp) kx tk)
    (he : ∀ (s : Shared) (H : Hp) (C : Addr) (cl : List (Str × Addr)) (fp : List Addr), PE (X.blk s H scope (compEnvC scope cl C X.env) fp) vx tv) (hs : ∀ x, foldedSetIterable iter X.env x = pure x := by intro _; rfl) :
    PS X (.Assign [.Name y py] (.DictComp kx vx [⟨tg, iter, ifs, 0⟩] scope pos) spos) (tAsg (tDc wi g tt tk tv (own.map (·.2))) (gName i)) := by
  refine ⟨fun pins s σ H D I h => ?_⟩
  rw [exec_Assign_Name_used _ _ _ _ hsw]
  refine wpAny_bind (wpAny_standAt (wpAny_bind ?_))
  show wpAny _ X.A (do let _ ← comprehension (.DictComp kx vx [⟨tg, iter, ifs, 0⟩] scope pos) scope X.env (firstIterPos [⟨tg, iter, ifs, 0⟩] pos) newDict false (eval iter X.env) (some (assign (.Name y py) X.env))) _ _ s
  have h : tDc wi g tt tk tv (own.map (·.2)) σ H (fun x H1 => gName i x σ H1 D.nx) := h
  refine wpAny_bind (thn (dc_core (Qf := fun _ s' => SP X pins D .next s') hc hN I hi ok hg ht hk he hs h fun L C s' m H' I' q hn f => ?_) fun _ s' hq => wpAny_pure (wpAny_pure hq))
  show wpAny _ _ (assign (.Name y py) X.env (.ref L)) _ _ _
  refine wpAny_assign_Name (store_ok2 (v := V.ref L) I' hN hy (.inl hyl) rfl (fun s2 I2 ⟨a, sb, ha⟩ => ?_) (.inr hyl))
  obtain ⟨f0, f1, f2, f3, f4, f5⟩ := f
  have haC : C ≠ a := by
    rcases ha with z | z
    · rw [z]; exact f1
    · exact fun e => f4 y a z e.symm
  refine ⟨m, hn.sameBut sb haC, fun h3 sb3 => ?_⟩
  exact ⟨_, H', I2.turned (t' := s2.toks) (fun b o hb e => (sb3.2 b hb).trans e) f0 f1 f3 f4 f5, q⟩
end Ka
namespace Kb
open PySem PySem.Spec PyProof.Rows L2
abbrev nCp : List Str := ["making", "own", "deed", "others", "other"]
/-- the first deed without an own one -/
def FirstBare (m : List (Str × List Str)) (ns : List Str) (bare : Str) : Prop := ∃ i : Nat, ns[i]? = some bare ∧ Bare m bare ∧ ∀ (j : Nat) (y : Str), j < i → ns[j]? = some y → ¬ Bare m y
section
variable {P : Program} {w : World} {K : PySem.W.Frag} {mg : Str → Option Value} {base : Heap}
theorem scCouple : FnScope nCp ["making"] (defScope sCouple) := ⟨rfl, rfl, rfl, by decide +kernel, rfl, by decide +kernel, by decide +kernel⟩
def spCouple : Sp := fun vs H Q _ => ∃ (d : Addr) (M : MK) (ns : List Str), vs = [.ref d] ∧ H d = some (.dK (kvM M)) ∧ Stand H M ∧ Fit M ∧ sortedS ns = true ∧ ns.Perm (M.map (·.1)) ∧
  (Kf.Exact (pm M) → ∀ H', Same H H' → Q .non H') ∧
  ∀ (H' : Hp) (p a b : Addr) (bare : Str) (n : Nat), Same H H' → H p = none → H' p = some (.tup [.ref a, .ref b]) → H' a = some (.tup [.str bare]) → FirstBare (pm M) ns bare → n ≤ 5 → Kf.Least (pm M) (ns.filter fun y => decide (y ≠ bare)) n (Kf.look (pm M) bare) →
    H' b = some (.tup ((Kf.gre (pm M) (ns.filter fun y => decide (y ≠ bare)) n (Kf.look (pm M) bare)).map V.str)) → Q (.ref p) H'
theorem ok_couple {f fO fA fF fB : Addr} {fd fdO fdA fdF fdB : FuncData} (F : Fun K "couple" "couple" sCouple f fd) (FO : Fun K "own_deeds" "own_deeds" sOwnD fO fdO) (bO : Binds K fdO ["making"] []) (gO : mg "own_deeds" = some (.ref fO)) (FA : Fun K "ascending" "ascending" sAsc fA fdA) (bA : Binds K fdA ["table"] []) (gA : mg "ascending" = some (.ref fA))
    (FF : Fun K "first_cover" "first_cover" sFirstC fF fdF) (bF : Binds K fdF ["making", "row"] []) (gF : mg "first_cover" = some (.ref fF)) (FB : Fun K "begun" "begun" sBegun fB fdB) (bB : Binds K fdB ["row", "other"] []) (gB : mg "begun" = some (.ref fB))
    (ms : mg "sorted" = none) (mt : mg "tuple" = none) (ml : mg "len" = none) (mr : mg "range" = none) (mv : mg "reversed" = none) (mm : mg "min" = none) : FnOk P w K mg base CX0 3 f fd ["making"] spCouple := by
  have GO : FnOk P w K mg base CX0 2 fO fdO ["making"] spOwnD := ok_ownD FO FA bA gA ms mt
  have GF : FnOk P w K mg base CX0 2 fF fdF ["making", "row"] (spFirstC K) := ok_firstC FF FB bB gB ms mt ml mr mv mm
  refine F.ok scCouple (fun vs H Q E h => ?_) (fun cdv A outer s H vs Q E hr h => ?_)
  · obtain ⟨d, M, ns, rfl, _⟩ := h
    rfl
  · obtain ⟨d, M, ns, rfl, hd, hM, ft, srt, perm, q1, q2⟩ := h
    refine ⟨_, pss_cons (ps_set (i := 1) scCouple.nd rfl (.inl rfl) (pe_call GO hr (by rfl) gO FO.kp bO .nil pass0 (pa_cons (pv 0) pa_nil)))
      (pss_cons (ps_lock (ps_for PassesOwn.never rfl (pi_keys (pv 1)) (pg_name (i := 2) scCouple.nd rfl (.inr rfl))
        (pss_one (ps_if (pt_not (pt_truth (pe_dget (hu_of hr) (pv 1) (pv 2) (fun _ _ => rfl)) (by intro _; rfl)))
          (pss_cons (ps_lock (Ka.ps_setDc (i := 3) (own := [("other", 4)]) (g := gName 4) rfl scCouple.nd rfl rfl (Ka.sw_dc rfl rfl rfl rfl) (pi_keys (pv 0)) (blkOk_by (own := [("other", 4)]) (N := nCp) (sc := defScope sCouple) (by decide +kernel)) (fun _ _ _ _ _ => pg_name (i := 4) scCouple.nd rfl (Or.inl rfl)) (fun _ _ _ _ _ => pts_one (pt_cmpR op_ne (pv 4) (pv 2) (nomark _)))
              (fun _ _ _ _ _ => pv 4) (fun _ _ _ _ _ => pe_dget (hu_of hr) (pv 0) (pv 4) (fun _ _ => rfl))))
          (pss_one (ps_ret (pe_tup (pa_cons (pe_tup (pa_cons (pv 2) pa_nil)) (pa_cons (pe_call GF hr (by rfl) gF FF.kp bF .nil pass0 (pa_cons (pv 3) (pa_cons (pe_dget (hu_of hr) (pv 0) (pv 2) (fun _ _ => rfl)) pa_nil))) pa_nil))))))
          pss_nil))))
      (pss_one (ps_ret pe_non))), ?_⟩
    refine ⟨.ref d, rfl, d, M, rfl, hd, hM, ft, fun H1 p N s1 np ep sN srtN permN lots rows => ?_⟩
    have eN : N.map (·.1) = ns := sorted_uniq srtN srt (permN.trans perm.symm)
    have ndN : (N.map (·.1)).Nodup := permN.nodup_iff.mpr ft.nd
    refine ⟨p, _, ep, True.intro, fun od => ?_⟩
    generalize hH2 : upd H1 p (.frz od (.dK (kvM N))) = H2
    have f2 : H2 p = some (.frz od (.dK (kvM N))) := by rw [← hH2]; exact upd_same
    have k2 : But p H1 H2 := by rw [← hH2]; exact But.upd
    have s2 : Same H H2 := fun c u e => k2 c u (ne_of_none e np) (s1 c u e)
    have sN2 : Stand H2 N := fun t ht => k2 _ _ (fun e => by
      have := sN t ht
      rw [e, ep] at this
      cases this) (sN t ht)
    have hdp : d ≠ p := ne_of_none hd np
    refine ⟨.ref p, rfl, p, od, rfl, .inl ⟨kvM N, f2, ?_⟩⟩
    refine for_it (walk_keys (d := p) (o := od) (kvs := kvM N)) (fun i σ H' => ∃ (x2 x3 : Option V), σ = [some (.ref d), some (.ref p), x2, x3, none] ∧ H' = H2 ∧ ∀ (j : Nat) (y : Str), j < i → ns[j]? = some y → ¬ Bare (pm M) y)
      ⟨none, none, rfl, rfl, fun j y h => absurd h (Nat.not_lt_zero j)⟩ (fun i σ H' _ ⟨_, _, _, e, _⟩ => by rw [e]; exact f2) (fun i x σ H3 H4 hi h y => ?_) (fun σ H3 h => ?_)
    · obtain ⟨rfl, ky, va, hkv, rfl⟩ := y
      obtain ⟨x2, x3, rfl, rfl, hj⟩ := h
      obtain ⟨t, ht, ekv⟩ := get_map hkv
      cases ekv
      have htN := List.mem_of_getElem? ht
      have hns : ns[i]? = some t.1 := by rw [← eN, List.getElem?_map, ht]; rfl
      have hbare := lot_bare (lots t htN)
      refine ⟨.ref p, rfl, .str t.1, rfl, p, _, rfl, get_M (.inr ⟨od, f2⟩) ndN htN, !(t.2.2.map V.str).isEmpty, .inr (.inl ⟨_, sqT_new (sN2 t htN), rfl⟩), ?_⟩
      refine ite2 (c := (!(!(t.2.2.map V.str).isEmpty)) = true) (fun c => ?_) (fun c => ?_)
      · have ce : t.2.2 = [] := by
          cases hq : t.2.2 with
          | nil => rfl
          | cons x r =>
            rw [hq] at c
            exact absurd c (by simp)
        have hb : Bare (pm M) t.1 := hbare.mp ce
        obtain ⟨t0, ht0, e0⟩ := name_M (M := M) (d := t.1) (permN.mem_iff.mp (List.mem_map.mpr ⟨t, htN, rfl⟩))
        have hd4 := s2 _ _ hd
        refine ⟨d, _, hd4, True.intro, fun od2 => ?_⟩
        generalize hL0 : upd H4 d (.frz od2 (.dK (kvM M))) = L
        have kL : But d H4 L := by rw [← hL0]; exact But.upd
        have fL : L d = some (.frz od2 (.dK (kvM M))) := by rw [← hL0]; exact upd_same
        refine ⟨.ref d, rfl, d, od2, rfl, .inl ⟨kvM M, fL, fun D nD => ?_⟩⟩
        refine dcK_it (walk_keys (d := d) (o := od2) (kvs := kvM M)) (fun i G => Same L G ∧ G D = some (.dK (kvM ((M.take i).filter fun t2 => decide (t2.1 ≠ t.1))))) ⟨same_new nD, upd_same⟩ (fun i G _ h => h.1 _ _ fL) (fun i x G G' hi h y => ?_) (fun G h => ?_)
        · obtain ⟨rfl, ky2, va2, hkv2, rfl⟩ := y
          obtain ⟨sG, eD⟩ := h
          obtain ⟨t2, ht2, ekv2⟩ := get_map hkv2
          cases ekv2
          have htM2 := List.mem_of_getElem? ht2
          refine ⟨rfl, .str t2.1, rfl, .str t.1, rfl, rfl, _, rfl, ite2 (fun c => ?_) (fun c => ?_)⟩
          · have c : t2.1 ≠ t.1 := by
              intro e
              rw [e] at c
              simp at c
            refine ⟨.str t2.1, rfl, .ref d, rfl, .str t2.1, rfl, d, _, rfl, get_M (.inr ⟨od2, sG _ _ fL⟩) ft.nd htM2, _, Sum.inr t2.1, rfl, eD, ?_, fun c' u e => ?_, ?_⟩
            · rw [kvM_len]
              have := List.length_filter_le (fun t2 : Str × Addr × List Str => decide (t2.1 ≠ t.1)) (M.take i)
              rw [List.length_take] at this
              have := ft.few
              exact small (by omega)
            · rw [upd_ne (ne_of_none e nD)]
              exact sG c' u e
            · rw [upd_same, putK_new, take_of_get ht2, filt_yes (p := fun t2 : Str × Addr × List Str => decide (t2.1 ≠ t.1)) (x := t2) (decide_eq_true c)]
              · unfold kvM
                rw [List.map_append]
                rfl
              · rw [kvM_keys]
                intro z
                obtain ⟨y, hy, e⟩ := List.mem_map.mp z
                have e := Sum.inr.inj e
                subst e
                obtain ⟨t3, ht3, e3⟩ := List.mem_map.mp hy
                have := (List.mem_filter.mp ht3).1
                have h2 : t2.1 ∈ (M.map (·.1)).take i := by
                  rw [← List.map_take]
                  exact List.mem_map.mpr ⟨t3, this, e3⟩
                exact not_before ft.nd (i := i) (x := t2.1) (by rw [List.getElem?_map, ht2]; rfl) h2
          · have c : decide (t2.1 ≠ t.1) = false := by
              apply decide_eq_false
              intro e
              apply c
              simp [e]
            refine ⟨sG, ?_⟩
            rw [take_of_get ht2, filt_no (p := fun t2 : Str × Addr × List Str => decide (t2.1 ≠ t.1)) (x := t2) c]
            exact eD
        · obtain ⟨sG, eD⟩ := h
          rw [kvM_len, List.take_length] at eD
          refine ⟨sG _ _ fL, ?_⟩
          obtain ⟨M', hM'⟩ : ∃ M' : MK, M' = M.filter fun t2 => decide (t2.1 ≠ t.1) := ⟨_, rfl⟩
          rw [← hM'] at eD
          have inM' : ∀ t2, t2 ∈ M' ↔ t2 ∈ M ∧ t2.1 ≠ t.1 := fun t2 => by rw [hM', List.mem_filter, decide_eq_true_iff]
          have hDd : D ≠ d := fun e => by rw [e, fL] at nD; cases nD
          have sU : Same H4 (upd G d (.dK (kvM M))) := unlock hd4 (kL.trans (But.of sG))
          have eDU : upd G d (.dK (kvM M)) D = some (.dK (kvM M')) := by rw [upd_ne hDd]; exact eD
          generalize upd G d (.dK (kvM M)) = U at sU eDU
          have sHU := s2.trans sU
          refine ⟨.str t.1, rfl, (by show 1 ≤ sizeLine; exact smallE (by decide)), fun l nl => ?_⟩
          have sl : Same U (upd U l (.tup [.str t.1])) := same_new nl
          have el : upd U l (.tup [.str t.1]) l = some (.tup [.str t.1]) := upd_same
          generalize upd U l (.tup [.str t.1]) = U2 at sl el
          have sHU2 := sHU.trans sl
          have nd' : (M'.map (·.1)).Nodup := by
            rw [hM']
            exact (List.filter_sublist.map _).nodup ft.nd
          have ft' : Fit M' := ⟨by rw [hM']; exact Nat.le_trans (List.length_filter_le _ _) ft.few, nd', fun t2 h => ft.rows t2 ((inM' t2).mp h).1⟩
          have rowL : Kf.look (pm M) t.1 = t0.2.2 := by rw [← e0]; exact look_M ft.nd ht0
          have perm' : (ns.filter fun y => decide (y ≠ t.1)).Perm (M'.map (·.1)) := by
            have h1 := perm.filter fun y => decide (y ≠ t.1)
            rw [List.filter_map] at h1
            rw [hM']
            exact h1
          have gd := get_M (.inl (sHU2 _ _ hd)) ft.nd ht0
          rw [e0] at gd
          refine ⟨.ref D, rfl, .ref d, rfl, .str t.1, rfl, d, _, rfl, gd, D, t0.2.1, M', t0.2.2, ns.filter fun y => decide (y ≠ t.1), rfl, sl _ _ eDU, fun t2 h => sHU2 _ _ (hM t2 ((inM' t2).mp h).1), ft', sqT_new (sHU2 _ _ (hM t0 ht0)), ft.rows t0 ht0, fun x hx => ?_, sorted_filter _ srt, perm', fun H5 b n s5 nb eb least hn => ?_⟩
          · have hno : ¬ Kf.Own (pm M) t.1 x := hb x
            rw [← e0, own_iff ft.nd ht0] at hno
            have : ∃ t' ∈ M, t'.1 ≠ t0.1 ∧ x ∈ t'.2.2 := Classical.byContradiction fun z => hno ⟨hx, z⟩
            obtain ⟨t', ht', ne, hx'⟩ := this
            exact ⟨t', (inM' t').mpr ⟨ht', by rw [← e0]; exact ne⟩, hx'⟩
          · refine ⟨(by show 2 ≤ sizeLine; exact smallE (by decide)), fun l2 nl2 => ?_⟩
            have s6 := s5.trans (same_new (o := .tup [.ref l, .ref b]) nl2)
            have e6 : upd H5 l2 (.tup [.ref l, .ref b]) l2 = some (.tup [.ref l, .ref b]) := upd_same
            have eb6 := same_new (o := .tup [.ref l, .ref b]) nl2 _ _ eb
            generalize upd H5 l2 (.tup [.ref l, .ref b]) = H6 at s6 e6 eb6
            have s46 := (sU.trans sl).trans s6
            have f6 := s46 _ _ f2
            refine ⟨f6, ?_⟩
            have lk : ∀ y ∈ ns.filter (fun y => decide (y ≠ t.1)), Kf.look (pm M') y = Kf.look (pm M) y := fun y hy => by
              obtain ⟨t2, ht2, e2⟩ := name_M (perm'.mem_iff.mp hy)
              rw [← e2, look_M nd' ht2, look_M ft.nd ((inM' t2).mp ht2).1]
            have notp : ∀ c u, H6 c = some u → (∀ od, u ≠ .frz od (.dK (kvM N))) → upd H6 p (.dK (kvM N)) c = some u := fun c u e ne => by
              rw [upd_ne (fun q => ne od (by rw [q, f6] at e; exact (Option.some.inj e).symm))]
              exact e
            refine q2 _ l2 l b t.1 n (fun c u e => ?_) ?_ (notp _ _ e6 fun od z => nomatch z) (notp _ _ (s6 _ _ el) fun od z => nomatch z) ⟨i, hns, hb, hj⟩ hn ?_ ?_
            · by_cases qp : c = p
              · rw [qp, np] at e
                cases e
              · rw [upd_ne qp]
                exact s46 _ _ (s2 _ _ e)
            · cases hq : H l2 with
              | none => rfl
              | some u =>
                rw [s5 _ _ (sHU2 _ _ hq)] at nl2
                cases nl2
            · rw [rowL]
              exact Kf.least_congr lk least
            · refine notp _ _ ?_ fun od z => nomatch z
              rw [eb6, rowL, Kf.gre_congr lk]
      · have ce : t.2.2 ≠ [] := fun e => by
          rw [e] at c
          exact c rfl
        refine ⟨_, _, rfl, rfl, fun j y hlt hy => ?_⟩
        by_cases q : j < i
        · exact hj j y q hy
        · obtain rfl : j = i := by omega
          rw [hns] at hy
          cases hy
          exact fun hb => ce (hbare.mpr hb)
    · obtain ⟨x2, x3, rfl, rfl, hj⟩ := h
      refine ⟨f2, ?_⟩
      refine q1 ?_ _ (s1.trans (unlock ep k2))
      rw [exact_iff, pm_names]
      intro dd hdd
      obtain ⟨j, hjj⟩ := List.getElem?_of_mem (perm.mem_iff.mpr hdd)
      refine hj j dd ?_ hjj
      have := lt_of_get hjj
      rw [← eN, List.length_map] at this
      rw [kvM_len]
      exact this
end
end Kb
namespace Kb
open PySem PySem.Spec PyProof.Rows L2
/-! ### values as data: places, rows, lists of them -/
def natD (g : List Nat) : PyData := .tuple (g.map fun (i : Nat) => .int (i : Int))
/-- the lists of codes are the same: the texts are -/
theorem str_beq (x y : Str) : (x == y) = decide (x = y) := by
  by_cases h : x = y
  · subst h
    simp
  · rw [decide_eq_false h]
    exact beq_eq_false_iff_ne.mpr h
theorem eqvAll_map {α : Type} [DecidableEq α] {f : α → PyData} (h : ∀ a b, PyData.eqv (f a) (f b) = decide (a = b)) : ∀ l m : List α, PyData.eqvAll (l.map f) (m.map f) = decide (l = m)
  | [], [] => by simp [PyData.eqvAll]
  | [], _ :: _ => by simp [PyData.eqvAll]
  | _ :: _, [] => by simp [PyData.eqvAll]
  | x :: l, y :: m => by
    rw [List.map_cons, List.map_cons, PyData.eqvAll, h, eqvAll_map h l m]
    by_cases h1 : x = y <;> by_cases h2 : l = m <;> simp [h1, h2]
theorem eq_int (a b : Nat) : PyData.eqv (.int (a : Int)) (.int (b : Int)) = decide (a = b) := by
  rw [PyData.eqv]
  by_cases h : a = b
  · subst h
    simp
  · rw [decide_eq_false h]
    exact beq_eq_false_iff_ne.mpr (by omega)
theorem eq_str (a b : Str) : PyData.eqv (.str a) (.str b) = decide (a = b) := by
  rw [PyData.eqv, str_beq]
theorem eqN (g g' : List Nat) : PyData.eqv (natD g) (natD g') = decide (g = g') := by
  unfold natD
  rw [PyData.eqv, eqvAll_map (f := fun (i : Nat) => PyData.int (i : Int)) eq_int]
theorem eqR (r r' : List Str) : PyData.eqv (Ka.rowD r) (Ka.rowD r') = decide (r = r') := by
  unfold Ka.rowD
  rw [PyData.eqv, eqvAll_map eq_str]
theorem eqRows (l m : List (List Str)) : PyData.eqvAll (l.map Ka.rowD) (m.map Ka.rowD) = decide (l = m) := eqvAll_map eqR l m
theorem dep_le {α : Type} {f : α → PyData} {n : Nat} (h : ∀ a, (f a).depth ≤ n) : ∀ l : List α, PyData.depthAll (l.map f) ≤ n
  | [] => by simp [PyData.depthAll]
  | x :: l => by
    have h1 := h x
    have h2 := dep_le h l
    rw [List.map_cons]
    simp only [PyData.depthAll]
    omega
theorem lay_all {α : Type} {f : α → PyData} : ∀ l : List α, (∀ a ∈ l, (f a).canLay0 = true) → PyData.canLayAll0 (l.map f) = true
  | [], _ => by simp [PyData.canLayAll0]
  | x :: l, h => by
    rw [List.map_cons, PyData.canLayAll0, h x List.mem_cons_self, lay_all l fun a ha => h a (List.mem_cons_of_mem _ ha)]
    rfl
theorem shaped_of {d : PyData} (h1 : d.canLay0 = true) (h2 : d.depth ≤ 64) : SeqAt.shaped d = true := by
  unfold SeqAt.shaped
  rw [h1, decide_eq_true h2]
  rfl
theorem depN (g : List Nat) : (natD g).depth ≤ 2 := by
  unfold natD
  have := dep_le (f := fun (i : Nat) => PyData.int (i : Int)) (n := 1) (fun a => by simp [PyData.depth]) g
  simp only [PyData.depth]
  omega
theorem layN (g : List Nat) : (natD g).canLay0 = true := by
  unfold natD
  rw [PyData.canLay0]
  exact lay_all g fun a _ => by rw [PyData.canLay0]
theorem shN (g : List Nat) : SeqAt.shaped (natD g) = true := shaped_of (layN g) (Nat.le_trans (depN g) (by decide))
theorem depR (r : List Str) : (Ka.rowD r).depth ≤ 2 := by
  unfold Ka.rowD
  have := dep_le (f := PyData.str) (n := 1) (fun a => by simp [PyData.depth]) r
  simp only [PyData.depth]
  omega
theorem name_ok {z : Str} (h : isName z = true) : PyData.strOk z = true := by
  unfold isName at h
  rw [Bool.and_eq_true] at h
  unfold PyData.strOk
  rw [← Array.all_toList, List.all_eq_true]
  intro c hc
  have := List.all_eq_true.mp h.2 c hc
  unfold lowC at this
  rw [Bool.and_eq_true] at this
  have := of_decide_eq_true this.2
  exact decide_eq_true (by omega)
theorem layR {r : List Str} (h : ∀ z ∈ r, isName z = true) : (Ka.rowD r).canLay0 = true := by
  unfold Ka.rowD
  rw [PyData.canLay0]
  exact lay_all r fun a ha => by rw [PyData.canLay0]; exact name_ok (h a ha)
theorem shR {r : List Str} (h : ∀ z ∈ r, isName z = true) : SeqAt.shaped (Ka.rowD r) = true := shaped_of (layR h) (Nat.le_trans (depR r) (by decide))
theorem shRows {l : List (List Str)} (h : ∀ r ∈ l, ∀ z ∈ r, isName z = true) : SeqAt.shaped (.list (l.map Ka.rowD)) = true ∧ SeqAt.shaped (.tuple (l.map Ka.rowD)) = true := by
  have h1 := dep_le (f := Ka.rowD) (n := 2) depR l
  have h2 := lay_all (f := Ka.rowD) l fun r hr => layR (h r hr)
  exact ⟨shaped_of (by rw [PyData.canLay0]; exact h2) (by simp only [PyData.depth]; omega), shaped_of (by rw [PyData.canLay0]; exact h2) (by simp only [PyData.depth]; omega)⟩
section
variable {K : PySem.W.Frag} {H : Hp}
theorem dpNs : ∀ g : List Nat, DpAll K H (natV g) (g.map fun (i : Nat) => .int (i : Int))
  | [] => .nil
  | i :: g => .cons (.int _) (dpNs g)
theorem dpN {p : Addr} {g : List Nat} (h : H p = some (.tup (natV g))) : Dp K H (.ref p) (natD g) := .tup (sqT_new h) (dpNs g)
theorem dpRs : ∀ r : List Str, DpAll K H (r.map V.str) (r.map .str)
  | [] => .nil
  | i :: g => .cons (.str _) (dpRs g)
theorem dpR {p : Addr} {r : List Str} (h : H p = some (.tup (r.map V.str))) : Dp K H (.ref p) (Ka.rowD r) := .tup (sqT_new h) (dpRs r)
end
end Kb
namespace Kb
open PySem PySem.Spec PyProof.Rows L2
theorem But.free {x p : Addr} {H H1 : Hp} (k : But x H H1) (b : Box H1 x) (h : H1 p = none) : H p = none := by
  cases e : H p with
  | none => rfl
  | some u =>
    by_cases w : p = x
    · obtain ⟨b0, b1, b2, hb⟩ := b
      rw [← w, h] at hb
      cases hb
    · rw [k p u w e] at h
      cases h
theorem Box.ne {x p : Addr} {H : Hp} (b : Box H x) (h : H p = none) : p ≠ x := fun w => by
  obtain ⟨b0, b1, b2, hb⟩ := b
  rw [← w, h] at hb
  cases hb
theorem Box.upd {x p : Addr} {H : Hp} {o : HO} (b : Box H x) (h : p ≠ x) : Box (upd H p o) x := by
  obtain ⟨b0, b1, b2, hb⟩ := b
  exact ⟨b0, b1, b2, by rw [upd_ne (Ne.symm h)]; exact hb⟩
section
variable {P : Program} {w : World} {K : PySem.W.Frag} {mg : Str → Option Value} {base : Heap}
theorem scPick : FnScope ["box", "some"] ["box", "some"] (defScope sPick) := ⟨rfl, rfl, rfl, by decide +kernel, rfl, by decide +kernel, by decide +kernel⟩
def spPick : Sp := fun vs H Q _ => ∃ (x a : Addr) (xs : List V), vs = [.ref x, .ref a] ∧ Box H x ∧ a ≠ x ∧ H a = some (.lst xs) ∧ 0 < xs.length ∧ xs.length < 1000000 ∧ ∀ (i : Nat) (v : V) H', xs[i]? = some v → But x H H' → Box H' x → Q v H'
theorem ok_pick {f fT : Addr} {fd fdT : FuncData} (F : Fun K "_law_pick" "_law_pick" sPick f fd) (FT : Fun K "_law_take" "_law_take" sTake fT fdT) (bT : Binds K fdT ["box", "many"] []) (gT : mg "_law_take" = some (.ref fT)) (mi : mg "int" = none) (ml : mg "len" = none) : FnOk P w K mg base CX0 2 f fd ["box", "some"] spPick := by
  have GT : FnOk P w K mg base CX0 1 fT fdT ["box", "many"] spTake := ok_take FT mi
  refine F.ok scPick (fun vs H Q E h => ?_) (fun cdv A outer s H vs Q E hr h => ?_)
  · obtain ⟨x, a, xs, rfl, _⟩ := h
    rfl
  · obtain ⟨x, a, xs, rfl, hx, hax, ha, h0, h1, q⟩ := h
    refine ⟨_, pss_one (ps_ret (pe_ix ix_list (pv 1) (pe_call GT hr (by rfl) gT FT.kp bT .nil pass0 (pa_cons (pv 0) (pa_cons (pe_callB call_len_seq (by rfl) ml PySem.boot_len (pa_cons (pv 1) pa_nil)) pa_nil))) (fun _ _ => rfl))), ?_⟩
    refine ⟨.ref a, rfl, .ref x, rfl, .ref a, rfl, a, xs, rfl, .inl (sqL_new ha), x, xs.length, rfl, hx, h0, h1, fun r H' hr k b => ?_⟩
    have hg : xs[r]? = some (xs[r]'hr) := List.getElem?_eq_getElem hr
    exact ⟨a, xs, _, _, rfl, rfl, sqL_new (k _ _ hax ha), atI_nat hg, q r _ H' hg k b⟩
end
end Kb
namespace Kb
open PySem PySem.Spec PyProof.Rows L2
/-! ### texts as lists of signs -/
def ls (z : Str) : List Nat := z.cps.toList
theorem ls_len (z : Str) : z.length = (ls z).length := by
  unfold ls
  rw [Array.length_toList]
  rfl
theorem ls_inj {a b : Str} (h : ls a = ls b) : a = b := by
  obtain ⟨a⟩ := a
  obtain ⟨b⟩ := b
  exact congrArg Str.mk (Array.toList_inj.mp h)
theorem ls_add (a b : Str) : ls (a ++ b) = ls a ++ ls b := TL.tl_append a b
theorem ls_cutTo (z : Str) (k : Nat) : ls (cutS z none (some (k : Int))) = (ls z).take k := by
  unfold cutS ls
  rw [HT.sIx_nat, HT.sIx_none, List.drop_zero, Nat.sub_zero]
  show ((z.cps.toList.take _).toArray).toList = _
  rw [List.toList_toArray, ls_len]
  unfold ls
  by_cases h : k ≤ z.cps.toList.length
  · rw [Nat.min_eq_left h]
  · rw [Nat.min_eq_right (by omega), List.take_length, List.take_of_length_le (by omega)]
theorem ls_cutFrom (z : Str) (k : Nat) : ls (cutS z (some (k : Int)) none) = (ls z).drop k := by
  unfold cutS ls
  rw [HT.sIx_nat, HT.sIx_none]
  show (((z.cps.toList.drop _).take _).toArray).toList = _
  rw [List.toList_toArray, ls_len]
  unfold ls
  by_cases h : k ≤ z.cps.toList.length
  · rw [Nat.min_eq_left h, List.take_of_length_le (by rw [List.length_drop]; exact Nat.le_refl _)]
  · rw [Nat.min_eq_right (by omega), List.drop_length, List.drop_eq_nil_of_le (by omega), List.take_nil]
theorem joinL_nil : ∀ parts : List (List Nat), TL.joinL [] parts = parts.flatten
  | [] => rfl
  | [p] => by simp [TL.joinL]
  | p :: q :: r => by
    rw [TL.joinL, joinL_nil (q :: r)]
    rfl
theorem ls_join (ys : List Str) : ls (Txt.join (Str.ofString "") ys) = (ys.map ls).flatten := by
  rw [TL.join_eq]
  show TL.tl (Str.join (Str.ofString "") ys) = _
  rw [TL.tl_join]
  have e : TL.tl (Str.ofString "") = [] := by decide +kernel
  rw [e, joinL_nil]
  rfl
theorem name_iff {z : Str} : isName z = true ↔ 1 ≤ (ls z).length ∧ (ls z).length ≤ 5 ∧ ∀ c ∈ ls z, lowC c = true := by
  unfold isName ls
  rw [Bool.and_eq_true, Bool.and_eq_true, decide_eq_true_eq, decide_eq_true_eq, List.all_eq_true, Array.length_toList, and_assoc]
/-! ### the next letter, and why names end up unlike -/
def abc : Str := Str.ofString "abcdefghijklmnopqrstuvwxyz"
theorem abc_at : ∀ r : Fin 26, (ls abc)[r.1]? = some (97 + r.1) := by decide +kernel
theorem abc_index : ∀ r : Fin 26, Txt.index0 abc ⟨#[97 + r.1]⟩ = some r.1 := by decide +kernel
theorem low_of {c : Nat} (h : lowC c = true) : ∃ r : Fin 26, c = 97 + r.1 := by
  unfold lowC at h
  rw [Bool.and_eq_true, decide_eq_true_eq, decide_eq_true_eq] at h
  exact ⟨⟨c - 97, by omega⟩, by show c = 97 + (c - 97); omega⟩
theorem low_mk (r : Nat) : lowC (97 + r % 26) = true := by
  unfold lowC
  rw [Bool.and_eq_true, decide_eq_true_eq, decide_eq_true_eq]
  omega
theorem nodup_len {α : Type} [DecidableEq α] : ∀ {l m : List α}, l.Nodup → (∀ x ∈ l, x ∈ m) → l.length ≤ m.length
  | [], _, _, _ => Nat.zero_le _
  | x :: l, m, h, s => by
    rw [List.nodup_cons] at h
    have hx := s x List.mem_cons_self
    have h2 := nodup_len (l := l) (m := m.erase x) h.2 fun y hy => by
      have hne : y ≠ x := fun e => h.1 (e ▸ hy)
      exact (List.mem_erase_of_ne hne).mpr (s y (List.mem_cons_of_mem _ hy))
    rw [List.length_erase_of_mem hx] at h2
    have := List.length_pos_of_mem hx
    rw [List.length_cons]
    omega
/-- the name init ++ the letter c0 + k -/
def nm (init : List Nat) (c0 k : Nat) : Str := ⟨(init ++ [97 + (c0 + k) % 26]).toArray⟩
theorem nm_ls (init : List Nat) (c0 k : Nat) : ls (nm init c0 k) = init ++ [97 + (c0 + k) % 26] := by
  unfold ls nm
  simp
theorem nm_few {init : List Nat} {c0 n : Nat} {found : List Str} (hn : n ≤ 26) (h : ∀ k, k < n → nm init c0 k ∈ found) : n ≤ found.length := by
  have h1 : ((List.range n).map (nm init c0)).Nodup := by
    rw [List.nodup_iff_pairwise_ne, List.pairwise_map]
    refine List.Pairwise.imp_of_mem ?_ (List.nodup_iff_pairwise_ne.mp List.nodup_range)
    intro i j hi hj hne e
    have e2 := congrArg ls e
    rw [nm_ls, nm_ls] at e2
    have e3 := List.append_cancel_left e2
    rw [List.cons.injEq] at e3
    rw [List.mem_range] at hi hj
    have e4 := e3.1
    omega
  have h2 := nodup_len h1 (m := found) fun x hx => by
    obtain ⟨k, hk, rfl⟩ := List.mem_map.mp hx
    exact h k (List.mem_range.mp hk)
  rw [List.length_map, List.length_range] at h2
  exact h2
theorem nm_name {init : List Nat} {c0 k : Nat} (h1 : init.length ≤ 4) (h2 : ∀ c ∈ init, lowC c = true) : isName (nm init c0 k) = true := by
  rw [name_iff, nm_ls]
  refine ⟨by simp, by simp; omega, fun c hc => ?_⟩
  rcases List.mem_append.mp hc with h | h
  · exact h2 c h
  · rw [List.mem_singleton.mp h]
    exact low_mk _
/-- a name is of that form -/
theorem nm_of {z : Str} (h : isName z = true) : ∃ init c0, z = nm init c0 0 ∧ init.length ≤ 4 ∧ ∀ c ∈ init, lowC c = true := by
  obtain ⟨h1, h2, h3⟩ := name_iff.mp h
  have hne : ls z ≠ [] := fun e => by
    rw [e] at h1
    simp at h1
  have e := List.dropLast_concat_getLast hne
  obtain ⟨r, hr⟩ := low_of (h3 _ (List.getLast_mem hne))
  refine ⟨(ls z).dropLast, r.1, ls_inj ?_, by rw [List.length_dropLast]; omega, fun c hc => h3 c ((List.dropLast_sublist _).subset hc)⟩
  rw [nm_ls, Nat.add_zero, Nat.mod_eq_of_lt r.2, ← hr]
  exact e.symm
theorem shStrs {l : List Str} (h : ∀ z ∈ l, isName z = true) : SeqAt.shaped (.list (l.map .str)) = true := by
  have h1 := dep_le (f := PyData.str) (n := 1) (fun a => by simp [PyData.depth]) l
  exact shaped_of (by rw [PyData.canLay0]; exact lay_all l fun a ha => by rw [PyData.canLay0]; exact name_ok (h a ha)) (by simp only [PyData.depth]; omega)
theorem inV_str (z : Str) : ∀ ns : List Str, inV (.str z) (ns.map V.str) = decide (z ∈ ns)
  | [] => by simp [inV]
  | y :: ns => by
    have ih := inV_str z ns
    unfold inV at ih ⊢
    rw [List.map_cons, List.any_cons, ih]
    show ((y == z) || _) = _
    rw [str_beq]
    by_cases h1 : y = z
    · subst h1
      simp
    · have h2 : ¬ z = y := fun e => h1 e.symm
      simp [h1, h2]
theorem flat_strs (ns : List Str) : (ns.map V.str).all flatV = true := by
  rw [List.all_map, List.all_eq_true]
  exact fun _ _ => rfl
theorem letters_join {zs : List Str} (h : ∀ z ∈ zs, ∃ c, ls z = [c] ∧ lowC c = true) : (zs.map ls).flatten.length = zs.length ∧ (∀ c ∈ (zs.map ls).flatten, lowC c = true) ∧ (zs.map (·.length)).sum = zs.length := by
  induction zs with
  | nil => exact ⟨rfl, (fun c hc => by cases hc), rfl⟩
  | cons z zs ih =>
    obtain ⟨h1, h2, h3⟩ := ih fun y hy => h y (List.mem_cons_of_mem _ hy)
    obtain ⟨c, e, hc⟩ := h z List.mem_cons_self
    refine ⟨?_, fun d hd => ?_, ?_⟩
    · rw [List.map_cons, List.flatten_cons, List.length_append, h1, e, List.length_singleton, List.length_cons]
      omega
    · rw [List.map_cons, List.flatten_cons, e, List.mem_append, List.mem_singleton] at hd
      rcases hd with rfl | hd
      · exact hc
      · exact h2 d hd
    · rw [List.map_cons, List.sum_cons, h3, List.length_cons, ls_len, e]
      show 1 + zs.length = _
      omega
end Kb
/-! sorted(t), t a tuple of texts. -/
namespace Ka
open PySem PySem.Spec PyProof.Rows L2
section
variable {prog : Program} {w : World} {A : Around} {E : Value → Shared → Prop} {s : Shared}
theorem sorted_tupS {a : Addr} {vs : List Value} {ss : List Str} {Q : Value → Shared → Prop} {o : Obj} {n : Nat} (ho : s.heap.get? a = some o) (hc : o.cls = .type "tuple") (hd : o.data = .seq vs.toArray n) (hS : StrsAre vs ss) (h64 : vs.length < 64)
    (h : ∀ (h1 h2 : Heap) (out : Array Value) (ss' : List Str) (e : Nat), (∀ b o, s.heap.get? b = some o → h1.get? b = some o) → (∀ b o, h1.get? b = some o → h2.get? b = some o) → h2.get? h1.objs.size = some (seqObj "list" out e) → StrsAre out.toList ss' → ss'.Perm ss → sortedS ss' = true →
      Q (.ref h1.objs.size) { s with heap := h2 }) : wpAny (model prog w) A (call (.builtin "sorted") [.ref a]) Q E s := by
  have hsz : vs.toArray.size ≤ sizeLine := by
    rw [List.size_toArray]
    exact small64 h64
  refine Calls.call_function_entry kind_sorted plain_sorted entry_sorted (args_sorted1 _) ?_
  unfold Builtin.«sorted»
  refine wpAny_bind (m := checkCount "sorted" 1 1 _) (wpAny_pure ?_)
  refine wpAny_bind (wpAny_collect_seq a (.inr rfl) ho hc hd (fun h1 k1 => ?_) hsz)
  refine wpAny_bind (wpAny_newList ?_ (by simpa using hsz))
  have hoL : (h1.push (seqObj "list" vs.toArray 0)).get? h1.objs.size = some (seqObj "list" vs.toArray 0) := Heap.get?_push_size _ rfl
  show wpAny _ _ _ _ _ { s with heap := h1.push (seqObj "list" vs.toArray 0) }
  refine wpAny_bind (wpAny_holding (wpAny_call_entry slot_list_sort ⟨_, hoL, rfl⟩ entry_list_sort (list_sort_treeK strKind_oneLt hoL hS.keysOf (fun v₁ v₂ rest e => keyKind_strs (by rw [← e]; exact hS)) h64 fun st' hp hs => ⟨_, rfl, ?_⟩) (args_list_sort _)))
  obtain ⟨ss', e1, e2, e3⟩ := sorted_out_str hS hp hs
  obtain ⟨e, he⟩ := sortedHeap_at (out := (arrOf st').map (·.2)) hoL
  refine wpAny_pure ⟨_, rfl, h h1 _ _ ss' e k1 (fun b o hb => ?_) he e1 e2 e3⟩
  have hlt := Heap.lt_size hb
  rw [sortedHeap_old (Nat.ne_of_lt hlt) (by rw [size_push']; exact Nat.lt_succ_of_lt hlt)]
  exact Heap.get?_push_of_some _ hb
end
def rSortedT (K : PySem.W.Frag) : List V → Hp → VK → Prop := fun vs H Q => ∃ (a : Addr) (xs : List Str), vs = [V.ref a] ∧ SqT K H a (xs.map V.str) ∧ xs.length < 64 ∧
  ∀ (ys : List Str) (p : Addr), ys.Perm xs → sortedS ys = true → H p = none → Q (.ref p) (upd H p (.lst (ys.map V.str)))
theorem cr_sortedT {X : Cx} : CallR X (.builtin "sorted") (rSortedT X.K) := by
  intro pins s σ H vs us Q I r h
  obtain ⟨a, xs, rfl, hs, h64, q⟩ := h
  obtain ⟨its, rv, ht, _⟩ := I.tuple hs
  rw [Vals.ref1 r]
  have hlen0 := rv.length
  rw [List.length_map] at hlen0
  obtain ⟨o, ho, hc, n, hd⟩ := ht
  refine sorted_tupS ho hc hd rv.strs (by rw [← hlen0]; exact h64) fun h1 h2 out ys e k1 k2 he e1 e2 e3 => ?_
  have hlen : (ys.map V.str).length ≤ sizeLine := by rw [List.length_map, e2.length_eq]; exact small64 h64
  have I1 : Inv X pins σ H { s with heap := h1, toks := s.toks } := I.kept k1
  exact ⟨.ref h1.objs.size, upd H h1.objs.size (.lst (ys.map V.str)), I1.laid (t' := s.toks) k2 (Nat.le_refl _) ⟨hlen, out.toList, e, vals_of_strs e1, he⟩, rfl, q ys _ e2 e3 (I1.hok.fresh (Nat.le_refl _))⟩
end Ka
/-! sorted(set(t)), t a tuple of texts. -/
namespace Ka
open PySem PySem.Spec PyProof.Rows L2
/-- just the texts of L, each once -/
def Of (es : List (Int × Value)) (L : List Str) : Prop := (∀ x : Str, x ∈ L ↔ ∃ e ∈ es, ∃ t, e.2 = .str x t) ∧ es.Pairwise (fun e f => ∀ x t u, e.2 = .str x t → f.2 = .str x u → False) ∧ es.length ≤ L.length
theorem Of.perm {es fs : List (Int × Value)} {L : List Str} (h : Of es L) (p : fs.Perm es) : Of fs L := by
  refine ⟨fun x => (h.1 x).trans ⟨fun ⟨e, he, t⟩ => ⟨e, p.mem_iff.mpr he, t⟩, fun ⟨e, he, t⟩ => ⟨e, p.mem_iff.mp he, t⟩⟩, ?_, by rw [p.length_eq]; exact h.2.2⟩
  exact (p.pairwise_iff fun {a b} hab x t u e1 e2 => hab x u t e2 e1).mpr h.2.1
theorem Of.there {es : List (Int × Value)} {L : List Str} (h : Of es L) {x : Str} {e : Int × Value} {t : Tok} (he : e ∈ es) (ee : e.2 = .str x t) : Of es (L ++ [x]) := by
  refine ⟨fun y => ?_, h.2.1, by rw [List.length_append]; exact Nat.le_trans h.2.2 (Nat.le_add_right _ _)⟩
  rw [List.mem_append, List.mem_singleton]
  refine ⟨fun z => z.elim (fun z => (h.1 y).mp z) fun z => ⟨e, he, t, by rw [z]; exact ee⟩, fun z => .inl ((h.1 y).mpr z)⟩
theorem Of.add {es : List (Int × Value)} {L : List Str} (h : Of es L) {x : Str} {k : Int} {t : Tok} (no : ∀ e ∈ es, ∀ u, e.2 ≠ .str x u) : Of (es ++ [(k, .str x t)]) (L ++ [x]) := by
  refine ⟨fun y => ?_, ?_, by rw [List.length_append, List.length_append]; exact Nat.add_le_add_right h.2.2 _⟩
  · rw [List.mem_append, List.mem_singleton]
    constructor
    · rintro (z | rfl)
      · obtain ⟨e, he, u, hu⟩ := (h.1 y).mp z
        exact ⟨e, List.mem_append_left _ he, u, hu⟩
      · exact ⟨_, List.mem_append_right _ List.mem_cons_self, t, rfl⟩
    · rintro ⟨e, he, u, hu⟩
      rcases List.mem_append.mp he with z | z
      · exact .inl ((h.1 y).mpr ⟨e, z, u, hu⟩)
      · rw [List.mem_singleton.mp z] at hu
        cases hu
        exact .inr rfl
  · rw [List.pairwise_append]
    refine ⟨h.2.1, List.pairwise_singleton _ _, fun e he f hf y t' u e1 e2 => ?_⟩
    rw [List.mem_singleton.mp hf] at e2
    cases e2
    exact no e he _ e1
/-- a set of just the texts of L at a; its table rises -/
def SetM (P : Program) (w : World) (h : Heap) (a : Addr) (L : List Str) : Prop :=
  ∃ ob es ep tb, h.get? a = some ob ∧ ob.ExactSet ∧ ob.data = .set es ep tb ∧ ElemsOf (strKind P w) es.toList ∧ Of es.toList L ∧ es.size < scanBound ∧ tb.fits es.size = true ∧ Ris tb.place.toList ∧ (w.params.followText "set-order" = true ∨ tb.led = true)
theorem SetM.up {P : Program} {w : World} {h h' : Heap} {a : Addr} {m : List Str} (S : SetM P w h a m) (k : ∀ o, h.get? a = some o → h'.get? a = some o) : SetM P w h' a m := by
  obtain ⟨ob, es, ep, tb, z, rest⟩ := S
  exact ⟨ob, es, ep, tb, k _ z, rest⟩
section
variable {P : Program} {w : World} {A : Around} {E : Value → Shared → Prop} {s : Shared} {a : Addr} {m : List Str}
theorem setM_tail {gv : Bool → Sem Unit} (hgv : ∀ (b : Bool) (s1 : Shared) (Z : Unit → Shared → Prop), Z () s1 → wpAny (model P w) A (gv b) Z E s1) {ob : Obj} {es : Array (Int × Value)} {ep : Nat} {tb : SetTable} (z0 : s.heap.get? a = some ob) (zx : ob.ExactSet) (zd : ob.data = .set es ep tb)
    {es1 : Array (Int × Value)} {tb2 : SetTable} (el1 : ElemsOf (strKind P w) es1.toList) (m1 : Of es1.toList m) (b1 : es1.size < scanBound) (f2 : tb2.fits es1.size = true) (r2 : Ris tb2.place.toList) (l2 : w.params.followText "set-order" = true ∨ tb2.led = true) {was : Bool} {R : Option Bool → Shared → Prop}
    (fin : ∀ h2, Heap.SameBut a s.heap h2 → SetM P w h2 a m → R (some true) { s with heap := h2 }) :
    wpAny (model P w) A (do
        storeSet a es1 tb2
        if (!was && tb2.tooFull) = true then do
            gv (relayAll tb2 es1 (SetTable.grown es1.size)).2.2
            storeSet a (relayAll tb2 es1 (SetTable.grown es1.size)).1 (relayAll tb2 es1 (SetTable.grown es1.size)).2.1
            pure (some true)
          else pure (some true)) R E s := by
  refine wpAny_bind (wpAny_storeSet_of z0 zd ?_ (fits_of_scanBound b1))
  have z1 := store_at (es' := es1) (t' := tb2) z0 zd
  have same1 := Heap.SameBut.update s.heap a (Obj.putSet es1 tb2)
  split
  · have q1 := relayAll_perm tb2 es1 (SetTable.grown es1.size)
    have q2 := relayAll_fits tb2 es1 (SetTable.grown es1.size)
    have q3 := relayAll_ris tb2 es1 (SetTable.grown es1.size)
    have q4 := relayAll_led tb2 es1 (SetTable.grown es1.size)
    generalize relayAll tb2 es1 (SetTable.grown es1.size) = Y at q1 q2 q3 q4 ⊢
    obtain ⟨es2, tb3, gave⟩ := Y
    dsimp only at q1 q2 q3 q4 ⊢
    have size2 : es2.size = es1.size := by rw [← Array.length_toList, q1.length_eq, Array.length_toList]
    refine wpAny_bind (hgv _ _ _ ?_)
    refine wpAny_bind (wpAny_storeSet_of z1 rfl ?_ (fits_of_scanBound (by rw [size2]; exact b1)))
    have z2 := store_at (es' := es2) (t' := tb3) z1 rfl
    refine wpAny_pure (fin _ (same1.trans (Heap.SameBut.update _ a _)) ⟨_, es2, _, tb3, z2, zx, rfl, el1.perm q1, m1.perm q1, by rw [size2]; exact b1, q2, q3, l2.imp id fun y => by rw [q4]; exact y⟩)
  · exact wpAny_pure (fin _ same1 ⟨_, es1, _, tb2, z1, zx, rfl, el1, m1, b1, f2, r2, l2⟩)
theorem setM_add {x : Str} {tk : Tok} {Q : Bool → Shared → Prop} (S : SetM P w s.heap a m) (room : m.length + 1 < scanBound) (fin : ∀ (b : Bool) (h2 : Heap), Heap.SameBut a s.heap h2 → SetM P w h2 a (m ++ [x]) → Q b { s with heap := h2 }) :
    wpAny (model P w) A (setAddHashed a (.str x tk) ((strKind P w).hash x)) Q E s := by
  obtain ⟨ob, es, ep, tb, z0, zx, zd, el, me, bo, fi, ri, le⟩ := S
  have ky : (strKind P w).is x (.str x tk) = true := strKind_is P w x tk
  have scn : (Value.str x tk).scannable = true := rfl
  unfold setAddHashed setAddHashedIn
  refine wpAny_holding (wpAny_bind (wpAny_setState_of z0 zd fi ?_))
  dsimp only
  rw [byScan_of scn bo el]
  simp only [↓reduceIte]
  unfold setAddByScan
  refine wpAny_bind (wpAny_bind (wpAny_rule (wpAny_bind (wpAny_setScan_of ky z0 zd fi el ?_))))
  cases found : List.findIdx? (fun e => (strKind P w).is x e.2) es.toList with
  | some j =>
    dsimp only
    obtain ⟨hj, hx, _⟩ := List.findIdx?_eq_some_iff_getElem.mp found
    obtain ⟨t, ht⟩ := Value.isStrOf_shape hx
    exact wpAny_pure (wpAny_pure (fin _ s.heap (Heap.SameBut.refl a s.heap) ⟨ob, es, ep, tb, z0, zx, zd, el, me.there (List.getElem_mem hj) ht, bo, fi, ri, le⟩))
  | none =>
    dsimp only
    have told : ∀ (b : Bool) {s1 : Shared} {Z : Unit → Shared → Prop}, Z () s1 → wpAny (model P w) A (match b with | true => rule "set.scan.the-table-gave-way" | false => pure ()) Z E s1 := fun b s1 Z y => by
      cases b
      · exact wpAny_pure y
      · exact wpAny_rule y
    have q1 := layNew_perm tb es ((strKind P w).hash x) (.str x tk)
    have q2 := layNew_fits tb es ((strKind P w).hash x) (.str x tk)
    have q3 := layNew_ris tb es ((strKind P w).hash x) (.str x tk) ri
    have q4 := layNew_led tb es ((strKind P w).hash x) (.str x tk)
    generalize layNew tb es ((strKind P w).hash x) (.str x tk) = Y at q1 q2 q3 q4 ⊢
    obtain ⟨es1, tb1, was, gave⟩ := Y
    dsimp only at q1 q2 q3 q4 ⊢
    rw [Array.toList_push] at q1
    have el1 : ElemsOf (strKind P w) es1.toList := (el.push ky scn).perm q1
    have size1 : es1.size = es.size + 1 := by rw [← Array.length_toList, q1.length_eq, List.length_append, Array.length_toList]; rfl
    have no : ∀ e ∈ es.toList, ∀ u, e.2 ≠ .str x u := fun e he u ee => by
      have := List.findIdx?_eq_none_iff.mp found e he
      rw [ee, strKind_is] at this
      cases this
    have m1 : Of es1.toList (m ++ [x]) := (me.add no).perm q1
    have few := me.2.2
    rw [Array.length_toList] at few
    have b1 : es1.size < scanBound := by omega
    have le1 : w.params.followText "set-order" = true ∨ tb1.led = true := le.imp id fun y => by rw [q4]; exact y
    refine wpAny_bind (told _ ?_)
    split
    · refine wpAny_bind ?_
      rw [hashByValue_scannable 8 scn]
      refine wpAny_pure ?_
      refine setM_tail (m := m ++ [x]) ?_ z0 zx zd el1 m1 b1 ?_ ?_ ?_ ?_
      · intro b s1 Z y
        cases b
        · exact wpAny_pure y
        · exact wpAny_rule y
      · split
        · exact q2
        · exact SetTable.fits_plain_off q2
      · split <;> exact q3
      · split <;> exact le1
      · intro h2 sb S2
        dsimp only
        exact wpAny_pure (fin _ h2 sb S2)
    · refine wpAny_bind (wpAny_pure ?_)
      simp only [↓reduceIte]
      refine setM_tail (m := m ++ [x]) ?_ z0 zx zd el1 m1 b1 q2 q3 le1 ?_
      · intro b s1 Z y
        cases b
        · exact wpAny_pure y
        · exact wpAny_rule y
      · intro h2 sb S2
        dsimp only
        exact wpAny_pure (fin _ h2 sb S2)
theorem setM_new {h : Heap} (z : h.get? a = some { cls := .type "set", dict := none, data := .set #[] 0 (.fresh 0 0 (!w.params.followText "set-order")) }) : SetM P w h a [] := by
  refine ⟨_, #[], 0, _, z, ⟨rfl, rfl, rfl⟩, rfl, (fun e he => by simp at he), ⟨fun x => ⟨(fun q => nomatch q), (fun ⟨e, he, _⟩ => by simp at he)⟩, List.Pairwise.nil, Nat.le_refl _⟩, (by decide), (by rfl), List.Pairwise.nil, ?_⟩
  show _ ∨ (!w.params.followText "set-order") = true
  cases w.params.followText "set-order"
  · exact .inr rfl
  · exact .inl rfl
theorem setM_loop {I : Addr} {fp wr : List Addr} {G : Array GenState → Array GenState → Prop} {n : Nat} {Pv : Nat → Value → Prop} {St : Nat → Shared → Prop} {R : Result → Shared → Prop} (W : WalksS P w A.in1 I fp wr G n Pv St) (D : Addr) (hD : D ∉ fp) (hb : n + 1 < scanBound) (xs : List Str) (hn : xs.length = n) (txt : ∀ i v, Pv i v → ∃ x tk, v = .str x tk ∧ xs[i]? = some x)
    (out : ∀ s2, Moved (D :: wr) G s s2 → SetM P w s2.heap D xs → R (.ok (.ret .none)) s2) (st0 : St 0 s) (S0 : SetM P w s.heap D []) : codeAny (model P w) A (.builtin "set.update.loop" ⟨[.ref D, .ref I], []⟩) R s := by
  have hDw : D ∉ wr := fun z => hD (W.sub _ z)
  have more : ∀ b ∈ wr, b ∈ D :: wr := fun b z => List.mem_cons_of_mem _ z
  suffices H : ∀ (k i : Nat) (s1 : Shared), n - i = k → i ≤ n → Moved (D :: wr) G s s1 → St i s1 → SetM P w s1.heap D (xs.take i) → codeAny (model P w) A (.builtin "set.update.loop" ⟨[.ref D, .ref I], []⟩) R s1 from H (n - 0) 0 s rfl (Nat.zero_le _) (Moved.refl W.grefl) st0 S0
  intro k
  induction k with
  | zero =>
    intro i s1 hk hi mv st S1
    obtain rfl : i = n := by omega
    rw [← hn, List.take_length] at S1
    refine codeAny_builtin F.entry_set_update_loop ?_
    rw [Around.under_plainId F.plain_set_update_loop _]
    show wpAny _ A.in1 (pyNext (.ref I) >>= _) _ _ s1
    refine wpAny_bind (W.done s1 _ _ st fun s2 m2 => ?_)
    show wpAny _ A.in1 (ret Value.none) _ _ s2
    exact wpAny_pure (out s2 (Moved.trans W.gtrans mv (m2.mono more)) (S1.up fun o e => m2.heap D o hDw e))
  | succ k ih =>
    intro i s1 hk hi mv st S1
    have lt : i < n := by omega
    refine codeAny_builtin F.entry_set_update_loop ?_
    rw [Around.under_plainId F.plain_set_update_loop _]
    show wpAny _ A.in1 (pyNext (.ref I) >>= _) _ _ s1
    refine wpAny_bind (W.item i s1 _ _ lt st fun v s2 pv st2 m2 => ?_)
    obtain ⟨x, tk, rfl, hx⟩ := txt i v pv
    have S2 : SetM P w s2.heap D (xs.take i) := S1.up fun o e => m2.heap D o hDw e
    show wpAny _ A.in1 (holding [Value.str x tk] (setAdd D (.str x tk)) >>= _) _ _ s2
    refine wpAny_bind (wpAny_holding ?_)
    unfold setAdd
    refine wpAny_holding (wpAny_bind ((strKind P w).pyHash (k := x) (strKind_is _ _ _ _) ?_))
    refine setM_add (s := { s2 with toks := s2.toks + 1 }) S2 (by rw [List.length_take]; omega) fun b h2 sb S3 => ?_
    have S3 : SetM P w h2 D (xs.take (i + 1)) := by
      rw [List.take_add_one, hx]
      exact S3
    refine wpAny_pure ⟨plainId_quiet F.plain_set_update_loop _, ih (i + 1) _ (by omega) lt ?_ (W.frame _ s2 _ _ st2 (Nat.le_succ _) fun c hc o e => ?_) S3⟩
    · refine Moved.trans W.gtrans mv ((m2.mono more).then_heap (Nat.le_succ _) fun c o hc e => ?_)
      rw [sb.2 c (fun z => hc (by rw [z]; exact List.mem_cons_self))]
      exact e
    · rw [sb.2 c (fun z => hD (by rw [← z]; exact hc))]
      exact e
/-- what set() makes first -/
def bareM (w : World) : Obj := { cls := .type "set", dict := none, data := .set #[] 0 (.fresh 0 0 (!w.params.followText "set-order")) }
theorem strsAtM {vs : List Value} {xs : List Str} (h : StrsAre vs xs) : ∀ (i : Nat) (v : Value), vs[i]? = some v → ∃ x tk, v = .str x tk ∧ xs[i]? = some x := fun i v e => by
  obtain ⟨tk, z⟩ := SS.strs_at h i v e
  have hl := PyProof.Rows.StrsAre.length h
  obtain ⟨hi, _⟩ := List.getElem?_eq_some_iff.mp e
  refine ⟨_, tk, z, ?_⟩
  first
    | (rw [List.getD_eq_getElem?_getD, List.getElem?_eq_getElem (by omega)]; rfl)
    | (rw [List.getElem?_eq_getElem (by omega)]; simp)
set_option maxHeartbeats 6400000 in
theorem set_tupM {l : Addr} {its : Array Value} {xs : List Str} {Q : Value → Shared → Prop} (cold : A.handled = none) (tl : s.heap.IsTuple l its) (txt : StrsAre its.toList xs) (few : its.size + 1 < scanBound)
    (fin : ∀ (h2 : Heap) (tk : Nat), SetM P w h2 s.heap.objs.size xs → (∀ b o, s.heap.get? b = some o → h2.get? b = some o) → Q (.ref s.heap.objs.size) { s with heap := h2, toks := tk }) :
    wpAny (model P w) A (call (.type "set") [.ref l]) Q E s := by
  obtain ⟨c, rest, hmro⟩ := F.called_set.mro
  have hmade := F.called_set.made
  have hsub := F.called_set.sub
  refine wpAny_call (codeAny_of_tree ?_)
  show wpAny _ _ (callAny (.type "set") _) _ _ _
  refine wpAny_pure ⟨Code.quiet_builtin _ (by decide +kernel), codeAny_builtin F.entry_type_call ?_⟩
  rw [Around.under_plain (weight_type_call_type "set" [.ref l] []) rfl]
  have h1 := F.called_set.notType
  have h2 := F.called_set.canCreate
  have hct := F.typeCall_set_1 (.ref l)
  repeat (any_goals (first | assumption | wp_step))
  refine codeAny_mono (code_set_led1 (.ref l) (E := E) (Q₁ := fun ob s1 => ob = .ref s.heap.objs.size ∧ s1 = { s with heap := s.heap.push (bareM w) }) ⟨rfl, rfl⟩) fun r s1 hr => ?_
  cases r with
  | error e => exact hr
  | ok fl =>
    cases fl with
    | ret ob =>
      obtain ⟨rfl, rfl⟩ := hr
      have z0 : (s.heap.push (bareM w)).get? s.heap.objs.size = some (bareM w) := Heap.get?_push_size _ rfl
      have hT : Shared.TypeIs { s with heap := s.heap.push (bareM w) } (.ref s.heap.objs.size) "set" := ⟨_, z0, rfl⟩
      have hli := F.called_set.init.lookup
      have hbi := F.called_set.init.bind (.ref s.heap.objs.size)
      repeat (any_goals (first | assumption | wp_step))
      refine codeAny_mono (codeAny_call_builtin (R := wants (fun r s2 => r = .none ∧ ∃ h2 tk, s2 = { s with heap := h2, toks := tk } ∧ SetM P w h2 s.heap.objs.size xs ∧ ∀ b o, s.heap.get? b = some o → h2.get? b = some o) E) F.called_set.init.plain F.entry_set_init (check_set_init_1 hT ?_)) fun r2 s2 hr2 => ?_
      · obtain ⟨⟨cls, dict, data, slots⟩, gl, cl, nl, dl⟩ := tl
        simp only at cl dl
        subst cl dl
        have gl1 : (s.heap.push (bareM w)).get? l = some { cls := .type "tuple", dict := dict, data := .seq its nl, slots := slots } := Heap.get?_push_of_some _ gl
        have hsls := F.sub_tuple_set
        have hslf := F.sub_tuple_frozenset
        have hne : (Value.type "tuple" == Value.type "dict") = false := by decide
        have tl1 : (s.heap.push (bareM w)).IsTuple l its := ⟨_, gl1, rfl, nl, rfl⟩
        unfold Builtin.«set.__init__» noKeywords Builtin.Frozenset.updateFrom
        generalize walkP : pyIter = Pit
        wp_walk
        subst walkP
        refine wpAny_pyIter_tuple tl1 ?_
        refine wpAny_bind (wpAny_runValue ?_)
        have lt0 : l < s.heap.objs.size := Heap.lt_size gl
        have cold3 : A.in1.in1.in1.handled = none := by simp [cold]
        have lt1 : l ≠ (s.heap.push (bareM w)).objs.size := by
          rw [Heap.size_push]
          exact Nat.ne_of_lt (Nat.lt_succ_of_lt lt0)
        have hD : s.heap.objs.size ∉ [(s.heap.push (bareM w)).objs.size, l] := by
          rw [Heap.size_push]
          simp only [List.mem_cons, List.mem_singleton, List.not_mem_nil, or_false, not_or]
          exact ⟨Nat.ne_of_lt (Nat.lt_succ_self _), Nat.ne_of_gt lt0⟩
        refine setM_loop ((Walks.tuple cold3 _ l lt1 its).toS) s.heap.objs.size hD few xs (by have := PyProof.Rows.StrsAre.length txt; rw [Array.length_toList] at this; omega) (fun i v e => strsAtM txt i v (by rw [Array.getElem?_toList]; exact e)) ?_ ⟨⟨_, Heap.get?_push_size _ rfl, rfl, rfl⟩, tl1.push _⟩ (setM_new (Heap.get?_push_of_some _ z0))
        intro s2 mv S2
        obtain ⟨h2, g2, d2, tk2, o2⟩ := s2
        obtain rfl : g2 = s.gens := mv.gens
        obtain rfl : d2 = s.drawn := mv.drawn
        obtain rfl : o2 = s.os := mv.os
        show wpAny _ _ _ _ _ _
        refine wpAny_pure ?_
        show wpAny _ _ (ret Value.none) _ _ _
        refine wpAny_pure ⟨rfl, h2, tk2, rfl, S2, fun b o e => ?_⟩
        have lb : b < s.heap.objs.size := Heap.lt_size e
        have nb : b ≠ (s.heap.push (bareM w)).objs.size := by
          rw [Heap.size_push]
          exact Nat.ne_of_lt (Nat.lt_succ_of_lt lb)
        exact mv.heap b o (by simp only [List.mem_cons, List.mem_singleton, List.not_mem_nil, or_false, not_or]; exact ⟨Nat.ne_of_lt lb, nb⟩) (Heap.get?_push_of_some _ (Heap.get?_push_of_some _ e))
      · cases r2 with
        | error e => exact hr2
        | ok fl2 =>
          cases fl2 with
          | ret r =>
            obtain ⟨rfl, h2, tk, rfl, S2, k2⟩ := hr2
            repeat (any_goals (first | assumption | wp_step))
            exact fin _ _ S2 k2
          | _ => exact hr2.elim
    | _ => exact hr.elim
theorem strsOfM : ∀ vs : List Value, (∀ v ∈ vs, ∃ x tk, v = .str x tk) → ∃ xs : List Str, StrsAre vs xs
  | [], _ => ⟨[], .nil⟩
  | v :: vs, h => by
    obtain ⟨x, tk, rfl⟩ := h v List.mem_cons_self
    obtain ⟨xs, hx⟩ := strsOfM vs fun u hu => h u (List.mem_cons_of_mem _ hu)
    exact ⟨x :: xs, .cons x tk hx⟩
theorem strs_mem {x : Str} : ∀ {vs : List Value} {xs : List Str}, StrsAre vs xs → (x ∈ xs ↔ ∃ t, Value.str x t ∈ vs) := by
  intro vs xs h
  induction h with
  | nil => simp
  | cons y tk h ih =>
    rw [List.mem_cons, ih]
    constructor
    · rintro (rfl | ⟨t, ht⟩)
      · exact ⟨tk, List.mem_cons_self⟩
      · exact ⟨t, List.mem_cons_of_mem _ ht⟩
    · rintro ⟨t, ht⟩
      rcases List.mem_cons.mp ht with z | z
      · cases z
        exact .inl rfl
      · exact .inr ⟨t, z⟩
theorem strs_nodup : ∀ {vs : List Value} {xs : List Str}, StrsAre vs xs → vs.Pairwise (fun e f => ∀ x t u, e = Value.str x t → f = .str x u → False) → xs.Nodup := by
  intro vs xs h
  induction h with
  | nil => exact fun _ => List.nodup_nil
  | cons y tk h ih =>
    intro p
    obtain ⟨p1, p2⟩ := List.pairwise_cons.mp p
    refine List.nodup_cons.mpr ⟨fun z => ?_, ih p2⟩
    obtain ⟨t, ht⟩ := (strs_mem h).mp z
    exact p1 _ ht y tk t rfl rfl
theorem sorted_setM {Q : Value → Shared → Prop} (S : SetM P w s.heap a m) (cold : A.handled = none) (few : m.length < 64)
    (fin : ∀ (s2 : Shared) (p : Addr) (out : Array Value) (c : Nat) (ys : List Str), (∀ b o, s.heap.get? b = some o → s2.heap.get? b = some o) → s2.gens = s.gens → s2.os = s.os → s.heap.objs.size ≤ p → s2.heap.get? p = some (seqObj "list" out c) → StrsAre out.toList ys → sortedS ys = true → ys.Nodup → (∀ x, x ∈ ys ↔ x ∈ m) → Q (.ref p) s2) :
    wpAny (model P w) A (call (.builtin "sorted") [.ref a]) Q E s := by
  obtain ⟨ob, es, ep, tb, z0, zx, zd, el, me, bo, fi, ri, le⟩ := S
  refine Calls.call_function_entry kind_sorted plain_sorted entry_sorted (args_sorted1 _) ?_
  unfold Builtin.«sorted»
  refine wpAny_bind (m := checkCount "sorted" 1 1 _) (wpAny_pure ?_)
  refine wpAny_bind (collect_set (A := A.in1) cold ⟨ob, z0, zx.1, zd⟩ fi bo ri le fun s1 vs k1 hz g1 o1 pm => ?_)
  have vl : vs.length ≤ m.length := by rw [pm.length_eq, List.length_map]; exact me.2.2
  obtain ⟨xs, hS⟩ := strsOfM vs fun v hv => by
    obtain ⟨e, he, rfl⟩ := List.mem_map.mp (pm.mem_iff.mp hv)
    obtain ⟨⟨k, hk, _⟩, _⟩ := el e he
    obtain ⟨tk, z⟩ := Value.isStrOf_shape hk
    exact ⟨k, tk, z⟩
  have memX : ∀ x, x ∈ xs ↔ x ∈ m := fun x => by
    rw [me.1 x, strs_mem hS]
    constructor
    · rintro ⟨t, ht⟩
      obtain ⟨e, he, ee⟩ := List.mem_map.mp (pm.mem_iff.mp ht)
      exact ⟨e, he, t, ee⟩
    · rintro ⟨e, he, t, ee⟩
      exact ⟨t, pm.mem_iff.mpr (List.mem_map.mpr ⟨e, he, ee⟩)⟩
  have ndX : xs.Nodup := strs_nodup hS ((pm.pairwise_iff fun {a b} hab x t u e1 e2 => hab x u t e2 e1).mpr (List.pairwise_map.mpr me.2.1))
  refine wpAny_bind (wpAny_newList ?_ (by rw [sizeLine_eq]; omega))
  have hoL : (s1.heap.push (seqObj "list" vs.toArray 0)).get? s1.heap.objs.size = some (seqObj "list" vs.toArray 0) := Heap.get?_push_size _ rfl
  refine wpAny_bind (wpAny_holding (wpAny_call_entry slot_list_sort ⟨_, hoL, rfl⟩ entry_list_sort (list_sort_treeK strKind_oneLt hoL hS.keysOf (fun v₁ v₂ rest e => keyKind_strs (by rw [← e]; exact hS)) (by omega) fun st' hp hs => ⟨_, rfl, ?_⟩) (args_list_sort _)))
  obtain ⟨ys, e1, e2, e3⟩ := sorted_out_str hS hp hs
  obtain ⟨c, hc⟩ := sortedHeap_at (out := (arrOf st').map (·.2)) hoL
  have hxl := PyProof.Rows.StrsAre.length hS
  refine wpAny_pure ⟨_, rfl, fin _ s1.heap.objs.size _ c ys (fun b o hb => ?_) g1 o1 hz hc e1 e3 (e2.nodup_iff.mpr ndX) (fun x => e2.mem_iff.trans (memX x))⟩
  have y := k1 b o hb
  have hlt := Heap.lt_size y
  show (sortedHeap (s1.heap.push (seqObj "list" vs.toArray 0)) s1.heap.objs.size vs _).get? b = some o
  rw [sortedHeap_old (Nat.ne_of_lt hlt) (by rw [size_push']; exact Nat.lt_succ_of_lt hlt)]
  exact Heap.get?_push_of_some _ y
end
theorem sub_len {α : Type} [DecidableEq α] : ∀ {ys zs : List α}, ys.Nodup → (∀ x ∈ ys, x ∈ zs) → ys.length ≤ zs.length
  | [], _, _, _ => Nat.zero_le _
  | y :: ys, zs, nd, h => by
    have nd := List.nodup_cons.mp nd
    have hy := h y List.mem_cons_self
    have := sub_len (zs := zs.erase y) nd.2 fun x hx => (List.mem_erase_of_ne fun (e : x = y) => nd.1 (by rw [← e]; exact hx)).mpr (h x (List.mem_cons_of_mem _ hx))
    rw [List.length_erase_of_mem hy] at this
    have hp : 0 < zs.length := List.length_pos_of_mem hy
    rw [List.length_cons]
    omega
/-- the set's place in H -/
def SetMO (P : Program) (w : World) (a : Addr) (m : List Str) : HO := .ext fun h => SetM P w h a m
theorem setMO_ok {P : Program} {w : World} {H : Hp} {h : Heap} {a : Addr} {m : List Str} (S : SetM P w h a m) : ObjOk P w H h a (SetMO P w a m) := by
  have ⟨ob, _, _, _, z, _⟩ := S
  exact ⟨S, ⟨ob, z⟩, fun h1 h2 p k => SetM.up p k⟩
def rSetM (K : PySem.W.Frag) (P : Program) (w : World) : List V → Hp → VK → Prop := fun vs H Q => ∃ (l : Addr) (xs : List Str), vs = [.ref l] ∧ SqT K H l (xs.map V.str) ∧ xs.length < 64 ∧ ∀ a, H a = none → Q (.ref a) (upd H a (SetMO P w a xs))
theorem cr_setM {X : Cx} (hc : X.calm = true) : CallR X (.type "set") (rSetM X.K X.prog X.w) := by
  intro pins s σ H vs us Q I r h
  obtain ⟨l, xs, rfl, ht, few, q⟩ := h
  rw [Vals.ref1 r]
  obtain ⟨its, rv, tl, hz⟩ := I.tuple ht
  have ln := rv.length
  rw [List.length_map] at ln
  have hn : H s.heap.objs.size = none := I.hok.fresh (Nat.le_refl _)
  refine set_tupM (P := X.prog) (w := X.w) (I.ok.hd hc) tl rv.strs (by rw [List.size_toArray, ← ln]; show _ < 4096; omega) fun h2 tk S k => ?_
  exact ⟨.ref s.heap.objs.size, _, I.laid (t' := tk) k (Nat.le_refl _) (setMO_ok S), rfl, q _ hn⟩
def rSortM (P : Program) (w : World) : List V → Hp → VK → Prop := fun vs H Q => ∃ (a : Addr) (m : List Str), vs = [.ref a] ∧ H a = some (SetMO P w a m) ∧ m.length < 64 ∧ ∀ (ys : List Str) (p : Addr), sortedS ys = true → ys.Nodup → (∀ x, x ∈ ys ↔ x ∈ m) → H p = none → Q (.ref p) (upd H p (.lst (ys.map V.str)))
theorem cr_sortM {X : Cx} (hc : X.calm = true) : CallR X (.builtin "sorted") (rSortM X.prog X.w) := by
  intro pins s σ H vs us Q I r h
  obtain ⟨a, m, rfl, ha, few, q⟩ := h
  have S : SetM X.prog X.w s.heap a m := (I.hok a _ ha).1
  rw [Vals.ref1 r]
  refine sorted_setM S (I.ok.hd hc) few fun s2 p out c ys k g o hp hg e1 e2 e3 e4 => ?_
  have hn : H p = none := I.hok.fresh hp
  have len : (ys.map V.str).length ≤ sizeLine := by
    rw [List.length_map, sizeLine_eq]
    have := sub_len (zs := m) e3 fun x hx => (e4 x).mp hx
    omega
  have J : Inv X pins σ (upd H p (.lst (ys.map V.str))) { s with heap := s2.heap, gens := s2.gens, drawn := s2.drawn, toks := s2.toks } :=
    I.call (ch := []) (Un.laid k hp hn) (I.hok.laid k hp ⟨len, out.toList, c, vals_of_strs e1, hg⟩) (by rw [g]; exact I.bare) (fun _ z => nomatch z)
  have e : s2 = { s with heap := s2.heap, gens := s2.gens, drawn := s2.drawn, toks := s2.toks } := by
    cases s2
    cases s
    cases o
    rfl
  rw [e]
  exact ⟨.ref p, _, J, rfl, q ys p e2 e3 e4 hn⟩
end Ka
namespace Kb
open PySem PySem.Spec PyProof.Rows L2
theorem inSeq_at {X : Cx} {K : PySem.W.Frag} (h : X.K = K) : OpR X (compareOp .In) (rIn K false) := by
  subst h
  exact op_in_seq
/-- whether no other row has it -/
def ownB (M : MK) (d z : Str) : Bool := !((M.filter fun t2 => decide (t2.1 ≠ d)).any fun t2 => decide (z ∈ t2.2.2))
theorem ownB_iff {M : MK} {d z : Str} : ownB M d z = true ↔ ¬ ∃ t' ∈ M, t'.1 ≠ d ∧ z ∈ t'.2.2 := by
  unfold ownB
  rw [Bool.not_eq_true', Bool.eq_false_iff, ne_eq, List.any_eq_true]
  refine not_congr ⟨fun ⟨t, ht, h⟩ => ?_, fun ⟨t, ht, h1, h2⟩ => ⟨t, List.mem_filter.mpr ⟨ht, decide_eq_true h1⟩, decide_eq_true h2⟩⟩
  obtain ⟨h1, h2⟩ := List.mem_filter.mp ht
  exact ⟨t, h1, of_decide_eq_true h2, of_decide_eq_true h⟩
section
variable {P : Program} {w : World} {K : PySem.W.Frag} {mg : Str → Option Value} {base : Heap}
abbrev nOw : List Str := ["making", "found", "deed", "lot", "one", "other"]
theorem scOwned : FnScope nOw ["making"] (defScope sOwned) := ⟨rfl, rfl, rfl, by decide +kernel, rfl, by decide +kernel, by decide +kernel⟩
theorem ok_owned {f : Addr} {fd : FuncData} (F : Fun K "_law_owned" "_law_owned" sOwned f fd) (ms : mg "sorted" = none) (mt : mg "tuple" = none) (ml : mg "list" = none) (me : mg "set" = none) (ma : mg "any" = none) : FnOk P w K mg base CX0 1 f fd ["making"] spOwnD := by
  refine F.ok scOwned (fun vs H Q E h => ?_) (fun cdv A outer s H vs Q E hr h => ?_)
  · obtain ⟨d, M, rfl, _⟩ := h
    rfl
  · obtain ⟨d, M, rfl, hd, hM, ft, q⟩ := h
    refine ⟨_, pss_cons (ps_set (i := 1) scOwned.nd rfl (.inl rfl) pe_dnewK)
      (pss_cons (ps_for PassesOwn.never rfl (pi_list (pe_callB cr_sortedS (by rfl) ms (by decide +kernel) (pa_cons (pe_callTy (call_listD rfl) (by rfl) ml (by decide +kernel) (pa_cons (pv 0) pa_nil)) pa_nil))) (pg_name (i := 2) scOwned.nd rfl (.inr rfl))
        (pss_cons (ps_set (i := 3) scOwned.nd rfl (.inl rfl) (pe_lst pa_nil))
        (pss_cons (ps_for PassesOwn.never rfl (pi_list (pe_callB (Ka.cr_sortM rfl) (by rfl) ms (by decide +kernel) (pa_cons (pe_callTy (Ka.cr_setM rfl) (by rfl) me (by decide +kernel) (pa_cons (pe_dget (hu_of hr) (pv 0) (pv 2) (fun _ _ => rfl)) pa_nil)) pa_nil))) (pg_name (i := 4) scOwned.nd rfl (.inr rfl))
          (pss_one (ps_if (pt_not (pt_val (pe_callB (cr_any rfl) (by rfl) ma (by decide +kernel) (pa_cons (pe_lock (pe_lc (own := [("other", 5)]) (g := gName 5) rfl scOwned.nd (pi_keys (pv 0)) (blkOk_by (own := [("other", 5)]) (N := nOw) (sc := defScope sOwned) (by decide +kernel)) (fun _ _ _ _ _ => pg_name (i := 5) scOwned.nd rfl (Or.inl rfl))
              (fun _ _ _ _ _ => pts_one (pt_cmpR op_ne (pv 5) (pv 2) (nomark _))) (fun _ _ _ _ _ => pe_cmpR (inSeq_at (K := K) rfl) (pv 4) (pe_dget (hu_of hr) (pv 0) (pv 5) (fun _ _ => rfl)) (by rfl)))) pa_nil))))
            (pss_one (ps_expr (pe_bm PySem.F.plainAttrs_list PySem.F.slot_list_append PySem.F.type_list_append mt_append (pv 3) (pa_cons (pv 4) pa_nil)))) pss_nil)))
        (pss_one (ps_dput (hu_of hr) (pv 1) (pv 2) (pe_callTy call_tuple_of (by rfl) mt (by decide +kernel) (pa_cons (pv 3) pa_nil)) rfl)))))
      (pss_one (ps_ret (pv 1)))), ?_⟩
    refine fun g ng => ?_
    have s0 : Same H (upd H g (.dK [])) := same_new ng
    have eg0 : upd H g (.dK []) g = some (.dK (kvM [])) := upd_same
    generalize upd H g (.dK []) = H1 at s0 eg0
    refine ⟨.ref d, rfl, d, kvM M, rfl, .inl (s0 _ _ hd), fun p np => ?_⟩
    have eks : ((kvM M).map fun kv => kV kv.1) = (M.map (·.1)).map V.str := by
      unfold kvM
      rw [List.map_map, List.map_map]
      rfl
    rw [eks]
    have s1 := s0.trans (same_new (o := .lst ((M.map (·.1)).map V.str)) np)
    have eg1 := same_new (o := .lst ((M.map (·.1)).map V.str)) np _ _ eg0
    have few := ft.few
    refine ⟨p, M.map (·.1), rfl, sqL_new upd_same, by rw [List.length_map]; omega, fun ys p2 perm srt np2 => ?_⟩
    have s2 := s1.trans (same_new (o := .lst (ys.map V.str)) np2)
    have eg2 := same_new (o := .lst (ys.map V.str)) np2 _ _ eg1
    have ep2 : upd (upd H1 p (.lst ((M.map (·.1)).map V.str))) p2 (.lst (ys.map V.str)) p2 = some (.lst (ys.map V.str)) := upd_same
    generalize upd (upd H1 p (.lst ((M.map (·.1)).map V.str))) p2 (.lst (ys.map V.str)) = H2 at s2 eg2 ep2
    have ndy : ys.Nodup := perm.nodup_iff.mpr ft.nd
    have leny : ys.length = M.length := by rw [perm.length_eq, List.length_map]
    have hp2g : p2 ≠ g := fun e => by
      rw [e, eg2] at ep2
      cases ep2
    refine ⟨p2, rfl, ⟨_, sqL_new ep2⟩, ?_⟩
    refine for_it (walk_list (K := K) (a := p2) (xs := ys.map V.str)) (fun i σ H' => ∃ (x2 x3 x4 : Option V) (N : MK), σ = [some (.ref d), some (.ref g), x2, x3, x4, none] ∧ But g H2 H' ∧ H' g = some (.dK (kvM N)) ∧ N.map (·.1) = ys.take i ∧ Stand H' N ∧ (∀ t ∈ N, IsLot (pm M) t.1 t.2.2) ∧ ∀ t ∈ N, t.2.2.length ≤ 5)
      ⟨none, none, none, [], rfl, But.refl, eg2, rfl, (fun t ht => nomatch ht), (fun t ht => nomatch ht), fun t ht => nomatch ht⟩ (fun i σ H' _ ⟨_, _, _, _, _, k, _⟩ => sqL_new (k _ _ hp2g ep2)) (fun i x σ H3 H4 hi h y => ?_) (fun σ H3 h => ?_)
    · obtain ⟨rfl, hx⟩ := y
      obtain ⟨x2, x3, x4, N, rfl, k, eg, hN, sN, lN, rN⟩ := h
      obtain ⟨y, hy, rfl⟩ := get_map hx
      obtain ⟨t, ht, rfl⟩ := name_M (perm.mem_iff.mp (List.mem_of_getElem? hy))
      have r5 := ft.rows t ht
      have sH4 : Same H H4 := fun c u e => k c u (ne_of_none e ng) (s2 c u e)
      refine ⟨Nat.zero_le _, fun o no => ?_⟩
      have s5 : Same H4 (upd H4 o (.lst [])) := same_new no
      have eo0 : upd H4 o (.lst []) o = some (.lst (([] : List Str).map V.str)) := upd_same
      generalize upd H4 o (.lst []) = H5 at s5 eo0
      have sH5 := sH4.trans s5
      refine ⟨.ref d, rfl, .str t.1, rfl, d, _, rfl, get_M (.inl (sH5 _ _ hd)) ft.nd ht, t.2.1, t.2.2, rfl, sqT_new (sH5 _ _ (hM t ht)), by omega, fun a na => ?_⟩
      refine ⟨a, t.2.2, rfl, upd_same, by omega, fun zs p3 srtz ndz memz np3 => ?_⟩
      have hp3o : p3 ≠ o := Ne.symm (ne_of_none (same_new na _ _ eo0) np3)
      generalize hH7 : upd (upd H5 a _) p3 _ = H7
      have s57 : Same H5 H7 := by
        rw [← hH7]
        exact (same_new na).trans (same_new np3)
      have ep3 : H7 p3 = some (.lst (zs.map V.str)) := by
        rw [← hH7]
        exact upd_same
      have s7 := s5.trans s57
      have eo2 := s57 _ _ eo0
      have lz : zs.length ≤ 5 := Nat.le_trans (Ka.sub_len ndz fun x hx => (memz x).mp hx) r5
      refine ⟨p3, rfl, ⟨_, sqL_new ep3⟩, ?_⟩
      refine for_it (walk_list (K := K) (a := p3) (xs := zs.map V.str)) (fun j σ H' => ∃ (x4 : Option V), σ = [some (.ref d), some (.ref g), some (.str t.1), some (.ref o), x4, none] ∧ But o H7 H' ∧ H' o = some (.lst (((zs.take j).filter (ownB M t.1)).map V.str)))
        ⟨x4, rfl, But.refl, eo2⟩ (fun j σ H' _ ⟨_, _, k2, _⟩ => sqL_new (k2 _ _ hp3o ep3)) (fun j x σ H8 H9 hj h y => ?_) (fun σ H8 h => ?_)
      · obtain ⟨rfl, hx⟩ := y
        obtain ⟨x4, rfl, k2, eo⟩ := h
        obtain ⟨z, hz, rfl⟩ := get_map hx
        have sH9 : Same H H9 := fun c u e => k2 c u (ne_of_none (sH4 _ _ e) no) (s7 _ _ (sH4 _ _ e))
        have hd9 := sH9 _ _ hd
        refine ⟨d, _, hd9, True.intro, fun od => ?_⟩
        generalize hL0 : upd H9 d (.frz od (.dK (kvM M))) = L
        have kL : But d H9 L := by rw [← hL0]; exact But.upd
        have fL : L d = some (.frz od (.dK (kvM M))) := by rw [← hL0]; exact upd_same
        have ML : Stand L M := fun t ht => kL _ _ (fun e => by
          have := hM t ht
          rw [e, hd] at this
          cases this) (sH9 _ _ (hM t ht))
        refine ⟨.ref d, rfl, d, od, rfl, .inl ⟨kvM M, fL, fun D nD => ?_⟩⟩
        refine lc_it (walk_keys (d := d) (o := od) (kvs := kvM M)) (fun i G => Same L G ∧ G D = some (.lst ((((M.take i).filter fun t2 => decide (t2.1 ≠ t.1)).map fun t2 => decide (z ∈ t2.2.2)).map V.bl))) ⟨same_new nD, upd_same⟩ (fun i G _ h => h.1 _ _ fL) (fun i x G G' hi h y => ?_) (fun G h => ?_)
        · obtain ⟨rfl, ky, va, hkv, rfl⟩ := y
          obtain ⟨sG, eD⟩ := h
          obtain ⟨t2, ht2, ekv⟩ := get_map hkv
          cases ekv
          have htM2 := List.mem_of_getElem? ht2
          refine ⟨rfl, .str t2.1, rfl, .str t.1, rfl, rfl, _, rfl, ite2 (fun c => ?_) (fun c => ?_)⟩
          · have c : t2.1 ≠ t.1 := by
              intro e
              rw [e] at c
              simp at c
            refine ⟨.str z, rfl, .ref d, rfl, .str t2.1, rfl, d, _, rfl, get_M (.inr ⟨od, sG _ _ fL⟩) ft.nd htM2, t2.2.1, _, rfl, .inr (sqT_new (sG _ _ (ML t2 htM2))), rfl, flat_strs t2.2.2, ?_⟩
            rw [inV_str]
            refine ⟨_, eD, ?_, fun c' u e => ?_, ?_⟩
            · rw [List.length_map, List.length_map]
              have := List.length_filter_le (fun t2 : Str × Addr × List Str => decide (t2.1 ≠ t.1)) (M.take i)
              rw [List.length_take] at this
              exact small (by omega)
            · rw [upd_ne (ne_of_none e nD)]
              exact sG c' u e
            · rw [upd_same, take_of_get ht2, filt_yes (p := fun t2 : Str × Addr × List Str => decide (t2.1 ≠ t.1)) (x := t2) (decide_eq_true c), List.map_append, List.map_append]
              rfl
          · have c : decide (t2.1 ≠ t.1) = false := by
              apply decide_eq_false
              intro e
              apply c
              simp [e]
            refine ⟨sG, ?_⟩
            rw [take_of_get ht2, filt_no (p := fun t2 : Str × Addr × List Str => decide (t2.1 ≠ t.1)) (x := t2) c]
            exact eD
        · obtain ⟨sG, eD⟩ := h
          rw [kvM_len, List.take_length] at eD
          refine ⟨sG _ _ fL, ?_⟩
          have hDd : D ≠ d := fun e => by rw [e, fL] at nD; cases nD
          have sU : Same H9 (upd G d (.dK (kvM M))) := unlock hd9 (kL.trans (But.of sG))
          have eDU : upd G d (.dK (kvM M)) D = some (.lst (((M.filter fun t2 => decide (t2.1 ≠ t.1)).map fun t2 => decide (z ∈ t2.2.2)).map V.bl)) := by rw [upd_ne hDd]; exact eD
          generalize upd G d (.dK (kvM M)) = U at sU eDU
          have eoU := sU _ _ eo
          refine ⟨D, _, rfl, sqL_new eDU, _, rfl, ?_⟩
          have e1 : (!(((M.filter fun t2 => decide (t2.1 ≠ t.1)).map fun t2 => decide (z ∈ t2.2.2)).any id)) = ownB M t.1 z := by
            unfold ownB
            rw [List.any_map]
            rfl
          refine ite2 (c := (!(((M.filter fun t2 => decide (t2.1 ≠ t.1)).map fun t2 => decide (z ∈ t2.2.2)).any id)) = true) (fun c => ?_) (fun c => ?_)
          · rw [e1] at c
            refine ⟨.ref o, rfl, .inl ⟨rfl, _, sqL_new eoU⟩, .str z, rfl, o, _, _, rfl, rfl, eoU, ?_, ?_⟩
            · rw [List.length_map]
              have := List.length_filter_le (ownB M t.1) (zs.take j)
              rw [List.length_take] at this
              exact small (by omega)
            · refine ⟨_, rfl, fun c' u hc e => ?_, ?_⟩
              · rw [upd_ne hc]
                exact sU _ _ (k2 _ _ hc e)
              · rw [upd_same, take_of_get hz, filt_yes c, List.map_append]
                rfl
          · rw [e1] at c
            refine ⟨_, rfl, fun c' u hc e => sU _ _ (k2 _ _ hc e), ?_⟩
            rw [take_of_get hz, filt_no (Bool.eq_false_iff.mpr c)]
            exact eoU
      · obtain ⟨x4, rfl, k2, eo⟩ := h
        rw [List.length_map, List.take_length] at eo
        refine ⟨.ref o, rfl, o, _, rfl, .inl ⟨sqL_new eo, fun l nl => ?_⟩⟩
        generalize hH9 : upd H8 l (.tup ((zs.filter (ownB M t.1)).map V.str)) = H9
        have s89 : Same H8 H9 := by rw [← hH9]; exact same_new nl
        have el : H9 l = some (.tup ((zs.filter (ownB M t.1)).map V.str)) := by rw [← hH9]; exact upd_same
        have hgo : g ≠ o := ne_of_none eg no
        have s49 : ∀ c u, H4 c = some u → H9 c = some u := fun c u e => s89 _ _ (k2 _ _ (ne_of_none e no) (s7 _ _ e))
        have eg9 := s49 _ _ eg
        have ngl : l ≠ g := fun e => by
          rw [e, eg9] at el
          cases el
        have nlen : N.length = i := by
          have := congrArg List.length hN
          rw [List.length_map, List.length_take] at this
          have := lt_of_get hy
          omega
        have hi4 := lt_of_get hy
        refine ⟨.ref g, rfl, .str t.1, rfl, g, _, rfl, DPut.k (k := Sum.inr t.1) eg9 ?_, ?_⟩
        · rw [kvM_len]
          exact small (by omega)
        · refine ⟨_, _, _, N ++ [(t.1, l, zs.filter (ownB M t.1))], rfl, fun c u hc e => ?_, ?_, ?_, fun t2 h2 => ?_, fun t2 h2 => ?_, fun t2 h2 => ?_⟩
          · rw [upd_ne hc]
            exact s49 _ _ (k _ _ hc e)
          · rw [upd_same, putK_new]
            · unfold kvM
              rw [List.map_append]
              rfl
            · rw [kvM_keys, hN]
              intro z
              obtain ⟨y, hy2, e⟩ := List.mem_map.mp z
              exact not_before ndy hy (Sum.inr.inj e ▸ hy2)
          · rw [List.map_append, hN, take_of_get hy]
            rfl
          · rcases List.mem_append.mp h2 with z | z
            · have q1 := s49 _ _ (sN t2 z)
              rw [upd_ne (fun e => by rw [e, eg9] at q1; cases q1)]
              exact q1
            · rw [List.mem_singleton.mp z, upd_ne ngl]
              exact el
          · rcases List.mem_append.mp h2 with z | z
            · exact lN t2 z
            · rw [List.mem_singleton.mp z]
              refine ⟨sorted_filter _ srtz, ndz.filter _, fun x => ?_⟩
              rw [List.mem_filter, memz, own_iff ft.nd ht, ownB_iff]
          · rcases List.mem_append.mp h2 with z | z
            · exact rN t2 z
            · rw [List.mem_singleton.mp z]
              exact Nat.le_trans (List.length_filter_le _ _) lz
    · obtain ⟨x2, x3, x4, N, rfl, k, eg, hN, sN, lN, rN⟩ := h
      rw [List.length_map, List.take_length] at hN
      refine ⟨.ref g, rfl, q H3 g N (fun c u e => k c u (ne_of_none e ng) (s2 c u e)) ng eg sN (by rw [hN]; exact srt) (by rw [hN]; exact perm) lN rN⟩
end
end Kb
namespace Kb
open PySem PySem.Spec PyProof.Rows L2
section
variable {P : Program} {w : World} {K : PySem.W.Frag} {mg : Str → Option Value} {base : Heap}
theorem scLawIn : FnScope ["u", "v", "left", "deed"] ["u", "v"] (defScope sLawIn) := ⟨rfl, rfl, rfl, by decide +kernel, rfl, by decide +kernel, by decide +kernel⟩
def spLawIn (K : PySem.W.Frag) : Sp := fun vs H Q _ => ∃ (a b : Addr) (us zs : List Str), vs = [.ref a, .ref b] ∧ SqT K H a (us.map V.str) ∧ SqT K H b (zs.map V.str) ∧ ∀ H', Same H H' → Q (.bl (Kf.lies us zs)) H'
theorem ok_lawIn {f : Addr} {fd : FuncData} (F : Fun K "_law_within" "_law_within" sLawIn f fd) (ml : mg "len" = none) (mt : mg "list" = none) : FnOk P w K mg base CX0 1 f fd ["u", "v"] (spLawIn K) := by
  refine F.ok scLawIn (fun vs H Q E h => ?_) (fun cdv A outer s H vs Q E hr h => ?_)
  · obtain ⟨a, b, us, zs, rfl, _⟩ := h
    rfl
  · obtain ⟨a, b, us, zs, rfl, hA, hB, q⟩ := h
    refine ⟨_, pss_cons (ps_set (i := 2) scLawIn.nd rfl (.inl rfl) (pe_callTy call_list_of (by rfl) mt (by decide +kernel) (pa_cons (pv 0) pa_nil)))
      (pss_cons (ps_for PassesOwn.never rfl (pi_tup (Ka.pe_revT (pv 1))) (pg_name (i := 3) scLawIn.nd rfl (.inl rfl))
        (pss_one (ps_if (PW.pt (pw_and (pt_cmpR op_gt (pe_callB call_len_seq (by rfl) ml PySem.boot_len (pa_cons (pv 2) pa_nil)) pe_int (nomark _)) (pw_and1 (pt_cmpR op_eq (pe_ix ix_list (pv 2) (pe_op op_sub (pe_callB call_len_seq (by rfl) ml PySem.boot_len (pa_cons (pv 2) pa_nil)) pe_int) (fun _ _ => rfl)) (pv 3) (nomark _)))))
          (pss_one (ps_expr (pe_bm0 PySem.F.plainAttrs_list PySem.F.slot_list_pop PySem.F.type_list_pop mt_pop (pv 2)))) pss_nil)))
      (pss_one (ps_ret (pe_cmpR op_eq (pe_callB call_len_seq (by rfl) ml PySem.boot_len (pa_cons (pv 2) pa_nil)) pe_int (nomark _))))), ?_⟩
    refine ⟨.ref a, rfl, a, _, rfl, .inr hA, fun l nl => ?_⟩
    have s1 : Same H (upd H l (.lst (us.map V.str))) := same_new nl
    have el : upd H l (.lst (us.map V.str)) l = some (.lst (us.map V.str)) := upd_same
    generalize upd H l (.lst (us.map V.str)) = H1 at s1 el
    refine ⟨.ref b, rfl, b, _, rfl, Same.sqT s1 hB, fun r nr => ?_⟩
    have er : upd H1 r (.tup (zs.map V.str).reverse) r = some (.tup (zs.reverse.map V.str)) := by rw [upd_same, List.map_reverse]
    have s2 := s1.trans (same_new (o := .tup (zs.map V.str).reverse) nr)
    have el2 := same_new (o := .tup (zs.map V.str).reverse) nr _ _ el
    generalize upd H1 r (.tup (zs.map V.str).reverse) = H2 at er s2 el2
    have hlr : r ≠ l := fun e => by
      rw [e, el2] at er
      cases er
    refine ⟨r, rfl, ⟨_, sqT_new er⟩, ?_⟩
    refine for_tup (K := K) (a := r) (xs := zs.reverse.map V.str) (fun i σ H' => ∃ (c : Nat) (d : Option V), σ = [some (.ref a), some (.ref b), some (.ref l), d] ∧ But l H2 H' ∧ H' l = some (.lst ((us.take (us.length - c)).map V.str)) ∧ c ≤ us.length ∧ c + Kf.beg (us.reverse.drop c) (zs.reverse.drop i) = Kf.beg us.reverse zs.reverse)
      ⟨0, none, rfl, But.refl, by rw [Nat.sub_zero, List.take_length]; exact el2, Nat.zero_le _, by rw [List.drop_zero, List.drop_zero, Nat.zero_add]⟩ (fun i σ H' _ ⟨_, _, _, k, _⟩ => sqT_new (k _ _ hlr er)) ?_ ?_
    · rintro i x σ H' hx ⟨c, d, rfl, k, e1, hc, eq⟩
      obtain ⟨z, hz, rfl⟩ := get_map hx
      rw [drop_of_get hz, Kf.beg_step] at eq
      have hlen : ((us.take (us.length - c)).map V.str).length = us.length - c := by
        rw [List.length_map, List.length_take]
        omega
      refine ⟨.ref l, rfl, l, _, rfl, .inl (sqL_new e1), _, 0, rfl, rfl, _, rfl, ite2 (fun q => ?_) (fun q => ?_)⟩
      · have q := of_decide_eq_true q
        rw [hlen] at q
        have hcn : c < us.length := by omega
        have hg : us.reverse[c]? = some us[us.length - c - 1] := by
          rw [List.getElem?_reverse hcn, List.getElem?_eq_getElem (by omega)]
          congr 1
          congr 1
          omega
        have hg2 : ((us.take (us.length - c)).map V.str)[us.length - c - 1]? = some (.str us[us.length - c - 1]) := by
          rw [List.getElem?_map, List.getElem?_take, if_pos (by omega), List.getElem?_eq_getElem (by omega)]
          rfl
        refine ⟨.ref l, rfl, .ref l, rfl, l, _, rfl, .inl (sqL_new e1), _, 1, rfl, rfl, l, _, _, _, rfl, rfl, sqL_new e1, at_of (j := us.length - c - 1) (by rw [hlen]; omega) hg2, .str z, rfl, rfl, _, rfl, ite2 (fun q2 => ?_) (fun q2 => ?_)⟩
        · have e2 : us[us.length - c - 1] = z := V.str.inj (of_decide_eq_true q2)
          rw [hg, e2, if_pos rfl] at eq
          refine ⟨.ref l, rfl, .inl ⟨rfl, _, sqL_new e1⟩, l, _, _, rfl, rfl, e1, by rw [hlen]; exact hg2, ?_⟩
          refine ⟨c + 1, _, rfl, fun a' u ha e => ?_, ?_, hcn, by omega⟩
          · rw [upd_ne ha]
            exact k _ _ ha e
          · rw [upd_same, List.dropLast_eq_take, hlen, ← List.map_take, List.take_take]
            congr 4
            omega
        · have e2 : us[us.length - c - 1] ≠ z := fun e => q2 (decide_eq_true (by rw [e]))
          rw [hg, if_neg fun e => e2 (Option.some.inj e)] at eq
          exact ⟨c, _, rfl, k, e1, hc, eq⟩
      · have q : ¬ (0 : Int) < (((us.take (us.length - c)).map V.str).length : Nat) := fun z => q (decide_eq_true z)
        rw [hlen] at q
        rw [List.getElem?_eq_none (by rw [List.length_reverse]; omega), if_neg fun e => nomatch e] at eq
        exact ⟨c, _, rfl, k, e1, hc, eq⟩
    · rintro σ H' ⟨c, d, rfl, k, e1, hc, eq⟩
      rw [List.length_map, List.drop_length, Kf.beg_nil, Nat.add_zero] at eq
      have hlen : ((us.take (us.length - c)).map V.str).length = us.length - c := by
        rw [List.length_map, List.length_take]
        omega
      refine ⟨.ref l, rfl, l, _, rfl, .inl (sqL_new e1), rfl, ?_⟩
      rw [hlen]
      have e : decide (V.int ((us.length - c : Nat) : Int) = V.int 0) = Kf.lies us zs := by
        rw [← Kf.lies_rev]
        unfold Kf.lies
        rw [← eq, List.length_reverse]
        refine decide_eq_decide.mpr ⟨fun h => ?_, fun h => by rw [h, Nat.sub_self]; rfl⟩
        have := V.int.inj h
        omega
      rw [e]
      refine q _ fun c' u e => ?_
      exact k _ _ (ne_of_none e nl) (s2 _ _ e)
theorem scLawMade : FnScope ["making", "row", "found", "deed"] ["making", "row"] (defScope sLawMade) := ⟨rfl, rfl, rfl, by decide +kernel, rfl, by decide +kernel, by decide +kernel⟩
def spLawMade (K : PySem.W.Frag) : Sp := fun vs H Q _ => ∃ (d b : Addr) (M : MK) (zs : List Str), vs = [.ref d, .ref b] ∧ Rd H d (.dK (kvM M)) ∧ Stand H M ∧ Fit M ∧ SqT K H b (zs.map V.str) ∧ (∀ z ∈ zs, z ∈ M.map (·.1)) ∧ zs.length ≤ 1000 ∧
  ∀ (H' : Hp) (p : Addr), Same H H' → SqT K H' p ((Kf.mad (pm M) zs).map V.str) → Q (.ref p) H'
theorem ok_lawMade {f : Addr} {fd : FuncData} (F : Fun K "_law_made" "_law_made" sLawMade f fd) : FnOk P w K mg base CX0 1 f fd ["making", "row"] (spLawMade K) := by
  refine F.ok scLawMade (fun vs H Q E h => ?_) (fun cdv A outer s H vs Q E hr h => ?_)
  · obtain ⟨d, b, M, zs, rfl, _⟩ := h
    rfl
  · obtain ⟨d, b, M, zs, rfl, hd, hM, ft, hB, hin, hz, q⟩ := h
    refine ⟨_, pss_cons (ps_set (i := 2) scLawMade.nd rfl (.inl rfl) (pe_tup pa_nil))
      (pss_cons (ps_for PassesOwn.never rfl (pi_tup (pv 1)) (pg_name (i := 3) scLawMade.nd rfl (.inl rfl))
        (pss_one (ps_set (i := 2) scLawMade.nd rfl (.inl rfl) (pe_op op_catA (pv 2) (pe_dget (hu_of hr) (pv 0) (pv 3) (fun _ _ => rfl))))))
      (pss_one (ps_ret (pv 2)))), ?_⟩
    refine ⟨Nat.zero_le _, fun o no => ?_⟩
    refine ⟨.ref b, rfl, b, rfl, ⟨_, Same.sqT (same_new no) hB⟩, ?_⟩
    refine for_tup (K := K) (a := b) (xs := zs.map V.str) (fun i σ H' => ∃ (p : Addr) (x : Option V), σ = [some (.ref d), some (.ref b), some (.ref p), x] ∧ Same H H' ∧ SqT K H' p ((Kf.mad (pm M) (zs.take i)).map V.str))
      ⟨o, none, rfl, same_new no, sqT_new upd_same⟩ (fun i σ H' _ ⟨_, _, _, s, _⟩ => Same.sqT s hB) ?_ ?_
    · rintro i x σ H' hx ⟨p, y, rfl, sm, ep⟩
      obtain ⟨z, hz2, rfl⟩ := get_map hx
      obtain ⟨t, ht, rfl⟩ := name_M (hin z (List.mem_of_getElem? hz2))
      have hlen := mad_len ft (zs := zs.take i) fun x hx => hin x (List.mem_of_mem_take hx)
      have hr5 := ft.rows t ht
      refine ⟨.ref p, rfl, .ref d, rfl, .str t.1, rfl, d, _, rfl, get_M (Rd.mono hd sm) ft.nd ht, ?_⟩
      refine catR ep (sqT_new (sm _ _ (hM t ht))) ?_ fun H2 p2 s2 h2 => ?_
      · rw [List.length_map, List.length_map]
        rw [List.length_take] at hlen
        omega
      · refine ⟨p2, _, rfl, sm.trans s2, ?_⟩
        rw [take_of_get hz2, Kf.mad_snoc, look_M ft.nd ht, List.map_append]
        exact h2
    · rintro σ H' ⟨p, y, rfl, sm, ep⟩
      rw [List.length_map, List.take_length] at ep
      exact ⟨_, rfl, q _ p sm ep⟩
end
end Kb
namespace Kb
open PySem PySem.Spec PyProof.Rows L2
/-- the k-th name: the stem with a letter put in, or the letter -/
def NameAt (S : List Nat) (p f k : Nat) (z : Str) : Prop := ls z = S.take p ++ (97 + (f + 7 * k) % 26) :: S.drop p ∨ ls z = [97 + (f + 7 * k) % 26]
theorem name_eq {S : List Nat} {p f k j : Nat} {z : Str} (h1 : NameAt S p f k z) (h2 : NameAt S p f j z) : (f + 7 * k) % 26 = (f + 7 * j) % 26 := by
  have one : ∀ {a b : Nat}, S.take p ++ (97 + a) :: S.drop p = [97 + b] → a = b := fun {a b} e => by
    have hl := congrArg List.length e
    rw [List.length_append, List.length_cons] at hl
    have h0 : (S.take p).length = 0 := by
      rw [List.length_singleton] at hl
      omega
    rw [List.eq_nil_of_length_eq_zero h0, List.nil_append] at e
    have := (List.cons.inj e).1
    omega
  rcases h1 with h1 | h1 <;> rcases h2 with h2 | h2
  · have e := List.append_cancel_left (h1.symm.trans h2)
    have := (List.cons.inj e).1
    omega
  · exact one (h1.symm.trans h2)
  · exact (one (h2.symm.trans h1)).symm
  · have := (List.cons.inj (h1.symm.trans h2)).1
    omega
theorem names_nd {S : List Nat} {p f : Nat} {ns : List Str} (hl : ns.length ≤ 4) (h : ∀ (k : Nat) (z : Str), ns[k]? = some z → NameAt S p f k z) : ns.Nodup := by
  rw [List.nodup_iff_pairwise_ne, List.pairwise_iff_getElem]
  intro i j hi hj hij e
  have h1 := h i ns[i] (List.getElem?_eq_getElem hi)
  have h2 := h j ns[j] (List.getElem?_eq_getElem hj)
  rw [← e] at h2
  have := name_eq h1 h2
  omega
theorem noLetter : ∀ c ∈ ls (Str.ofString ""), lowC c = true := by
  have e : ls (Str.ofString "") = [] := by decide +kernel
  rw [e]
  exact fun c hc => nomatch hc
section
variable {P : Program} {w : World} {K : PySem.W.Frag} {mg : Str → Option Value} {base : Heap}
abbrev nNm : List Str := ["box", "many", "letters", "stem", "turn", "place", "first", "found", "k", "mark"]
theorem scNames : FnScope nNm ["box", "many"] (defScope sNames) := ⟨rfl, rfl, rfl, by decide +kernel, rfl, by decide +kernel, by decide +kernel⟩
def spNames : Sp := fun vs H Q _ => ∃ (x : Addr) (n : Nat), vs = [.ref x, .int (n : Nat)] ∧ Box H x ∧ n ≤ 4 ∧ ∀ (p : Addr) (ns : List Str) H', ns.length = n → ns.Nodup → (∀ z ∈ ns, isName z = true) → But x H H' → Box H' x → H p = none → H' p = some (.lst (ns.map V.str)) → Q (.ref p) H'
theorem ok_names {f fT : Addr} {fd fdT : FuncData} (F : Fun K "_law_names" "_law_names" sNames f fd) (FT : Fun K "_law_take" "_law_take" sTake fT fdT) (bT : Binds K fdT ["box", "many"] []) (gT : mg "_law_take" = some (.ref fT)) (mi : mg "int" = none) (ml : mg "len" = none) (mr : mg "range" = none) : FnOk P w K mg base CX0 2 f fd ["box", "many"] spNames := by
  have GT : FnOk P w K mg base CX0 1 fT fdT ["box", "many"] spTake := ok_take FT mi
  refine F.ok scNames (fun vs H Q E h => ?_) (fun cdv A outer s H vs Q E hr h => ?_)
  · obtain ⟨x, n, rfl, _⟩ := h
    rfl
  · obtain ⟨x, n, rfl, hx, hn, q⟩ := h
    refine ⟨_, pss_cons (ps_set (i := 2) scNames.nd rfl (.inl rfl) pe_str) (pss_cons (ps_set (i := 3) scNames.nd rfl (.inl rfl) pe_str)
      (pss_cons (ps_for PassesOwn.never rfl (pi_range1 (by rfl) mr (pa_cons (pe_call GT hr (by rfl) gT FT.kp bT .nil pass0 (pa_cons (pv 0) (pa_cons pe_int pa_nil))) pa_nil)) (pg_name (i := 4) scNames.nd rfl (.inl rfl))
        (pss_one (ps_set (i := 3) scNames.nd rfl (.inl rfl) (pe_op op_add_str (pv 3) (pe_ix ix_str (pv 2) (pe_call GT hr (by rfl) gT FT.kp bT .nil pass0 (pa_cons (pv 0) (pa_cons pe_int pa_nil))) (fun _ _ => rfl))))))
      (pss_cons (ps_set (i := 5) scNames.nd rfl (.inl rfl) (pe_call GT hr (by rfl) gT FT.kp bT .nil pass0 (pa_cons (pv 0) (pa_cons (pe_op op_add (pe_callB call_len (by rfl) ml PySem.boot_len (pa_cons (pv 3) pa_nil)) pe_int) pa_nil))))
      (pss_cons (ps_set (i := 6) scNames.nd rfl (.inl rfl) (pe_call GT hr (by rfl) gT FT.kp bT .nil pass0 (pa_cons (pv 0) (pa_cons pe_int pa_nil))))
      (pss_cons (ps_set (i := 7) scNames.nd rfl (.inl rfl) (pe_lst pa_nil))
      (pss_cons (ps_for PassesOwn.never rfl (pi_range1 (by rfl) mr (pa_cons (pv 1) pa_nil)) (pg_name (i := 8) scNames.nd rfl (.inl rfl))
        (pss_cons (ps_set (i := 9) scNames.nd rfl (.inl rfl) (pe_ix ix_str (pv 2) (pe_op op_mod (pe_callTy call_int1 (by rfl) mi (by decide +kernel) (pa_cons (pe_op op_add (pv 6) (pe_op op_mul pe_int (pv 8))) pa_nil)) pe_int) (fun _ _ => rfl)))
        (pss_one (ps_expr (pe_bm PySem.F.plainAttrs_list PySem.F.slot_list_append PySem.F.type_list_append mt_append (pv 7) (pa_cons (pe_ix ix_list (pe_lst (pa_cons (pe_op op_add_str (pe_op op_add_str (pe_slice sl_str (pv 3) po_none (po_some (pv 5))) (pv 9)) (pe_slice sl_str (pv 3) (po_some (pv 5)) po_none)) (pa_cons (pv 9) pa_nil)))
          (pe_callTy call_int1 (by rfl) mi (by decide +kernel) (pa_cons (pe_cmpR op_eq (pe_call GT hr (by rfl) gT FT.kp bT .nil pass0 (pa_cons (pv 0) (pa_cons pe_int pa_nil))) pe_int (nomark _)) pa_nil)) (fun _ _ => rfl)) pa_nil))))))
      (pss_one (ps_ret (pv 7))))))))), ?_⟩
    refine ⟨.ref x, rfl, x, 5, rfl, hx, by decide, by decide, fun r H1 hr5 k1 b1 => ?_⟩
    refine ⟨(r : Nat), rfl, by omega, by omega, ?_⟩
    refine for_range (lo := 0) (n := r) (fun i σ H' => ∃ d4 st, σ = [some (.ref x), some (.int (n : Nat)), some (.str abc), some (.str st), d4, none, none, none, none, none] ∧ But x H H' ∧ Box H' x ∧ (ls st).length = i ∧ ∀ c ∈ ls st, lowC c = true)
      ⟨none, Str.ofString "", rfl, k1, b1, by decide +kernel, noLetter⟩ ?_ ?_
    · rintro i σ H' hi ⟨d4, st, rfl, k, b, hl, hlow⟩
      refine ⟨.str st, rfl, .str abc, rfl, .ref x, rfl, x, 26, rfl, b, by decide, by decide, fun r2 H2 h26 k2 b2 => ?_⟩
      refine ⟨_, _, 97 + r2, rfl, rfl, (by decide +kernel), atI_nat (abc_at ⟨r2, h26⟩), _, _, rfl, rfl, ?_, ?_⟩
      · rw [ls_len, hl]
        refine smallE ?_
        show i + 1 ≤ 1000000
        omega
      · refine ⟨_, st ++ ⟨#[97 + r2]⟩, rfl, k.trans k2, b2, ?_, fun c hc => ?_⟩
        · rw [ls_add, List.length_append, hl]
          rfl
        · rw [ls_add] at hc
          rcases List.mem_append.mp hc with h | h
          · exact hlow c h
          · have h : c ∈ [97 + r2] := h
            rw [List.mem_singleton.mp h]
            have := low_mk r2
            rwa [Nat.mod_eq_of_lt h26] at this
    · rintro σ H' ⟨d4, st, rfl, k, b, hl, hlow⟩
      have stsz : st.length ≤ sizeLine := smallE (by rw [ls_len, hl]; omega)
      have el : (st.length : Int) + 1 = ((st.length + 1 : Nat) : Int) := by omega
      refine ⟨.ref x, rfl, .str st, rfl, .str st, _, rfl, ⟨stsz, rfl⟩, _, 1, rfl, rfl, x, st.length + 1, by rw [← el]; rfl, b, by omega, by rw [ls_len, hl]; omega, fun pl H2 hpl k2 b2 => ?_⟩
      refine ⟨.ref x, rfl, x, 26, rfl, b2, by decide, by decide, fun f1 H3 hf k3 b3 => ?_⟩
      refine ⟨Nat.zero_le _, fun o no => ?_⟩
      have k13 := (k.trans k2).trans k3
      have hox : o ≠ x := b3.ne no
      have noH : H o = none := k13.free b3 no
      have k4 : But x H3 (upd H3 o (.lst [])) := But.of (same_new no)
      have eo0 : upd H3 o (.lst []) o = some (.lst (([] : List Str).map V.str)) := upd_same
      have b4 : Box (upd H3 o (.lst [])) x := b3.upd hox
      generalize upd H3 o (.lst []) = H4 at k4 eo0 b4
      refine ⟨.int (n : Nat), rfl, (n : Nat), rfl, by omega, by omega, ?_⟩
      refine for_range (lo := 0) (n := n) (fun i σ H' => ∃ d8 d9 ns, σ = [some (.ref x), some (.int (n : Nat)), some (.str abc), some (.str st), d4, some (.int (pl : Nat)), some (.int (f1 : Nat)), some (.ref o), d8, d9] ∧ But x H3 H' ∧ Box H' x ∧ H' o = some (.lst ((ns : List Str).map V.str)) ∧ ns.length = i ∧ (∀ (j : Nat) (z : Str), ns[j]? = some z → NameAt (ls st) pl f1 j z) ∧ ∀ z ∈ ns, isName z = true)
        ⟨none, none, [], rfl, k4, b4, eo0, rfl, (fun j z h => nomatch h), fun z hz => nomatch hz⟩ ?_ ?_
      · rintro i σ H' hi ⟨d8, d9, ns, rfl, k5, b5, eo, hln, hns, hnm⟩
        have emod : ((f1 : Int) + 7 * (0 + (i : Int))) % 26 = (((f1 + 7 * i) % 26 : Nat) : Int) := by omega
        have h26 : (f1 + 7 * i) % 26 < 26 := Nat.mod_lt _ (by decide)
        refine ⟨.str abc, rfl, .int (f1 : Nat), rfl, .int (0 + (i : Int)), rfl, 7, (0 + (i : Int)), rfl, rfl, .inl (by decide), _, _, rfl, rfl, .inl ⟨_, rfl, _, 26, rfl, rfl, (by show (0 : Int) < 26; decide), ?_⟩⟩
        refine ⟨_, ((((f1 + 7 * i) % 26 : Nat)) : Int), 97 + (f1 + 7 * i) % 26, rfl, congrArg V.int emod, (by decide +kernel), atI_nat (abc_at ⟨_, h26⟩), ?_⟩
        have e3 : (⟨#[97 + (f1 + 7 * i) % 26]⟩ : Str).length = 1 := rfl
        refine ⟨.ref o, rfl, .inl ⟨rfl, _, sqL_new eo⟩, ?_⟩
        refine ⟨.str st, rfl, .int (pl : Nat), rfl, _, rfl, st, rfl, stsz, .str ⟨#[97 + (f1 + 7 * i) % 26]⟩, rfl, _, _, rfl, rfl, ?_, .str st, rfl, .int (pl : Nat), rfl, _, rfl, ?_⟩
        · rw [ls_len, ls_cutTo, List.length_take, e3]
          exact smallE (by omega)
        dsimp only [tNoPart]
        refine ⟨st, rfl, stsz, _, _, rfl, rfl, ?_, .str ⟨#[97 + (f1 + 7 * i) % 26]⟩, rfl, (by show 2 ≤ sizeLine; exact smallE (by decide)), fun l nl => ?_⟩
        · rw [ls_len, ls_len, ls_add, List.length_append, ls_cutTo, ls_cutFrom, List.length_take, List.length_drop]
          show _ + 1 + _ ≤ sizeLine
          exact smallE (by omega)
        have hlx : l ≠ x := b5.ne nl
        have k6 : But x H' (upd H' l (.lst [.str (cutS st none (some ((pl : Nat) : Int)) ++ ⟨#[97 + (f1 + 7 * i) % 26]⟩ ++ cutS st (some ((pl : Nat) : Int)) none), .str ⟨#[97 + (f1 + 7 * i) % 26]⟩])) := But.of (same_new nl)
        refine ⟨.ref x, rfl, x, 6, rfl, b5.upd hlx, by decide, by decide, fun r6 H6 h6 k7 b7 => ?_⟩
        have k67 := k6.trans k7
        have el6 := k7 _ _ hlx upd_same
        refine ⟨rfl, .inr ⟨_, rfl, ?_⟩⟩
        have hat : ∃ z : Str, atI [V.str (cutS st none (some ((pl : Nat) : Int)) ++ ⟨#[97 + (f1 + 7 * i) % 26]⟩ ++ cutS st (some ((pl : Nat) : Int)) none), V.str ⟨#[97 + (f1 + 7 * i) % 26]⟩] (if decide (V.int (r6 : Nat) = V.int 0) = true then 1 else 0) = some (.str z) ∧ NameAt (ls st) pl f1 i z := by
          by_cases h : decide (V.int (r6 : Nat) = V.int 0) = true
          · rw [if_pos h]
            exact ⟨_, rfl, .inr rfl⟩
          · rw [if_neg h]
            refine ⟨_, rfl, .inl ?_⟩
            rw [ls_add, ls_add, ls_cutTo, ls_cutFrom, List.append_assoc]
            rfl
        obtain ⟨z, hz, hzn⟩ := hat
        have eo6 := k67 _ _ hox eo
        refine ⟨l, _, _, .str z, rfl, rfl, sqL_new el6, hz, ?_⟩
        refine ⟨o, _, _, rfl, rfl, eo6, by rw [List.length_map]; exact small (by omega), ?_⟩
        refine ⟨_, _, ns ++ [z], rfl, fun c u hc e => ?_, b7.upd hox, by rw [upd_same, List.map_append]; rfl, by rw [List.length_append, hln]; rfl, fun j y hj => ?_, fun y hy => ?_⟩
        · rw [upd_ne (ne_of_none e no)]
          exact k67 _ _ hc (k5 _ _ hc e)
        · by_cases hjn : j < ns.length
          · rw [List.getElem?_append_left hjn] at hj
            exact hns j y hj
          · have hj2 := lt_of_get hj
            rw [List.length_append, List.length_singleton] at hj2
            obtain rfl : j = i := by omega
            rw [List.getElem?_append_right (by omega), hln, Nat.sub_self] at hj
            cases hj
            exact hzn
        · rcases List.mem_append.mp hy with h | h
          · exact hnm y h
          · rw [List.mem_singleton.mp h, name_iff]
            rcases hzn with e | e
            · rw [e, List.length_append, List.length_cons, List.length_take, List.length_drop]
              refine ⟨by omega, by omega, fun c hc => ?_⟩
              rcases List.mem_append.mp hc with h | h
              · exact hlow c (List.mem_of_mem_take h)
              · rcases List.mem_cons.mp h with h | h
                · rw [h]
                  exact low_mk _
                · exact hlow c (List.mem_of_mem_drop h)
            · rw [e]
              refine ⟨Nat.le_refl _, (by show 1 ≤ 5; decide), fun c hc => ?_⟩
              rw [List.mem_singleton.mp hc]
              exact low_mk _
      · rintro σ H' ⟨d8, d9, ns, rfl, k5, b5, eo, hln, hns, hnm⟩
        refine ⟨.ref o, rfl, ?_⟩
        exact q o ns H' hln (names_nd (by omega) hns) hnm (k13.trans k5) b5 noH eo
end
end Kb
namespace Kb
open PySem PySem.Spec PyProof.Rows L2
section
variable {K : PySem.W.Frag}
/-- new or one of them, and exact -/
theorem catX {H : Hp} {a b : Addr} {xs ys : List V} {Q : VK} (hx : H a = some (.tup xs)) (hy : H b = some (.tup ys)) (hl : xs.length + ys.length ≤ 100000) (q : ∀ H' p, Same H H' → H' p = some (.tup (xs ++ ys)) → Q (.ref p) H') : rCatA K (.ref a) (.ref b) H Q := by
  refine ⟨a, b, xs, ys, rfl, rfl, sqT_new hx, sqT_new hy, smallE (by omega), fun e => ?_, fun _ e => ?_, fun _ _ p np => ?_⟩
  · exact q H b (fun _ _ h => h) (by rw [e]; exact hy)
  · exact q H a (fun _ _ h => h) (by rw [e, List.append_nil]; exact hx)
  · exact q _ p (same_new np) upd_same
theorem takeX {H : Hp} {a : Addr} {xs : List V} {j : Nat} {Q : VK} (hA : H a = some (.tup xs)) (q : ∀ H' p, Same H H' → H' p = some (.tup (xs.take j)) → Q (.ref p) H') : rSlA K (.ref a) none (some (j : Int)) H Q :=
  slA_take (sqT_new hA) (fun e => q H a (fun _ _ h => h) (by rw [e]; exact hA)) fun p np => q _ p (same_new np) upd_same
theorem dropX {H : Hp} {a : Addr} {xs : List V} {j : Nat} {Q : VK} (hA : H a = some (.tup xs)) (q : ∀ H' p, Same H H' → H' p = some (.tup (xs.drop j)) → Q (.ref p) H') : rSlA K (.ref a) (some (j : Int)) none H Q :=
  slA_drop (sqT_new hA) (fun e => q H a (fun _ _ h => h) (by rw [e]; exact hA)) fun p np => q _ p (same_new np) upd_same
end
section
variable {P : Program} {w : World} {K : PySem.W.Frag} {mg : Str → Option Value} {base : Heap}
abbrev nMk : List Str := ["box", "names", "letters", "most", "kind", "plain", "found", "k", "size", "row", "place", "turn"]
theorem scMaking : FnScope nMk ["box", "names", "letters", "most"] (defScope sMaking) := ⟨rfl, rfl, rfl, by decide +kernel, rfl, by decide +kernel, by decide +kernel⟩
def spMaking : Sp := fun vs H Q _ => ∃ (x a l : Addr) (m : Nat) (ns lt : List Str), vs = [.ref x, .ref a, .ref l, .int (m : Nat)] ∧ Box H x ∧ H a = some (.lst (ns.map V.str)) ∧ H l = some (.lst (lt.map V.str)) ∧ a ≠ x ∧ l ≠ x ∧ ns.Nodup ∧ 0 < ns.length ∧ ns.length ≤ 4 ∧ 0 < lt.length ∧ lt.length ≤ 1000 ∧ (∀ z ∈ lt, isName z = true) ∧ 0 < m ∧ m ≤ 5 ∧
  ∀ (d : Addr) (M : MK) H', But x H H' → Box H' x → H d = none → H' d = some (.dK (kvM M)) → Stand H' M → M.map (·.1) = ns → (∀ t ∈ M, t.2.2.length ≤ 5) → (∀ t ∈ M, ∀ z ∈ t.2.2, isName z = true) → Q (.ref d) H'
theorem five_name : ∀ r : Fin 5, ∃ z : Str, [V.str (Str.ofString "q"), .str (Str.ofString "qz"), .str (Str.ofString "zq"), .str (Str.ofString "zz"), .str (Str.ofString "qq")][r.1]? = some (.str z) ∧ isName z = true
  | ⟨0, _⟩ => ⟨_, rfl, by decide +kernel⟩
  | ⟨1, _⟩ => ⟨_, rfl, by decide +kernel⟩
  | ⟨2, _⟩ => ⟨_, rfl, by decide +kernel⟩
  | ⟨3, _⟩ => ⟨_, rfl, by decide +kernel⟩
  | ⟨4, _⟩ => ⟨_, rfl, by decide +kernel⟩
theorem ok_making {f fT fP : Addr} {fd fdT fdP : FuncData} (F : Fun K "_law_making" "_law_making" sMaking f fd) (FT : Fun K "_law_take" "_law_take" sTake fT fdT) (bT : Binds K fdT ["box", "many"] []) (gT : mg "_law_take" = some (.ref fT)) (FP : Fun K "_law_pick" "_law_pick" sPick fP fdP) (bP : Binds K fdP ["box", "some"] []) (gP : mg "_law_pick" = some (.ref fP))
    (mi : mg "int" = none) (ml : mg "len" = none) (mt : mg "tuple" = none) (mr : mg "range" = none) : FnOk P w K mg base CX0 3 f fd ["box", "names", "letters", "most"] spMaking := by
  have GT : FnOk P w K mg base CX0 1 fT fdT ["box", "many"] spTake := ok_take FT mi
  have GP : FnOk P w K mg base CX0 2 fP fdP ["box", "some"] spPick := ok_pick FP FT bT gT mi ml
  refine F.ok scMaking (fun vs H Q E h => ?_) (fun cdv A outer s H vs Q E hr h => ?_)
  · obtain ⟨x, a, l, m, ns, lt, rfl, _⟩ := h
    rfl
  · obtain ⟨x, a, l, m, ns, lt, rfl, hx, ha, hl, hax, hlx, nd, n0, n4, l0, l1, lnm, m0, m5, q⟩ := h
    have hr1 := hr.mono (show 1 ≤ 2 by decide)
    refine ⟨_, pss_cons (ps_set (i := 4) scMaking.nd rfl (.inl rfl) (pe_call GT hr1 (by rfl) gT FT.kp bT .nil pass0 (pa_cons (pv 0) (pa_cons pe_int pa_nil))))
      (pss_cons (ps_set (i := 5) scMaking.nd rfl (.inl rfl) (pe_call GT hr1 (by rfl) gT FT.kp bT .nil pass0 (pa_cons (pv 0) (pa_cons (pe_callB call_len_seq (by rfl) ml PySem.boot_len (pa_cons (pv 1) pa_nil)) pa_nil))))
      (pss_cons (ps_set (i := 6) scMaking.nd rfl (.inl rfl) pe_dnewK)
      (pss_cons (ps_for PassesOwn.never rfl (pi_range1 (by rfl) mr (pa_cons (pe_callB call_len_seq (by rfl) ml PySem.boot_len (pa_cons (pv 1) pa_nil)) pa_nil)) (pg_name (i := 7) scMaking.nd rfl (.inl rfl))
        (pss_cons (ps_set (i := 8) scMaking.nd rfl (.inl rfl) (pe_call GT hr1 (by rfl) gT FT.kp bT .nil pass0 (pa_cons (pv 0) (pa_cons (pv 3) pa_nil))))
        (pss_cons (ps_set (i := 9) scMaking.nd rfl (.inl rfl) (pe_callTy call_tuple_of (by rfl) mt (by decide +kernel) (pa_cons
          (pe_lc (own := [("turn", 11)]) (g := gName 11) (tt := tYes) rfl scMaking.nd (pi_range1 (by rfl) mr (pa_cons (pv 8) pa_nil)) (blkOk_by (own := [("turn", 11)]) (N := nMk) (sc := defScope sMaking) (by decide +kernel)) (fun _ _ _ _ _ => pg_name (i := 11) scMaking.nd rfl (Or.inl rfl)) (fun _ _ _ _ _ => pts_nil)
            (fun _ _ _ _ _ => pe_call GP hr (by rfl) gP FP.kp bP .nil pass0 (pa_cons (pv 0) (pa_cons (pv 2) pa_nil)))) pa_nil)))
        (pss_cons (ps_set (i := 10) scMaking.nd rfl (.inl rfl) (pe_call GT hr1 (by rfl) gT FT.kp bT .nil pass0 (pa_cons (pv 0) (pa_cons (pe_op op_add (pv 8) pe_int) pa_nil))))
        (pss_cons (ps_if (PW.pt (pw_or (pt_cmpR op_eq (pv 4) pe_int (nomark _)) (pw_or1 (PW.pt (pw_and (pt_cmpR op_gt (pv 4) pe_int (nomark _)) (pw_and1 (pt_cmpR op_ne (pv 7) (pv 5) (nomark _))))))))
          (pss_one (ps_set (i := 9) scMaking.nd rfl (.inl rfl) (pe_op op_catA (pe_op op_catA (pe_slice sl_tupA (pv 9) po_none (po_some (pv 10))) (pe_tup (pa_cons (pe_ix ix_list (pe_lst (pa_cons pe_str (pa_cons pe_str (pa_cons pe_str (pa_cons pe_str (pa_cons pe_str pa_nil)))))) (pe_op op_mod (pe_callTy call_int1 (by rfl) mi (by decide +kernel) (pa_cons (pv 7) pa_nil)) pe_int) (fun _ _ => rfl)) pa_nil))) (pe_slice sl_tupA (pv 9) (po_some (pv 10)) po_none))))
          pss_nil)
        (pss_one (ps_dput (hu_of hr) (pv 6) (pe_ix ix_list (pv 1) (pv 7) (fun _ _ => rfl)) (pv 9) rfl)))))))
      (pss_one (ps_ret (pv 6)))))), ?_⟩
    have lenN : (ns.map V.str).length = ns.length := List.length_map _
    refine ⟨.ref x, rfl, x, 4, rfl, hx, by decide, by decide, fun kind H1 hk4 k1 b1 => ?_⟩
    have ha1 := k1 _ _ hax ha
    refine ⟨.ref x, rfl, .ref a, rfl, a, _, rfl, .inl (sqL_new ha1), x, ns.length, by rw [lenN]; rfl, b1, n0, by omega, fun plain H2 hp k2 b2 => ?_⟩
    have k12 := k1.trans k2
    refine fun g ng => ?_
    have ngH : H g = none := k12.free b2 ng
    have hgx : g ≠ x := b2.ne ng
    have k3 : But x H (upd H2 g (.dK [])) := k12.trans (But.of (same_new ng))
    have eg0 : upd H2 g (.dK []) g = some (.dK (kvM [])) := upd_same
    have b3 : Box (upd H2 g (.dK [])) x := b2.upd hgx
    generalize upd H2 g (.dK []) = H3 at k3 eg0 b3
    have ha3 := k3 _ _ hax ha
    refine ⟨.ref a, rfl, a, _, rfl, .inl (sqL_new ha3), (ns.length : Nat), by rw [lenN], by omega, by omega, ?_⟩
    refine for_range (lo := 0) (n := ns.length) (fun i σ H' => ∃ (d7 d8 d9 d10 : Option V) (M : MK), σ = [some (.ref x), some (.ref a), some (.ref l), some (.int (m : Nat)), some (.int (kind : Nat)), some (.int (plain : Nat)), some (.ref g), d7, d8, d9, d10, none] ∧ But x H H' ∧ Box H' x ∧ H' g = some (.dK (kvM M)) ∧ Stand H' M ∧ M.map (·.1) = ns.take i ∧ (∀ t ∈ M, t.2.2.length ≤ 5) ∧ ∀ t ∈ M, ∀ z ∈ t.2.2, isName z = true)
      ⟨none, none, none, none, [], rfl, k3, b3, eg0, (fun t ht => nomatch ht), rfl, (fun t ht => nomatch ht), fun t ht => nomatch ht⟩ ?_ ?_
    · rintro i σ H' hi ⟨d7, d8, d9, d10, M, rfl, k, b, eg, sM, hM, rM, nM⟩
      refine ⟨.ref x, rfl, .int (m : Nat), rfl, x, m, rfl, b, m0, by omega, fun sz H4 hsz k4 b4 => ?_⟩
      refine ⟨.int (sz : Nat), rfl, (sz : Nat), rfl, by omega, by omega, fun D nD => ?_⟩
      have hDx := b4.ne nD
      have hl4 := (k.trans k4) _ _ hlx hl
      refine lc_it (walk_r0 (n := sz)) (fun j Z => But x H4 Z ∧ Box Z x ∧ ∃ zs : List Str, zs.length = j ∧ (∀ z ∈ zs, isName z = true) ∧ Z D = some (.lst (zs.map V.str)))
        ⟨But.of (same_new nD), b4.upd hDx, [], rfl, (fun z hz => by cases hz), upd_same⟩ (fun _ _ _ _ => True.intro) (fun j y Z Z' hj h yy => ?_) (fun Z h => ?_)
      · obtain ⟨rfl, rfl⟩ := yy
        obtain ⟨kZ, bZ, zs, hzl, hz, eD⟩ := h
        refine ⟨rfl, .ref x, rfl, .ref l, rfl, x, l, _, rfl, bZ, hlx, kZ _ _ hlx hl4, by rw [List.length_map]; exact l0, by rw [List.length_map]; omega, fun j2 v Z2 hv kZ2 bZ2 => ?_⟩
        obtain ⟨z, hzz, rfl⟩ := get_map hv
        refine ⟨_, kZ2 _ _ hDx eD, by rw [List.length_map]; exact small (by omega), fun c u hc e => ?_, bZ2.upd hDx, zs ++ [z], by rw [List.length_append, hzl]; rfl, fun y hy => ?_, by rw [upd_same, List.map_append]; rfl⟩
        · rw [upd_ne (ne_of_none e nD)]
          exact kZ2 _ _ hc (kZ _ _ hc e)
        · rcases List.mem_append.mp hy with h | h
          · exact hz y h
          · rw [List.mem_singleton.mp h]
            exact lnm z (List.mem_of_getElem? hzz)
      · obtain ⟨kZ, bZ, zs, hzl, hz, eD⟩ := h
        refine ⟨D, _, rfl, .inl ⟨sqL_new eD, fun r nr => ?_⟩⟩
        have hrx := bZ.ne nr
        have kr : But x Z (upd Z r (.tup (zs.map V.str))) := But.of (same_new nr)
        have er : upd Z r (.tup (zs.map V.str)) r = some (.tup (zs.map V.str)) := upd_same
        have br : Box (upd Z r (.tup (zs.map V.str))) x := bZ.upd hrx
        generalize upd Z r (.tup (zs.map V.str)) = H5 at kr er br
        refine ⟨.ref x, rfl, .int (sz : Nat), rfl, _, 1, rfl, rfl, x, sz + 1, rfl, br, Nat.succ_pos _, by omega, fun pl H6 hpl k6 b6 => ?_⟩
        have er6 := k6 _ _ hrx er
        have k06 : But x H H6 := (((k.trans k4).trans kZ).trans kr).trans k6
        have kM : But x H' H6 := ((k4.trans kZ).trans kr).trans k6
        refine ⟨.int (kind : Nat), rfl, rfl, _, rfl, ?_⟩
        generalize hX : sDPut _ _ _ _ = X
        have eg6 := kM _ _ hgx eg
        have nlen : M.length = i := by
          have := congrArg List.length hM
          rw [List.length_map, List.length_take] at this
          omega
        have hgi : ns[i]? = some ns[i] := List.getElem?_eq_getElem hi
        have sM6 : Stand H6 M := fun t ht => kM _ _ (fun e => by
          have := sM t ht
          rw [e] at this
          obtain ⟨q0, q1, q2, q3⟩ := b
          rw [q3] at this
          cases this) (sM t ht)
        have fin : ∀ (r2 : Addr) (H7 : Hp) (ws : List Str), Same H6 H7 → H7 r2 = some (.tup (ws.map V.str)) → ws.length ≤ 5 → (∀ z ∈ ws, isName z = true) →
            X [some (.ref x), some (.ref a), some (.ref l), some (.int (m : Nat)), some (.int (kind : Nat)), some (.int (plain : Nat)), some (.ref g), some (.int (0 + (i : Int))), some (.int (sz : Nat)), some (.ref r2), some (.int (pl : Nat)), none] H7 := fun r2 H7 ws s7 e7 hw5 hwn => by
          rw [← hX]
          have eg7 := s7 _ _ eg6
          refine ⟨.ref r2, rfl, .ref g, rfl, .ref a, rfl, .int (0 + (i : Int)), rfl, a, _, _, _, rfl, rfl, sqL_new (s7 _ _ (k06 _ _ hax ha)), at_of (j := i) (by omega) (by rw [List.getElem?_map, hgi]; rfl), g, _, rfl, DPut.k (k := Sum.inr ns[i]) eg7 ?_, ?_⟩
          · rw [kvM_len]
            exact small (by omega)
          · have ner : r2 ≠ g := fun e => by
              rw [e, eg7] at e7
              cases e7
            refine ⟨_, _, _, _, M ++ [(ns[i], r2, ws)], rfl, fun c u hc e => ?_, ?_, ?_, fun t ht => ?_, ?_, fun t ht => ?_, fun t ht => ?_⟩
            · rw [upd_ne (ne_of_none e ngH)]
              exact s7 _ _ (k06 _ _ hc e)
            · obtain ⟨q0, q1, q2, q3⟩ := b6
              exact ⟨q0, q1, q2, by rw [upd_ne (Ne.symm hgx)]; exact s7 _ _ q3⟩
            · rw [upd_same, putK_new]
              · unfold kvM
                rw [List.map_append]
                rfl
              · rw [kvM_keys, hM]
                intro z
                obtain ⟨y, hy, e⟩ := List.mem_map.mp z
                exact not_before nd hgi (Sum.inr.inj e ▸ hy)
            · rcases List.mem_append.mp ht with z | z
              · have q1 := s7 _ _ (sM6 t z)
                rw [upd_ne (fun e => by rw [e, eg7] at q1; cases q1)]
                exact q1
              · rw [List.mem_singleton.mp z, upd_ne ner]
                exact e7
            · rw [List.map_append, hM, take_of_get hgi]
              rfl
            · rcases List.mem_append.mp ht with z | z
              · exact rM t z
              · rw [List.mem_singleton.mp z]
                exact hw5
            · rcases List.mem_append.mp ht with z | z
              · exact nM t z
              · rw [List.mem_singleton.mp z]
                exact hwn
        generalize hY : tAsg (tOp _ _ _) (gName 9) _ = Y
        have fy : Y [some (.ref x), some (.ref a), some (.ref l), some (.int (m : Nat)), some (.int (kind : Nat)), some (.int (plain : Nat)), some (.ref g), some (.int (0 + (i : Int))), some (.int (sz : Nat)), some (.ref r), some (.int (pl : Nat)), none] H6 := by
          rw [← hY]
          refine ⟨.ref r, rfl, .int (pl : Nat), rfl, _, rfl, ?_⟩
          refine takeX er6 fun H7 p7 s7 e7 => ?_
          refine ⟨(by show 5 ≤ sizeLine; exact smallE (by decide)), fun l5 nl5 => ?_⟩
          have s8 := s7.trans (same_new (o := .lst [V.str (Str.ofString "q"), .str (Str.ofString "qz"), .str (Str.ofString "zq"), .str (Str.ofString "zz"), .str (Str.ofString "qq")]) nl5)
          have e8 := same_new (o := .lst [V.str (Str.ofString "q"), .str (Str.ofString "qz"), .str (Str.ofString "zq"), .str (Str.ofString "zz"), .str (Str.ofString "qq")]) nl5 _ _ e7
          have e5 : upd H7 l5 (.lst [V.str (Str.ofString "q"), .str (Str.ofString "qz"), .str (Str.ofString "zq"), .str (Str.ofString "zz"), .str (Str.ofString "qq")]) l5 = _ := upd_same
          generalize upd H7 l5 _ = H8 at s8 e8 e5
          obtain ⟨mk, hmk, hmn⟩ := five_name ⟨i % 5, Nat.mod_lt _ (by decide)⟩
          refine ⟨.int (0 + (i : Int)), rfl, .inl ⟨_, rfl, _, 5, rfl, rfl, (by show (0 : Int) < 5; decide), l5, _, _, .str mk, rfl, rfl, sqL_new e5, at_of (j := i % 5) (by omega) hmk, (by show 1 ≤ sizeLine; exact smallE (by decide)), fun t1 nt1 => ?_⟩⟩
          have s9 := s8.trans (same_new (o := .tup [V.str mk]) nt1)
          have e9 := same_new (o := .tup [V.str mk]) nt1 _ _ e8
          have et : upd H8 t1 (.tup [V.str mk]) t1 = some (.tup [V.str mk]) := upd_same
          generalize upd H8 t1 (.tup [V.str mk]) = H9 at s9 e9 et
          refine catX e9 et (by rw [List.length_take, List.length_map]; show _ + 1 ≤ 100000; omega) fun H10 p10 s10 e10 => ?_
          refine ⟨.ref r, rfl, .int (pl : Nat), rfl, _, rfl, ?_⟩
          dsimp only [tNoPart]
          have s610 := s9.trans s10
          refine dropX (s610 _ _ er6) fun H11 p11 s11 e11 => ?_
          refine catX (s11 _ _ e10) e11 (by rw [List.length_append, List.length_take, List.length_drop, List.length_map]; show _ + 1 + _ ≤ 100000; omega) fun H12 p12 s12 e12 => ?_
          refine fin p12 H12 (zs.take pl ++ [mk] ++ zs.drop pl) ((s610.trans s11).trans s12) (by rw [e12, List.map_append, List.map_append, List.map_take, List.map_drop]; rfl) ?_ fun z hz' => ?_
          · rw [List.length_append, List.length_append, List.length_take, List.length_drop]
            show _ + 1 + _ ≤ 5
            omega
          · rcases List.mem_append.mp hz' with h | h
            · rcases List.mem_append.mp h with h | h
              · exact hz z (List.mem_of_mem_take h)
              · rw [List.mem_singleton.mp h]
                exact hmn
            · exact hz z (List.mem_of_mem_drop h)
        have fno := fin r H6 zs (fun _ _ h => h) er6 (by omega) hz
        refine ite2 (fun c => iteT fy) (fun c => ?_)
        refine ⟨.int (kind : Nat), rfl, _, _, rfl, rfl, _, rfl, ite2 (fun c2 => ?_) (fun c2 => iteF fno)⟩
        refine ⟨.int (0 + (i : Int)), rfl, .int (plain : Nat), rfl, rfl, _, rfl, ite2 (fun c3 => fy) (fun c3 => fno)⟩
    · rintro σ H' ⟨d7, d8, d9, d10, M, rfl, k, b, eg, sM, hM, rM, nM⟩
      rw [List.take_length] at hM
      exact ⟨.ref g, rfl, q g M H' k b ngH eg sM hM rM nM⟩
end
end Kb
namespace Kb
open PySem PySem.Spec PyProof.Rows L2
theorem catA_at {X : Cx} {K : PySem.W.Frag} (h : X.K = K) : OpR X (binaryOp .Add) (rCatA K) := by
  subst h
  exact op_catA
abbrev Rw := Addr × List Str
def adR (rs : List Rw) : List V := rs.map fun r => V.ref r.1
theorem adR_len (rs : List Rw) : (adR rs).length = rs.length := List.length_map _
def RowsAt (H : Hp) (rs : List Rw) : Prop := ∀ r ∈ rs, H r.1 = some (.tup (r.2.map V.str))
theorem RowsAt.mono {H H' : Hp} {rs : List Rw} (h : RowsAt H rs) (s : Same H H') : RowsAt H' rs := fun r hr => s _ _ (h r hr)
theorem find_at {α : Type} {p : α → Bool} : ∀ {l : List α} {j : Nat} {x : α}, l[j]? = some x → p x = true → (∀ (i : Nat) (y : α), i < j → l[i]? = some y → p y = false) → l.find? p = some x
  | [], _, _, h, _, _ => by simp at h
  | y :: l, 0, x, h, hp, _ => by
    have e : y = x := by simpa using h
    rw [List.find?_cons, e, hp]
  | y :: l, j + 1, x, h, hp, hb => by
    rw [List.find?_cons, hb 0 y (Nat.succ_pos j) rfl]
    exact find_at (j := j) (by simpa using h) hp fun i z hi hz => hb (i + 1) z (Nat.succ_lt_succ hi) (by simpa using hz)
theorem none_at {α : Type} {p : α → Bool} {l : List α} (h : ∀ (i : Nat) (y : α), l[i]? = some y → p y = false) : l.any p = false := by
  rw [List.any_eq_false]
  intro x hx
  obtain ⟨i, hi⟩ := List.getElem?_of_mem hx
  rw [h i x hi]
  exact Bool.false_ne_true
section
variable {P : Program} {w : World} {K : PySem.W.Frag} {mg : Str → Option Value} {base : Heap}
abbrev nHo : List Str := ["making", "row", "names", "some", "size", "one", "longer", "name"]
theorem scHolder : FnScope nHo ["making", "row", "names"] (defScope sHolder) := ⟨rfl, rfl, rfl, by decide +kernel, rfl, by decide +kernel, by decide +kernel⟩
def spHolder (K : PySem.W.Frag) : Sp := fun vs H Q _ => ∃ (d b a : Addr) (M : MK) (us ns : List Str) (n : Nat), vs = [.ref d, .ref b, .ref a] ∧ Rd H d (.dK (kvM M)) ∧ Stand H M ∧ Fit M ∧ SqT K H b (us.map V.str) ∧ H a = some (.lst (ns.map V.str)) ∧ (∀ y ∈ ns, y ∈ M.map (·.1)) ∧ ns.length ≤ 3 ∧ Kf.Least (pm M) ns n us ∧ n ≤ 5 ∧
  ∀ (H' : Hp) (p : Addr), Same H H' → H' p = some (.tup ((Kf.gre (pm M) ns n us).map V.str)) → Q (.ref p) H'
theorem ok_holder {f fI fM : Addr} {fd fdI fdM : FuncData} (F : Fun K "_law_first_holder" "_law_first_holder" sHolder f fd) (FI : Fun K "_law_within" "_law_within" sLawIn fI fdI) (bI : Binds K fdI ["u", "v"] []) (gI : mg "_law_within" = some (.ref fI)) (FM : Fun K "_law_made" "_law_made" sLawMade fM fdM) (bM : Binds K fdM ["making", "row"] []) (gM : mg "_law_made" = some (.ref fM))
    (ml : mg "len" = none) (mt : mg "list" = none) (mr : mg "range" = none) : FnOk P w K mg base CX0 2 f fd ["making", "row", "names"] (spHolder K) := by
  have GI : FnOk P w K mg base CX0 1 fI fdI ["u", "v"] (spLawIn K) := ok_lawIn FI ml mt
  have GM : FnOk P w K mg base CX0 1 fM fdM ["making", "row"] (spLawMade K) := ok_lawMade FM
  refine F.ok scHolder (fun vs H Q E h => ?_) (fun cdv A outer s H vs Q E hr h => ?_)
  · obtain ⟨d, b, a, M, us, ns, n, rfl, _⟩ := h
    rfl
  · obtain ⟨d, b, a, M, us, ns, n, rfl, hd, hM, ft, hB, hA, hin, n3, hL, n5, q⟩ := h
    refine ⟨_, pss_cons (ps_set (i := 3) scHolder.nd rfl (.inl rfl) (pe_lst (pa_cons (pe_tup pa_nil) pa_nil)))
      (pss_cons (ps_for PassesOwn.never rfl (pi_range1 (by rfl) mr (pa_cons pe_int pa_nil)) (pg_name (i := 4) scHolder.nd rfl (.inl rfl))
        (pss_cons (ps_for PassesOwn.never rfl (pi_list (pv 3)) (pg_name (i := 5) scHolder.nd rfl (.inr rfl))
          (pss_one (ps_if (pt_val (pe_call GI hr (by rfl) gI FI.kp bI .nil pass0 (pa_cons (pv 1) (pa_cons (pe_call GM hr (by rfl) gM FM.kp bM .nil pass0 (pa_cons (pv 0) (pa_cons (pv 5) pa_nil))) pa_nil)))) (pss_one (ps_ret (pv 5))) pss_nil)))
        (pss_cons (ps_set (i := 6) scHolder.nd rfl (.inl rfl) (pe_lst pa_nil))
        (pss_cons (ps_for PassesOwn.never rfl (pi_list (pv 3)) (pg_name (i := 5) scHolder.nd rfl (.inr rfl))
          (pss_one (ps_set (i := 6) scHolder.nd rfl (.inl rfl) (pe_op op_cat (pv 6) (pe_lc (own := [("name", 7)]) (g := gName 7) (tt := tYes) rfl scHolder.nd (pi_list (pv 2)) (blkOk_by (own := [("name", 7)]) (N := nHo) (sc := defScope sHolder) (by decide +kernel)) (fun _ _ _ _ _ => pg_name (i := 7) scHolder.nd rfl (Or.inl rfl)) (fun _ _ _ _ _ => pts_nil)
            (fun _ _ _ _ _ => pe_op (catA_at (K := K) rfl) (pv 5) (pe_tup (pa_cons (pv 7) pa_nil))))))))
        (pss_one (ps_set (i := 3) scHolder.nd rfl (.inl rfl) (pe_slice sl_list (pv 6) po_none (po_some pe_int))))))))
      (pss_one (ps_ret pe_non))), ?_⟩
    refine ⟨Nat.zero_le _, fun e0 ne0 => ?_⟩
    refine ⟨smallE (show 1 ≤ 1000000 by decide), fun q0 nq0 => ?_⟩
    have s1 : Same H (upd (upd H e0 (.tup [])) q0 (.lst [V.ref e0])) := (same_new ne0).trans (same_new nq0)
    have ee : upd (upd H e0 (.tup [])) q0 (.lst [V.ref e0]) e0 = some (.tup (([] : List Str).map V.str)) := same_new (o := .lst [V.ref e0]) nq0 _ _ upd_same
    have eq0 : upd (upd H e0 (.tup [])) q0 (.lst [V.ref e0]) q0 = some (.lst (adR [(e0, [])])) := upd_same
    generalize upd (upd H e0 (.tup [])) q0 (.lst [V.ref e0]) = H1 at s1 ee eq0
    refine ⟨6, rfl, by decide, by decide, ?_⟩
    have lexle : ∀ k, k ≤ 5 → (Kf.lex ns k).length ≤ 243 := fun k hk => by
      rw [Kf.lex_many]
      exact Nat.le_trans (Nat.pow_le_pow_left n3 k) (Nat.le_trans (Nat.pow_le_pow_right (by decide) hk) (by decide))
    refine for_range (lo := 0) (n := 6) (fun i σ H' => ∃ (d4 d5 d6 : Option V) (qa : Addr) (rs : List Rw), σ = [some (.ref d), some (.ref b), some (.ref a), some (.ref qa), d4, d5, d6, none] ∧ Same H H' ∧ H' qa = some (.lst (adR rs)) ∧ RowsAt H' rs ∧ rs.map (·.2) = Kf.lex ns i ∧ i ≤ n)
      ⟨none, none, none, q0, [(e0, [])], rfl, s1, eq0, (fun r hr => by rw [List.mem_singleton.mp hr]; exact ee), rfl, Nat.zero_le _⟩ ?_ ?_
    · rintro i σ H' hi ⟨d4, d5, d6, qa, rs, rfl, sm, eq, hR, hlex, hin2⟩
      have rlen : rs.length = (Kf.lex ns i).length := by rw [← hlex, List.length_map]
      refine ⟨.ref qa, rfl, qa, rfl, ⟨_, sqL_new eq⟩, ?_⟩
      refine for_it (walk_list (K := K) (a := qa) (xs := adR rs)) (fun j σ H2 => ∃ (d5 : Option V), σ = [some (.ref d), some (.ref b), some (.ref a), some (.ref qa), some (.int (0 + (i : Int))), d5, d6, none] ∧ Same H' H2 ∧ ∀ (j2 : Nat) (r : Rw), j2 < j → rs[j2]? = some r → Kf.holds (pm M) us r.2 = false)
        ⟨d5, rfl, (fun _ _ h => h), fun j2 r h => absurd h (Nat.not_lt_zero _)⟩ (fun j σ H2 _ ⟨_, _, s2, _⟩ => sqL_new (s2 _ _ eq)) (fun j x σ H2 H3 hj h y => ?_) (fun σ H2 h => ?_)
      · obtain ⟨rfl, hx⟩ := y
        obtain ⟨d5, rfl, s2, hno⟩ := h
        obtain ⟨r, hr2, rfl⟩ := get_map hx
        have hrm := List.mem_of_getElem? hr2
        have hlx := Kf.lex_len (ns := ns) (n := i) (r := r.2) (by rw [← hlex]; exact List.mem_map.mpr ⟨r, hrm, rfl⟩)
        have s3 := sm.trans s2
        refine ⟨.ref b, rfl, .ref d, rfl, .ref r.1, rfl, d, r.1, M, r.2, rfl, Rd.mono hd s3, hM.mono s3, ft, sqT_new (s2 _ _ (hR r hrm)), fun z hz => hin z (hlx.2 z hz), by rw [hlx.1]; omega, fun H4 p s4 hp => ?_⟩
        have s34 := s3.trans s4
        refine ⟨b, p, us, _, rfl, Same.sqT s34 hB, hp, fun H5 s5 => ?_⟩
        refine ⟨_, rfl, ?_⟩
        have s25 := s2.trans (s4.trans s5)
        cases hh : Kf.lies us (Kf.mad (pm M) r.2) with
        | true =>
          refine iteT ?_
          refine ⟨_, rfl, ?_⟩
          have hfind := find_at (p := Kf.holds (pm M) us) (l := Kf.lex ns i) (j := j) (x := r.2) (by rw [← hlex, List.getElem?_map, hr2]; rfl) hh (fun i2 y hi2 hy => by
            rw [← hlex, List.getElem?_map] at hy
            cases hg : rs[i2]? with
            | none => rw [hg] at hy; cases hy
            | some r' =>
              rw [hg] at hy
              cases hy
              exact hno i2 r' hi2 hg)
          have hcov : Kf.cov (pm M) ns i us = true := by
            rw [Kf.cov_iff, List.any_eq_true]
            exact ⟨r.2, by rw [← hlex]; exact List.mem_map.mpr ⟨r, hrm, rfl⟩, hh⟩
          have hni : i = n := by
            rcases Nat.lt_or_ge i n with h | h
            · rw [hL.2 i h] at hcov
              cases hcov
            · omega
          subst hni
          rw [Kf.gre_first (pm M) ns i us hcov] at hfind
          refine q H5 r.1 (sm.trans s25) ?_
          rw [Option.some.inj hfind]
          exact s25 _ _ (hR r hrm)
        | false =>
          refine iteF ?_
          refine ⟨_, rfl, s25, fun j2 r2 hj2 h2 => ?_⟩
          by_cases e : j2 < j
          · exact hno j2 r2 e h2
          · obtain rfl : j2 = j := by omega
            rw [hr2] at h2
            cases h2
            exact hh
      · obtain ⟨d5, rfl, s2, hno⟩ := h
        rw [adR_len] at hno
        have hcov : Kf.cov (pm M) ns i us = false := by
          rw [Kf.cov_iff, ← hlex, List.any_map]
          exact none_at fun j r hj => hno j r (lt_of_get hj) hj
        have hin3 : i + 1 ≤ n := by
          rcases Nat.lt_or_ge i n with h | h
          · exact h
          · obtain rfl : i = n := by omega
            rw [hL.1] at hcov
            cases hcov
        have hi5 : i + 1 ≤ 5 := by omega
        refine ⟨Nat.zero_le _, fun g ng => ?_⟩
        have s3 : Same H' (upd H2 g (.lst [])) := s2.trans (same_new ng)
        have eg : upd H2 g (.lst []) g = some (.lst (adR [])) := upd_same
        generalize upd H2 g (.lst []) = H3 at s3 eg
        refine ⟨.ref qa, rfl, qa, rfl, ⟨_, sqL_new (s3 _ _ eq)⟩, ?_⟩
        refine for_it (walk_list (K := K) (a := qa) (xs := adR rs)) (fun j σ H4 => ∃ (d5 : Option V) (g : Addr) (R2 : List Rw), σ = [some (.ref d), some (.ref b), some (.ref a), some (.ref qa), some (.int (0 + (i : Int))), d5, some (.ref g), none] ∧ Same H' H4 ∧ H4 g = some (.lst (adR R2)) ∧ RowsAt H4 R2 ∧ R2.map (·.2) = ((Kf.lex ns i).take j).flatMap fun one => ns.map fun d => one ++ [d])
          ⟨d5, g, [], rfl, s3, eg, (fun r hr => nomatch hr), rfl⟩ (fun j σ H4 _ ⟨_, _, _, _, s4, _⟩ => sqL_new (s4 _ _ eq)) (fun j x σ H4 H5 hj h y => ?_) (fun σ H4 h => ?_)
        · obtain ⟨rfl, hx⟩ := y
          obtain ⟨d5, g, R2, rfl, s4, eg, hR2, hl2⟩ := h
          obtain ⟨r, hr2, rfl⟩ := get_map hx
          have hrm := List.mem_of_getElem? hr2
          have hlr : (Kf.lex ns i)[j]? = some r.2 := by rw [← hlex, List.getElem?_map, hr2]; rfl
          have hlx := Kf.lex_len (ns := ns) (n := i) (r := r.2) (by rw [← hlex]; exact List.mem_map.mpr ⟨r, hrm, rfl⟩)
          have hA4 := (sm.trans s4) _ _ hA
          have hr4 := s4 _ _ (hR r hrm)
          have cnt : ∀ k, (((Kf.lex ns i).take k).flatMap fun one => ns.map fun d => one ++ [d]).length ≤ 3 * 243 := fun k => by
            rw [List.length_flatMap]
            simp only [List.length_map]
            rw [List.map_const', List.sum_replicate_nat, List.length_take]
            have := lexle i (by omega)
            exact Nat.le_trans (Nat.mul_le_mul (Nat.le_trans (Nat.min_le_right _ _) this) n3) (by decide)
          have R2len : R2.length ≤ 3 * 243 := by
            have := cnt j
            rw [← hl2, List.length_map] at this
            exact this
          refine ⟨.ref g, rfl, .ref a, rfl, a, rfl, ⟨_, sqL_new hA4⟩, fun D nD => ?_⟩
          refine lc_it (walk_list (K := K) (a := a) (xs := ns.map V.str)) (fun k Z => Same H5 Z ∧ ∃ R3 : List Rw, Z D = some (.lst (adR R3)) ∧ RowsAt Z R3 ∧ R3.map (·.2) = (ns.take k).map fun d => r.2 ++ [d]) ⟨same_new nD, [], upd_same, (fun r hr => nomatch hr), rfl⟩ (fun k Z _ h => sqL_new (h.1 _ _ hA4)) (fun k x Z Z' hk h y => ?_) (fun Z h => ?_)
          · obtain ⟨rfl, hx⟩ := y
            obtain ⟨sZ, R3, eD, hR3, hl3⟩ := h
            obtain ⟨y, hy, rfl⟩ := get_map hx
            refine ⟨rfl, .ref r.1, rfl, .str y, rfl, (by show 1 ≤ sizeLine; exact smallE (by decide)), fun t nt => ?_⟩
            have s5 := sZ.trans (same_new (o := .tup [V.str y]) nt)
            have eD5 := same_new (o := .tup [V.str y]) nt _ _ eD
            have hR5 := hR3.mono (same_new (o := .tup [V.str y]) nt)
            have et : upd Z' t (.tup [V.str y]) t = some (.tup [V.str y]) := upd_same
            generalize upd Z' t (.tup [V.str y]) = Z5 at s5 eD5 hR5 et
            refine catX (s5 _ _ hr4) et (by rw [List.length_map, hlx.1]; show i + 1 ≤ 100000; omega) fun Z6 p6 s6 e6 => ?_
            have R3len : R3.length ≤ 3 := by
              have := congrArg List.length hl3
              rw [List.length_map, List.length_map, List.length_take] at this
              omega
            have ne6 : p6 ≠ D := fun e => by
              rw [e, s6 _ _ eD5] at e6
              cases e6
            refine ⟨_, s6 _ _ eD5, by rw [adR_len]; exact small (by omega), fun c u e => ?_, R3 ++ [(p6, r.2 ++ [y])], ?_, fun r' hr' => ?_, ?_⟩
            · rw [upd_ne (ne_of_none e nD)]
              exact s6 _ _ (s5 _ _ e)
            · rw [upd_same]
              unfold adR
              rw [List.map_append]
              rfl
            · rcases List.mem_append.mp hr' with z | z
              · have q1 := s6 _ _ (hR5 r' z)
                rw [upd_ne (fun e => by rw [e, s6 _ _ eD5] at q1; cases q1)]
                exact q1
              · rw [List.mem_singleton.mp z, upd_ne ne6]
                show Z6 p6 = some (.tup ((r.2 ++ [y]).map V.str))
                rw [e6, List.map_append]
                rfl
            · rw [List.map_append, hl3, take_of_get hy, List.map_append]
              rfl
          · obtain ⟨sZ, R3, eD, hR3, hl3⟩ := h
            rw [List.length_map, List.take_length] at hl3
            have R3len : R3.length ≤ 3 := by
              have := congrArg List.length hl3
              rw [List.length_map, List.length_map] at this
              omega
            refine ⟨g, D, _, _, rfl, rfl, sZ _ _ eg, eD, by rw [adR_len, adR_len]; exact smallE (by omega), fun p np => ?_⟩
            have sp := same_new (o := .lst (adR R2 ++ adR R3)) np
            refine ⟨_, p, R2 ++ R3, rfl, s4.trans (sZ.trans sp), ?_, fun r' hr' => ?_, ?_⟩
            · rw [upd_same]
              unfold adR
              rw [List.map_append]
            · rcases List.mem_append.mp hr' with z | z
              · exact sp _ _ (sZ _ _ (hR2 r' z))
              · exact sp _ _ (hR3 r' z)
            · rw [List.map_append, hl2, hl3, take_of_get hlr, List.flatMap_append, List.flatMap_cons, List.flatMap_nil, List.append_nil]
        · obtain ⟨d5, g, R2, rfl, s4, eg, hR2, hl2⟩ := h
          rw [adR_len, rlen, List.take_length, ← Kf.lex_snoc] at hl2
          have R2len : R2.length ≤ 243 := by
            have := congrArg List.length hl2
            rw [List.length_map] at this
            rw [this]
            exact lexle (i + 1) hi5
          refine ⟨.ref g, rfl, _, rfl, ?_⟩
          refine ⟨g, _, rfl, sqL_new eg, fun p np => ?_⟩
          have ecut : cutV (adR R2) none (some (400 : Int)) = adR R2 := by
            unfold cutV
            rw [show (400 : Int) = ((400 : Nat) : Int) from rfl, HT.sIx_nat, HT.sIx_none, List.drop_zero, Nat.sub_zero, List.take_of_length_le]
            rw [adR_len]
            omega
          rw [ecut]
          have sp := same_new (o := .lst (adR R2)) np
          exact ⟨_, _, _, p, R2, rfl, (sm.trans s4).trans sp, upd_same, hR2.mono sp, hl2, hin3⟩
    · rintro σ H' ⟨d4, d5, d6, qa, rs, rfl, sm, eq, hR, hlex, hin2⟩
      omega
end
end Kb
namespace Kb
open PySem PySem.Spec PyProof.Rows L2
section
variable {P : Program} {w : World} {K : PySem.W.Frag} {mg : Str → Option Value} {base : Heap}
abbrev nPr : List Str := ["box", "names", "near", "one", "place", "deed", "turn"]
theorem scPair : FnScope nPr ["box", "names"] (defScope sPair) := ⟨rfl, rfl, rfl, by decide +kernel, rfl, by decide +kernel, by decide +kernel⟩
def spPair : Sp := fun vs H Q _ => ∃ (x a : Addr) (ns : List Str), vs = [.ref x, .ref a] ∧ Box H x ∧ a ≠ x ∧ H a = some (.lst (ns.map V.str)) ∧ 0 < ns.length ∧ ns.length ≤ 1000 ∧
  ∀ (p b c : Addr) (us zs : List Str) H', But x H H' → Box H' x → H' p = some (.lst [.ref b, .ref c]) → H' b = some (.tup (us.map V.str)) → H' c = some (.tup (zs.map V.str)) → (∀ y ∈ us, y ∈ ns) → (∀ y ∈ zs, y ∈ ns) → us.length ≤ 5 → zs.length ≤ 5 → Q (.ref p) H'
/-- some names picked, as a new list -/
theorem picks {x a : Addr} {ns : List Str} {m : Nat} {sp1 : Sp} {H H1 : Hp} {Qd : Hp → Prop} {D : Addr} {g : TG} {te : TE} {vs : List Nat} {σ : L2.St} (hax : a ≠ x) (hm : m ≤ 5) (b1 : Box H1 x) (nD : H1 D = none) (ha : H1 a = some (.lst (ns.map V.str)))
    (turn : ∀ (j : Nat) (Z : Hp) (Qv : VK), Box Z x → Z a = some (.lst (ns.map V.str)) → (∀ (z : Str) Z2, z ∈ ns → But x Z Z2 → Box Z2 x → Qv (.str z) Z2) → g (.int (j : Nat)) (wipe σ vs) Z fun σ2 H2 => wipe σ2 vs = wipe σ vs ∧ te σ2 H2 Qv)
    (hd : ∀ Z zs, But x H1 Z → Box Z x → (∀ z ∈ zs, z ∈ ns) → zs.length = m → Z D = some (.lst ((zs : List Str).map V.str)) → Qd Z) :
    ∃ W : Nat → Nat → Hp → Prop, (∃ k, W 0 k (upd H1 D (.lst []))) ∧ ∀ i k H, W i k H →
      ((Itr 0 m).stop i H ∧ Qd H) ∨ ((Itr 0 m).go i H ∧ ∃ Nx : Hp → Prop, (∀ H', Nx H' → ∃ k', k' < k ∧ W (i + 1) k' H') ∧ ∀ y H', (Itr 0 m).yld i H y H' → g y (wipe σ vs) H' fun σ2 H2 => wipe σ2 vs = wipe σ vs ∧ tYes σ2 H2 fun b H3 =>
        if b = true then te σ2 H3 fun y H4 => ∃ acc, H4 D = some (.lst acc) ∧ acc.length < sizeLine ∧ Nx (upd H4 D (.lst (acc ++ [y]))) else Nx H3) := by
  have hDx := b1.ne nD
  have haD : a ≠ D := ne_of_none ha nD
  refine lc_it (walk_r0 (n := m)) (fun j Z => But x H1 Z ∧ Box Z x ∧ ∃ zs : List Str, zs.length = j ∧ (∀ z ∈ zs, z ∈ ns) ∧ Z D = some (.lst (zs.map V.str)))
    ⟨But.of (same_new nD), b1.upd hDx, [], rfl, (fun z hz => by cases hz), upd_same⟩ (fun _ _ _ _ => True.intro) (fun j y Z Z' hj h yy => ?_) (fun Z h => ?_)
  · obtain ⟨rfl, rfl⟩ := yy
    obtain ⟨kZ, bZ, zs, hzl, hz, eD⟩ := h
    refine turn j Z' _ bZ (kZ _ _ hax ha) fun z Z2 hzn kZ2 bZ2 => ?_
    refine ⟨_, kZ2 _ _ hDx eD, by rw [List.length_map]; exact small (by omega), fun c u hc e => ?_, bZ2.upd hDx, zs ++ [z], by rw [List.length_append, hzl]; rfl, fun y hy => ?_, by rw [upd_same, List.map_append]; rfl⟩
    · rw [upd_ne (ne_of_none e nD)]
      exact kZ2 _ _ hc (kZ _ _ hc e)
    · rcases List.mem_append.mp hy with h | h
      · exact hz y h
      · rw [List.mem_singleton.mp h]
        exact hzn
  · obtain ⟨kZ, bZ, zs, hzl, hz, eD⟩ := h
    exact hd Z zs kZ bZ hz hzl eD
theorem ok_pair {f fT fP : Addr} {fd fdT fdP : FuncData} (F : Fun K "_law_pair" "_law_pair" sPair f fd) (FT : Fun K "_law_take" "_law_take" sTake fT fdT) (bT : Binds K fdT ["box", "many"] []) (gT : mg "_law_take" = some (.ref fT)) (FP : Fun K "_law_pick" "_law_pick" sPick fP fdP) (bP : Binds K fdP ["box", "some"] []) (gP : mg "_law_pick" = some (.ref fP))
    (mi : mg "int" = none) (ml : mg "len" = none) (mt : mg "tuple" = none) (mr : mg "range" = none) : FnOk P w K mg base CX0 3 f fd ["box", "names"] spPair := by
  have GT : FnOk P w K mg base CX0 1 fT fdT ["box", "many"] spTake := ok_take FT mi
  have GP : FnOk P w K mg base CX0 2 fP fdP ["box", "some"] spPick := ok_pick FP FT bT gT mi ml
  refine F.ok scPair (fun vs H Q E h => ?_) (fun cdv A outer s H vs Q E hr h => ?_)
  · obtain ⟨x, a, ns, rfl, _⟩ := h
    rfl
  · obtain ⟨x, a, ns, rfl, hx, hax, ha, n0, n1, q⟩ := h
    have hr1 := hr.mono (show 1 ≤ 2 by decide)
    refine ⟨_, pss_cons (ps_set (i := 2) scPair.nd rfl (.inl rfl) (pe_call GT hr1 (by rfl) gT FT.kp bT .nil pass0 (pa_cons (pv 0) (pa_cons pe_int pa_nil))))
      (pss_cons (ps_set (i := 3) scPair.nd rfl (.inl rfl) (pe_callTy call_tuple_of (by rfl) mt (by decide +kernel) (pa_cons
        (pe_lc (own := [("turn", 6)]) (g := gName 6) (tt := tYes) rfl scPair.nd (pi_range1 (by rfl) mr (pa_cons (pe_call GT hr1 (by rfl) gT FT.kp bT .nil pass0 (pa_cons (pv 0) (pa_cons pe_int pa_nil))) pa_nil)) (blkOk_by (own := [("turn", 6)]) (N := nPr) (sc := defScope sPair) (by decide +kernel)) (fun _ _ _ _ _ => pg_name (i := 6) scPair.nd rfl (Or.inl rfl)) (fun _ _ _ _ _ => pts_nil)
          (fun _ _ _ _ _ => pe_call GP hr (by rfl) gP FP.kp bP .nil pass0 (pa_cons (pv 0) (pa_cons (pv 1) pa_nil)))) pa_nil)))
      (pss_cons (ps_set (i := 4) scPair.nd rfl (.inl rfl) (pe_call GT hr1 (by rfl) gT FT.kp bT .nil pass0 (pa_cons (pv 0) (pa_cons (pe_op op_add (pe_callB call_len_seq (by rfl) ml PySem.boot_len (pa_cons (pv 3) pa_nil)) pe_int) pa_nil))))
      (pss_cons (ps_set (i := 5) scPair.nd rfl (.inl rfl) (pe_call GP hr (by rfl) gP FP.kp bP .nil pass0 (pa_cons (pv 0) (pa_cons (pv 1) pa_nil))))
      (pss_cons (ps_if (pt_cmpR op_eq (pv 2) pe_int (nomark _))
        (pss_one (ps_ret (pe_lst (pa_cons (pv 3) (pa_cons (pe_op op_catA (pe_op op_catA (pe_slice sl_tupA (pv 3) po_none (po_some (pv 4))) (pe_tup (pa_cons (pv 5) (pa_cons (pe_call GP hr (by rfl) gP FP.kp bP .nil pass0 (pa_cons (pv 0) (pa_cons (pv 1) pa_nil))) pa_nil)))) (pe_slice sl_tupA (pv 3) (po_some (pe_op op_add (pv 4) pe_int)) po_none)) pa_nil)))))
        pss_nil)
      (pss_one (ps_ret (pe_lst (pa_cons (pv 3) (pa_cons (pe_callTy call_tuple_of (by rfl) mt (by decide +kernel) (pa_cons
        (pe_lc (own := [("turn", 6)]) (g := gName 6) (tt := tYes) rfl scPair.nd (pi_range1 (by rfl) mr (pa_cons (pe_call GT hr1 (by rfl) gT FT.kp bT .nil pass0 (pa_cons (pv 0) (pa_cons pe_int pa_nil))) pa_nil)) (blkOk_by (own := [("turn", 6)]) (N := nPr) (sc := defScope sPair) (by decide +kernel)) (fun _ _ _ _ _ => pg_name (i := 6) scPair.nd rfl (Or.inl rfl)) (fun _ _ _ _ _ => pts_nil)
          (fun _ _ _ _ _ => pe_call GP hr (by rfl) gP FP.kp bP .nil pass0 (pa_cons (pv 0) (pa_cons (pv 1) pa_nil)))) pa_nil)) pa_nil))))))))), ?_⟩
    refine ⟨.ref x, rfl, x, 2, rfl, hx, by decide, by decide, fun near H1 hn2 k1 b1 => ?_⟩
    refine ⟨.ref x, rfl, x, 4, rfl, b1, by decide, by decide, fun r H2 hr4 k2 b2 => ?_⟩
    have k12 := k1.trans k2
    refine ⟨(r : Nat), rfl, by omega, by omega, fun D nD => ?_⟩
    refine picks (sp1 := spPick) (H := H) hax (by omega) b2 nD (k12 _ _ hax ha) (fun j Z Qv bZ haZ fin => ⟨rfl, .ref x, rfl, .ref a, rfl, x, a, _, rfl, bZ, hax, haZ, by rw [List.length_map]; exact n0, by rw [List.length_map]; omega, fun i v Z2 hv kZ bZ2 => ?_⟩) fun Z us kZ bZ hus lus eD => ?_
    · obtain ⟨z, hz, rfl⟩ := get_map hv
      exact fin z Z2 (List.mem_of_getElem? hz) kZ bZ2
    · refine ⟨D, _, rfl, .inl ⟨sqL_new eD, fun b nb => ?_⟩⟩
      have hbx := bZ.ne nb
      have k3 : But x H (upd Z b (.tup (us.map V.str))) := (k12.trans kZ).trans (But.of (same_new nb))
      have eb : upd Z b (.tup (us.map V.str)) b = some (.tup (us.map V.str)) := upd_same
      have b3 : Box (upd Z b (.tup (us.map V.str))) x := bZ.upd hbx
      generalize upd Z b (.tup (us.map V.str)) = H3 at k3 eb b3
      have lenU : ((us.map V.str).length : Nat) = us.length := List.length_map _
      have el : ((us.map V.str).length : Int) + 1 = ((us.length + 1 : Nat) : Int) := by rw [lenU]; omega
      refine ⟨.ref x, rfl, .ref b, rfl, b, _, rfl, .inr (sqT_new eb), _, 1, rfl, rfl, x, us.length + 1, by rw [← el]; rfl, b3, Nat.succ_pos _, by omega, fun pl H4 hpl k4 b4 => ?_⟩
      have ha4 := (k3.trans k4) _ _ hax ha
      refine ⟨.ref x, rfl, .ref a, rfl, x, a, _, rfl, b4, hax, ha4, by rw [List.length_map]; exact n0, by rw [List.length_map]; omega, fun i5 v H5 hv5 k5 b5 => ?_⟩
      obtain ⟨dd, hdd, rfl⟩ := get_map hv5
      have ddn := List.mem_of_getElem? hdd
      have k05 := (k3.trans k4).trans k5
      have eb5 := k5 _ _ hbx (k4 _ _ hbx eb)
      have ha5 := k05 _ _ hax ha
      refine ⟨.int (near : Nat), rfl, rfl, _, rfl, ite2 (fun c => ?_) (fun c => ?_)⟩
      · refine ⟨.ref b, rfl, .ref b, rfl, .int (pl : Nat), rfl, _, rfl, ?_⟩
        refine takeX eb5 fun H6 p6 s6 e6 => ?_
        have b6 := b5.mono s6
        refine ⟨.str dd, rfl, .ref x, rfl, .ref a, rfl, x, a, _, rfl, b6, hax, s6 _ _ ha5, by rw [List.length_map]; exact n0, by rw [List.length_map]; omega, fun i7 v H7 hv7 k7 b7 => ?_⟩
        obtain ⟨d2, hd2, rfl⟩ := get_map hv7
        have hp6x : p6 ≠ x := fun e => by
          obtain ⟨q0, q1, q2, q3⟩ := b6
          rw [e, q3] at e6
          cases e6
        have e7 := k7 _ _ hp6x e6
        have eb7 := k7 _ _ hbx (s6 _ _ eb5)
        have k07 := (k05.trans (But.of s6)).trans k7
        refine ⟨(by show 2 ≤ sizeLine; exact smallE (by decide)), fun t nt => ?_⟩
        have s8 := same_new (o := .tup [V.str dd, .str d2]) nt
        refine catX (s8 _ _ e7) upd_same (by rw [List.length_take, List.length_map]; show _ + 2 ≤ 100000; omega) fun H9 p9 s9 e9 => ?_
        have s79 := s8.trans s9
        have epl : (pl : Int) + 1 = ((pl + 1 : Nat) : Int) := by omega
        refine ⟨.ref b, rfl, .int (pl : Nat), rfl, _, 1, rfl, rfl, _, rfl, ?_⟩
        dsimp only [tNoPart]
        rw [epl]
        refine dropX (s79 _ _ eb7) fun H10 p10 s10 e10 => ?_
        refine catX (s10 _ _ e9) e10 (by rw [List.length_append, List.length_take, List.length_drop, List.length_map]; show _ + 2 + _ ≤ 100000; omega) fun H11 p11 s11 e11 => ?_
        have s711 := (s79.trans s10).trans s11
        refine ⟨(by show 2 ≤ sizeLine; exact smallE (by decide)), fun l nl => ?_⟩
        have sl := same_new (o := .lst [V.ref b, .ref p11]) nl
        refine q l b p11 us (us.take pl ++ [dd, d2] ++ us.drop (pl + 1)) _ (k07.trans (But.of (s711.trans sl))) (b7.mono (s711.trans sl)) upd_same (sl _ _ (s711 _ _ eb7)) (sl _ _ ?_) hus (fun y hy => ?_) (by omega) ?_
        · rw [e11, List.map_append, List.map_append, List.map_take, List.map_drop]
          rfl
        · rcases List.mem_append.mp hy with h | h
          · rcases List.mem_append.mp h with h | h
            · exact hus y (List.mem_of_mem_take h)
            · rcases List.mem_cons.mp h with h | h
              · rw [h]
                exact ddn
              · rw [List.mem_singleton.mp h]
                exact List.mem_of_getElem? hd2
          · exact hus y (List.mem_of_mem_drop h)
        · rw [List.length_append, List.length_append, List.length_take, List.length_drop]
          show _ + 2 + _ ≤ 5
          omega
      · refine ⟨.ref b, rfl, .ref x, rfl, x, 5, rfl, b5, by decide, by decide, fun r2 H6 hr5 k6 b6 => ?_⟩
        refine ⟨(r2 : Nat), rfl, by omega, by omega, fun D2 nD2 => ?_⟩
        refine picks (sp1 := spPick) (H := H) hax (by omega) b6 nD2 (k6 _ _ hax ha5) (fun j Z Qv bZ haZ fin => ⟨rfl, .ref x, rfl, .ref a, rfl, x, a, _, rfl, bZ, hax, haZ, by rw [List.length_map]; exact n0, by rw [List.length_map]; omega, fun i v Z2 hv kZ bZ2 => ?_⟩) fun Z2 zs kZ2 bZ2 hzs lzs eD2 => ?_
        · obtain ⟨z, hz, rfl⟩ := get_map hv
          exact fin z Z2 (List.mem_of_getElem? hz) kZ bZ2
        · refine ⟨D2, _, rfl, .inl ⟨sqL_new eD2, fun c2 nc2 => ?_⟩⟩
          refine ⟨(by show 2 ≤ sizeLine; exact smallE (by decide)), fun l nl => ?_⟩
          have s8 := same_new (o := .tup (zs.map V.str)) nc2
          have sl := same_new (o := .lst [V.ref b, .ref c2]) nl
          refine q l b c2 us zs _ ((k05.trans (k6.trans kZ2)).trans (But.of (s8.trans sl))) (bZ2.mono (s8.trans sl)) upd_same (sl _ _ (s8 _ _ (kZ2 _ _ hbx (k6 _ _ hbx eb5)))) (sl _ _ upd_same) hus hzs (by omega) (by omega)
end
end Kb
/-! a != b of two dicts with equal values, whatever data the values are. -/
namespace Ka
open PySem PySem.Spec PyProof.Rows L2
/-- the same data -/
def SameD (K : PySem.W.Frag) (H : Hp) (x y : V) : Prop := ∃ d, Dp K H x d ∧ Dp K H y d ∧ SeqAt.shaped d = true ∧ PyData.eqv d d = true
section
variable {X : Cx} {pins : List (Addr × Obj)} {σ : L2.St} {H : Hp} {s : Shared}
theorem same_at (I : Inv X pins σ H s) {A : Around} (hu : A.units + 64 < cLine) {x y : V} {v u : Value} (h : SameD X.K H x y) (rx : RelV x v) (ry : RelV y u) : SeqAt.EqAt A s v u true := by
  obtain ⟨d, d1, d2, sh, ev⟩ := h
  obtain ⟨as, r1⟩ := Dp.reads I d x v d1 rx
  obtain ⟨bs, r2⟩ := Dp.reads I d y u d2 ry
  have := SeqAt.eqAt_reads d d A s v u as bs r1 r2 (SeqAt.canLay_of_shaped sh) (SeqAt.canLay_of_shaped sh) (SeqAt.room_of_shaped sh hu)
  rwa [ev] at this
theorem hits_same (I : Inv X pins σ H s) {A : Around} (hu : A.units + 64 < cLine) {ls : List (L2.Key × V)} {vb : List (L2.Key × Value)} (rb : KV ls vb) {ks : List (L2.Key × V)} {va : List (L2.Key × Value)} (ra : KV ks va) :
    (∀ p ∈ ks, ∃ u, valV ls p.1 = some u ∧ SameD X.K H p.2 u) → PySem.W.KeqHits A s vb va true := by
  unfold KV at ra
  induction ra with
  | nil => exact fun _ => .nil
  | @cons p q ps qs h t ih =>
    intro hp
    obtain ⟨k, v⟩ := q
    obtain ⟨e1, rv⟩ := h
    have e1 : p.1 = k := e1
    obtain ⟨u, eu, su⟩ := hp p List.mem_cons_self
    have ro : RelO (some u) (valueAt vb p.1) := eu ▸ rb.val p.1
    obtain ⟨z, hz, rz⟩ := ro.some_of
    rw [e1] at hz
    exact .hit (e := true) (b := true) hz (same_at I hu su rv rz) (ih fun p' hm => hp p' (List.mem_cons_of_mem _ hm))
end
section
variable {X : Cx}
def rNeDict (K : PySem.W.Frag) : R2 := fun x y H Q => ∃ a b ks ls, x = .ref a ∧ y = .ref b ∧ H a = some (.dK ks) ∧ H b = some (.dK ls) ∧ ks.length = ls.length ∧ (∀ p ∈ ks, ∃ u, valV ls p.1 = some u ∧ SameD K H p.2 u) ∧ Q (.bl false) H
theorem op_neDict (hu : X.A.units + 65 < cLine) : OpR X (compareOp .NotEq) (rNeDict X.K) := by
  intro pins s σ H x y v u Q I rx ry ⟨a, b, ks, ls, ex, ey, ha, hb, hl, hp, q⟩
  subst ex ey
  obtain rfl : v = Value.ref a := rx
  obtain rfl : u = Value.ref b := ry
  obtain ⟨_, ya, va, ra, da⟩ := (show ObjOk X.prog X.w H s.heap a (.dK ks) from I.hok a _ ha)
  obtain ⟨_, yb, vb, rb, db⟩ := (show ObjOk X.prog X.w H s.heap b (.dK ls) from I.hok b _ hb)
  have lens : va.length = vb.length := by rw [← ra.length, ← rb.length, hl]
  refine PySem.W.keq_ne (knd := mixKind X.prog X.w) (r := true) ya yb da db (by omega) (fun _ => hits_same I (A := X.A.in1) (by show X.A.units + 1 + 64 < cLine; omega) rb ra hp) ?_
  exact ⟨.bl false, H, I, by rw [lens]; simp; rfl, q⟩
end
end Ka
/-! A call of a def by keywords alone. -/
namespace Ka
open PySem PySem.Spec PyProof.Rows L2
section
variable {X : Cx} {CX : CXT} {k : Nat} {f : Addr} {fd : FuncData} {ps ks : List Str} {sp : Sp} {E : XK} {x : Str} {p pos : Pos} {kws : List Keyword} {tk : TA} {g : List Value → List Value → List Value} {gV : List V → List V → List V}
def tCallK0 (sp : Sp) (gV : List V → List V → List V) (E : XK) (tk : TA) : TE := fun σ H Q => tk σ H fun zs H2 => sp (gV [] zs) H2 Q E
theorem pe_callK0 (F : FnOk X.prog X.w X.K X.mg X.base CX k f fd ps sp) (hr : Room k X.A) (hg : Gl X x) (hm : X.mg x = some (.ref f)) (hk : PySem.W.keepIn X.K (.ref f) = true) (hb : KBinds X.K fd ps ks g gV) (hx : Passes CX X E) (hkw : PK X kws tk)
    (hall : (backToKw pos (keywordEach kws X.env)).all (·.1.isSome) = true := by rfl) (hks : (backToKw pos (keywordEach kws X.env)).filterMap (·.1) = ks := by rfl) (hdb : (x == ("__debug__" : Str)) = false := by decide)
    (hpl : ((backTo pos (starEach [] X.env)).any (·.1) || (backToKw pos (keywordEach kws X.env)).any (·.1.isNone)) = false := by rfl) : PE X (.Call (.Name x p) [] kws pos) (tCallK0 sp gV E tk) := by
  constructor
  intro pins s σ H Q I h
  apply wpAny_Call_Name_kw
  apply ld_glob I hg hm ?_ hdb
  apply PySem.W.callWith_KW0 (h₀ := X.base) I.ok.mod.kin hk hall ?_ hpl
  apply thn (hkw.run pos pins s σ H _ I h)
  rintro ws s2 ⟨zs, H2, I2, rz, q2⟩
  rw [hks]
  exact ⟨I2.kIn, run_fnk F hr hb hx I2 .nil rz q2⟩
end
/-- two parameters, given by name in the other order -/
def swG {α : Type} (us ws : List α) : List α := match us, ws with
  | [], [a, b] => [b, a]
  | _, _ => []
theorem kb_swap {K : PySem.W.Frag} {fd : FuncData} {a b : Str} (h : ∀ x y : Value, bindArgs fd ⟨[], [(b, x), (a, y)]⟩ = pure [(a, y), (b, x)]) : KBinds K fd [a, b] [b, a] swG swG := by
  constructor
  · intro s us ws _ hl
    match us, ws, hl with
    | [], [x, y], _ => exact BindsTo.of_eq (h x y)
    | [], [], hl => exact absurd hl (by simp [swG])
    | [], [_], hl => exact absurd hl (by simp [swG])
    | [], _ :: _ :: _ :: _, hl => exact absurd hl (by simp [swG])
    | _ :: _, _, hl => exact absurd hl (by simp [swG])
  · intro vs us zs ws r rz
    cases r with
    | nil =>
      cases rz with
      | nil => exact .nil
      | cons a r =>
        cases r with
        | nil => exact .nil
        | cons b r =>
          cases r with
          | nil => exact .cons b (.cons a .nil)
          | cons _ _ => exact .nil
    | cons _ _ => exact .nil
/-- one parameter, given by name -/
def snG {α : Type} (us ws : List α) : List α := match us, ws with
  | [], [a] => [a]
  | _, _ => []
theorem kb_one {K : PySem.W.Frag} {fd : FuncData} {a : Str} (h : ∀ x : Value, bindArgs fd ⟨[], [(a, x)]⟩ = pure [(a, x)]) : KBinds K fd [a] [a] snG snG := by
  constructor
  · intro s us ws _ hl
    match us, ws, hl with
    | [], [x], _ => exact BindsTo.of_eq (h x)
    | [], [], hl => exact absurd hl (by simp [snG])
    | [], _ :: _ :: _, hl => exact absurd hl (by simp [snG])
    | _ :: _, _, hl => exact absurd hl (by simp [snG])
  · intro vs us zs ws r rz
    cases r with
    | nil =>
      cases rz with
      | nil => exact .nil
      | cons a r =>
        cases r with
        | nil => exact .cons a .nil
        | cons _ _ => exact .nil
    | cons _ _ => exact .nil
end Ka
namespace Ka
open PySem PySem.Spec PyProof.Rows L2
/-- three parameters, given by name from the last to the first -/
def rvG {α : Type} (us ws : List α) : List α := match us, ws with
  | [], [a, b, c] => [c, b, a]
  | _, _ => []
theorem kb_rev3 {K : PySem.W.Frag} {fd : FuncData} {a b c : Str} (h : ∀ x y z : Value, bindArgs fd ⟨[], [(c, x), (b, y), (a, z)]⟩ = pure [(a, z), (b, y), (c, x)]) : KBinds K fd [a, b, c] [c, b, a] rvG rvG := by
  constructor
  · intro s us ws _ hl
    match us, ws, hl with
    | [], [x, y, z], _ => exact BindsTo.of_eq (h x y z)
    | [], [], hl => exact absurd hl (by simp [rvG])
    | [], [_], hl => exact absurd hl (by simp [rvG])
    | [], [_, _], hl => exact absurd hl (by simp [rvG])
    | [], _ :: _ :: _ :: _ :: _, hl => exact absurd hl (by simp [rvG])
    | _ :: _, _, hl => exact absurd hl (by simp [rvG])
  · intro vs us zs ws r rz
    cases r with
    | cons _ _ => exact .nil
    | nil =>
      cases rz with
      | nil => exact .nil
      | cons a r =>
        cases r with
        | nil => exact .nil
        | cons b r =>
          cases r with
          | nil => exact .nil
          | cons c r =>
            cases r with
            | nil => exact .cons c (.cons b (.cons a .nil))
            | cons _ _ => exact .nil
end Ka
namespace Kb
open PySem PySem.Spec PyProof.Rows L2
/-- a def of the text that can be called -/
structure Cl (K : PySem.W.Frag) (mg : Str → Option Value) (x : Str) (f : Addr) (fd : FuncData) (ps : List Str) : Prop where
  kp : PySem.W.keepIn K (.ref f) = true
  b : Binds K fd ps []
  g : mg x = some (.ref f)
theorem eqD_at {X : Cx} {K : PySem.W.Frag} (h : X.K = K) (hu : X.A.units + 64 < cLine) : OpR X (compareOp .Eq) (rEqD K) := by
  subst h
  exact op_eqD hu
theorem kvM_list (N : MK) : ((kvM N).map fun kv => kV kv.1) = (N.map (·.1)).map V.str := by
  unfold kvM
  rw [List.map_map, List.map_map]
  rfl
theorem lot_names {M : MK} (ft : Fit M) (rnm : ∀ t ∈ M, ∀ z ∈ t.2.2, isName z = true) {y : Str} (hy : y ∈ M.map (·.1)) {L : List Str} (h : IsLot (pm M) y L) : ∀ z ∈ L, isName z = true := fun z hz => by
  obtain ⟨t, ht, rfl⟩ := name_M hy
  have := ((h.mem z).mp hz).1
  rw [look_M ft.nd ht] at this
  exact rnm t ht z this
theorem mad_names {M : MK} (ft : Fit M) (rnm : ∀ t ∈ M, ∀ z ∈ t.2.2, isName z = true) {zs : List Str} (h : ∀ y ∈ zs, y ∈ M.map (·.1)) : ∀ z ∈ Kf.mad (pm M) zs, isName z = true := fun z hz => by
  unfold Kf.mad at hz
  obtain ⟨y, hy, hz⟩ := List.mem_flatMap.mp hz
  obtain ⟨t, ht, rfl⟩ := name_M (h y hy)
  rw [look_M ft.nd ht] at hz
  exact rnm t ht z hz
theorem same_dicts {K : PySem.W.Frag} {H : Hp} {M N1 N2 : MK} (ft : Fit M) (rnm : ∀ t ∈ M, ∀ z ∈ t.2.2, isName z = true) (e : N1.map (·.1) = N2.map (·.1)) (p : (N2.map (·.1)).Perm (M.map (·.1))) (s1 : Stand H N1) (s2 : Stand H N2) (l1 : ∀ t ∈ N1, IsLot (pm M) t.1 t.2.2) (l2 : ∀ t ∈ N2, IsLot (pm M) t.1 t.2.2) :
    ∀ q ∈ kvM N1, ∃ u, valV (kvM N2) q.1 = some u ∧ Ka.SameD K H q.2 u := by
  intro q hq
  obtain ⟨t1, h1, rfl⟩ := List.mem_map.mp hq
  have hin : t1.1 ∈ N2.map (·.1) := e ▸ List.mem_map.mpr ⟨t1, h1, rfl⟩
  obtain ⟨t2, h2, e2⟩ := name_M hin
  have nd2 : (N2.map (·.1)).Nodup := p.nodup_iff.mpr ft.nd
  refine ⟨.ref t2.2.1, by show valV (kvM N2) (Sum.inr t1.1) = _; rw [← e2]; exact valV_M nd2 h2, Ka.rowD t1.2.2, dpR (s1 t1 h1), ?_, shR (lot_names ft rnm (p.mem_iff.mp hin) (l1 t1 h1)), by rw [eqR, decide_eq_true rfl]⟩
  have lt := l2 t2 h2
  rw [e2] at lt
  rw [lot_uniq (l1 t1 h1) lt]
  exact dpR (s2 t2 h2)
section
variable {P : Program} {w : World} {K : PySem.W.Frag} {mg : Str → Option Value} {base : Heap}
abbrev nRt : List Str := ["box", "making", "names", "owned", "due", "bare", "exact", "told", "others", "turn", "one", "other", "held", "inside", "deed", "name"]
theorem scRight : FnScope nRt ["box", "making", "names"] (defScope sRight) := ⟨rfl, rfl, rfl, by decide +kernel, rfl, by decide +kernel, by decide +kernel⟩
def spRight : Sp := fun vs H Q _ => ∃ (x d a : Addr) (M : MK), vs = [.ref x, .ref d, .ref a] ∧ Box H x ∧ d ≠ x ∧ a ≠ x ∧ H d = some (.dK (kvM M)) ∧ Stand H M ∧ Fit M ∧ 0 < M.length ∧ H a = some (.lst ((M.map (·.1)).map V.str)) ∧ (∀ z ∈ M.map (·.1), isName z = true) ∧ (∀ t ∈ M, ∀ z ∈ t.2.2, isName z = true) ∧
  ∀ (H' : Hp), But x H H' → Box H' x → Q (.bl true) H'
theorem ok_right {f fOw fDu fEx fCp fHo fCk fPr fMd fLm fIn : Addr} {fd dOw dDu dEx dCp dHo dCk dPr dMd dLm dIn : FuncData} (F : Fun K "_law_making_right" "_law_making_right" sRight f fd)
    (GOw : FnOk P w K mg base CX0 2 fOw dOw ["making"] spOwnD) (COw : Cl K mg "own_deeds" fOw dOw ["making"]) (kOw : KBinds K dOw ["making"] ["making"] Ka.snG Ka.snG)
    (GDu : FnOk P w K mg base CX0 1 fDu dDu ["making"] spOwnD) (CDu : Cl K mg "_law_owned" fDu dDu ["making"])
    (GEx : FnOk P w K mg base CX0 3 fEx dEx ["making"] spExact) (CEx : Cl K mg "is_exact" fEx dEx ["making"]) (kEx : KBinds K dEx ["making"] ["making"] Ka.snG Ka.snG)
    (GCp : FnOk P w K mg base CX0 3 fCp dCp ["making"] spCouple) (CCp : Cl K mg "couple" fCp dCp ["making"]) (kCp : KBinds K dCp ["making"] ["making"] Ka.snG Ka.snG)
    (GHo : FnOk P w K mg base CX0 2 fHo dHo ["making", "row", "names"] (spHolder K)) (CHo : Cl K mg "_law_first_holder" fHo dHo ["making", "row", "names"])
    (GCk : FnOk P w K mg base CX0 3 fCk dCk ["making", "u", "v"] (spCheckC K)) (CCk : Cl K mg "check_couple" fCk dCk ["making", "u", "v"]) (kCk : KBinds K dCk ["making", "u", "v"] ["v", "u", "making"] Ka.rvG Ka.rvG)
    (GPr : FnOk P w K mg base CX0 3 fPr dPr ["box", "names"] spPair) (CPr : Cl K mg "_law_pair" fPr dPr ["box", "names"])
    (GMd : FnOk P w K mg base CX0 2 fMd dMd ["making", "row"] (spRowBy K)) (CMd : Cl K mg "made_row" fMd dMd ["making", "row"]) (kMd : KBinds K dMd ["making", "row"] ["row", "making"] Ka.swG Ka.swG)
    (GLm : FnOk P w K mg base CX0 1 fLm dLm ["making", "row"] (spLawMade K)) (CLm : Cl K mg "_law_made" fLm dLm ["making", "row"])
    (GIn : FnOk P w K mg base CX0 1 fIn dIn ["u", "v"] (spLawIn K)) (CIn : Cl K mg "_law_within" fIn dIn ["u", "v"])
    (ms : mg "sorted" = none) (ml : mg "list" = none) (mn : mg "len" = none) (mi : mg "isinstance" = none) (mb : mg "bool" = none) (mr : mg "range" = none) : FnOk P w K mg base CX0 4 f fd ["box", "making", "names"] spRight := by
  refine F.ok scRight (fun vs H Q E h => ?_) (fun cdv A outer s H vs Q E hr h => ?_)
  · obtain ⟨x, d, a, M, rfl, _⟩ := h
    rfl
  · obtain ⟨x, d, a, M, rfl, hx, hdx, hax, hd, hM, ft, hpos, ha, nmz, rnm, q⟩ := h
    have hr1 := hr.mono (show 1 ≤ 3 by decide)
    have hr2 := hr.mono (show 2 ≤ 3 by decide)
    have hu65 : (A.deeper (envOfC "_law_making_right" (defScope sRight) s.heap.objs.size f cdv)).units + 65 < cLine := by
      have := hr.un
      omega
    refine ⟨_, pss_cons (ps_set (i := 3) scRight.nd rfl (.inl rfl) (pe_call GOw hr2 (by rfl) COw.g COw.kp COw.b .nil pass0 (pa_cons (pv 1) pa_nil)))
      (pss_cons (ps_set (i := 4) scRight.nd rfl (.inr rfl) (pe_call GDu hr1 (by rfl) CDu.g CDu.kp CDu.b .nil pass0 (pa_cons (pv 1) pa_nil)))
      (pss_cons (ps_if (PW.pt (pw_or (pt_cmpR (Ka.op_neDict hu65) (pv 3) (pv 4) (nomark _)) (pw_or1 (pt_cmpR (op_neD hr.units) (pe_callTy (call_listD rfl) (by rfl) ml (by decide +kernel) (pa_cons (pv 3) pa_nil)) (pe_callB cr_sortedS (by rfl) ms (by decide +kernel) (pa_cons (pv 2) pa_nil)) (nomark _))))) (pss_one (ps_ret pe_bl)) pss_nil)
      (pss_cons (ps_expr (pe_dclear (pv 3)))
      (pss_cons (ps_if (pt_cmpR (Ka.op_neDict hu65) (Ka.pe_callK0 GOw hr2 (by rfl) COw.g COw.kp kOw pass0 (pk_cons (pv 1) pk_nil)) (pv 4) (nomark _)) (pss_one (ps_ret pe_bl)) pss_nil)
      (pss_cons (ps_lock (ps_set (i := 5) scRight.nd rfl (.inr rfl) (pe_lc (own := [("deed", 14)]) (g := gName 14) rfl scRight.nd (pi_keys (pv 4)) (blkOk_by (own := [("deed", 14)]) (N := nRt) (sc := defScope sRight) (by decide +kernel)) (fun _ _ _ _ _ => pg_name (i := 14) scRight.nd rfl (Or.inl rfl))
          (fun _ _ _ _ _ => pts_one (pt_cmpR (eqD_at (K := K) rfl hr.units) (pe_dget (hu_of hr) (pv 4) (pv 14) (fun _ _ => rfl)) (pe_tup pa_nil) (nomark _))) (fun _ _ _ _ _ => pv 14))))
      (pss_cons (ps_set (i := 6) scRight.nd rfl (.inl rfl) (Ka.pe_callK0 GEx hr (by rfl) CEx.g CEx.kp kEx pass0 (pk_cons (pv 1) pk_nil)))
      (pss_cons (ps_if (PW.pt (pw_or (pt_not (pt_val (pe_callB call_isi (by rfl) mi (by decide +kernel) (pa_cons (pv 6) (pa_cons (pe_bltn (v := .ty "bool") (by rfl) mb (by decide +kernel) rfl) pa_nil)))))
          (pw_or1 (pt_cmpR op_ne (pv 6) (pe_cmpR op_eq (pe_callB call_len_seq (by rfl) mn PySem.boot_len (pa_cons (pv 5) pa_nil)) pe_int (nomark _)) (nomark _))))) (pss_one (ps_ret pe_bl)) pss_nil)
      (pss_cons (ps_set (i := 7) scRight.nd rfl (.inl rfl) (Ka.pe_callK0 GCp hr (by rfl) CCp.g CCp.kp kCp pass0 (pk_cons (pv 1) pk_nil)))
      (pss_cons (ps_if (pt_cmpR op_ne (pv 6) (pe_cmpR op_isN (pv 7) pe_non (nomark _)) (nomark _)) (pss_one (ps_ret pe_bl)) pss_nil)
      (pss_cons (ps_if (pt_cmpR op_notN (pv 7) pe_non (nomark _))
        (pss_cons (ps_setLc (i := 8) (own := [("name", 15)]) (g := gName 15) rfl scRight.nd rfl rfl (sw_true rfl rfl rfl rfl) (pi_list (pe_callB cr_sortedS (by rfl) ms (by decide +kernel) (pa_cons (pv 2) pa_nil))) (blkOk_by (own := [("name", 15)]) (N := nRt) (sc := defScope sRight) (by decide +kernel)) (fun _ _ _ _ _ => pg_name (i := 15) scRight.nd rfl (Or.inl rfl))
            (fun _ _ _ _ _ => pts_one (pt_cmpR op_ne (pv 15) (pe_ix (ixL_at (K := K) rfl) (pv 5) pe_int (fun _ _ => rfl)) (nomark _))) (fun _ _ _ _ _ => pv 15))
        (pss_one (ps_if (PW.pt (pw_or (pt_cmpR (op_neD hr.units) (pv 7) (pe_tup (pa_cons (pe_tup (pa_cons (pe_ix ix_list (pv 5) pe_int (fun _ _ => rfl)) pa_nil)) (pa_cons (pe_call GHo hr2 (by rfl) CHo.g CHo.kp CHo.b .nil pass0 (pa_cons (pv 1) (pa_cons (pe_dget (hu_of hr) (pv 1) (pe_ix ix_list (pv 5) pe_int (fun _ _ => rfl)) (fun _ _ => rfl)) (pa_cons (pv 8) pa_nil)))) pa_nil))) (nomark _))
            (pw_or1 (pt_not (pt_val (pe_call GCk hr (by rfl) CCk.g CCk.kp CCk.b .nil pass0 (pa_cons (pv 1) (pa_cons (pe_ix ix_tup (pv 7) pe_int (fun _ _ => rfl)) (pa_cons (pe_ix ix_tup (pv 7) pe_int (fun _ _ => rfl)) pa_nil))))))))) (pss_one (ps_ret pe_bl)) pss_nil)))
        pss_nil)
      (pss_cons (ps_for PassesOwn.never rfl (pi_range1 (by rfl) mr (pa_cons pe_int pa_nil)) (pg_name (i := 9) scRight.nd rfl (.inl rfl))
        (pss_cons (ps_asg (pe_call GPr hr (by rfl) CPr.g CPr.kp CPr.b .nil pass0 (pa_cons (pv 0) (pa_cons (pv 2) pa_nil))) (pg_unl rfl (pgs_cons (pg_name (i := 10) scRight.nd rfl (.inl rfl)) (pgs_cons (pg_name (i := 11) scRight.nd rfl (.inl rfl)) pgs_nil))))
        (pss_cons (ps_if (pt_cmpR (op_neD hr.units) (Ka.pe_callK0 GMd hr2 (by rfl) CMd.g CMd.kp kMd pass0 (pk_cons (pv 10) (pk_cons (pv 1) pk_nil))) (pe_call GLm hr1 (by rfl) CLm.g CLm.kp CLm.b .nil pass0 (pa_cons (pv 1) (pa_cons (pv 10) pa_nil))) (nomark _)) (pss_one (ps_ret pe_bl)) pss_nil)
        (pss_cons (ps_set (i := 12) scRight.nd rfl (.inl rfl) (pe_call GIn hr1 (by rfl) CIn.g CIn.kp CIn.b .nil pass0 (pa_cons (pe_call GLm hr1 (by rfl) CLm.g CLm.kp CLm.b .nil pass0 (pa_cons (pv 1) (pa_cons (pv 10) pa_nil))) (pa_cons (pe_call GLm hr1 (by rfl) CLm.g CLm.kp CLm.b .nil pass0 (pa_cons (pv 1) (pa_cons (pv 11) pa_nil))) pa_nil))))
        (pss_cons (ps_set (i := 13) scRight.nd rfl (.inl rfl) (pe_call GIn hr1 (by rfl) CIn.g CIn.kp CIn.b .nil pass0 (pa_cons (pv 10) (pa_cons (pv 11) pa_nil))))
        (pss_cons (ps_if (PW.pt (pw_or (PW.pt (pw_and (pt_val (pv 13)) (pw_and1 (pt_not (pt_val (pv 12)))))) (pw_or1 (PW.pt (pw_and (pt_val (pv 6)) (pw_and1 (pt_cmpR op_ne (pv 12) (pv 13) (nomark _)))))))) (pss_one (ps_ret pe_bl)) pss_nil)
        (pss_one (ps_if (pt_cmpR op_ne (Ka.pe_callK0 GCk hr (by rfl) CCk.g CCk.kp kCk pass0 (pk_cons (pv 11) (pk_cons (pv 10) (pk_cons (pv 1) pk_nil)))) (pe_and (pv 12) (pe_one (pe_not (pv 13)))) (nomark _)) (pss_one (ps_ret pe_bl)) pss_nil))))))))
      (pss_one (ps_ret pe_bl))))))))))))), ?_⟩
    have few := ft.few
    refine ⟨.ref d, rfl, d, M, rfl, hd, hM, ft, fun H1 p1 N1 s1 np1 ep1 sN1 srt1 perm1 lots1 len1 => ?_⟩
    refine ⟨.ref d, rfl, d, M, rfl, s1 _ _ hd, hM.mono s1, ft, fun H2 p2 N2 s2 np2 ep2 sN2 srt2 perm2 lots2 len2 => ?_⟩
    have s02 := s1.trans s2
    have ep12 := s2 _ _ ep1
    have eN : N1.map (·.1) = N2.map (·.1) := sorted_uniq srt1 srt2 (perm1.trans perm2.symm)
    have leN : (kvM N1).length = (kvM N2).length := by
      have := congrArg List.length eN
      rw [List.length_map, List.length_map] at this
      rw [kvM_len, kvM_len, this]
    have nd2 : (N2.map (·.1)).Nodup := perm2.nodup_iff.mpr ft.nd
    have len2' : N2.length ≤ 4 := by
      have := perm2.length_eq
      rw [List.length_map, List.length_map] at this
      omega
    have hp12 : p1 ≠ p2 := ne_of_none ep1 np2
    refine ⟨.ref p1, rfl, .ref p2, rfl, p1, p2, _, _, rfl, rfl, ep12, ep2, leN, same_dicts ft rnm eN perm2 (sN1.mono s2) sN2 lots1 lots2, false, rfl, iteF ?_⟩
    refine ⟨.ref p1, rfl, p1, _, rfl, .inl ep12, fun l1 nl1 => ?_⟩
    rw [kvM_list]
    have sl1 := same_new (o := .lst ((N1.map (·.1)).map V.str)) nl1
    have s03 := s02.trans sl1
    refine ⟨.ref a, rfl, a, M.map (·.1), rfl, sqL_new (s03 _ _ ha), by rw [List.length_map]; omega, fun zs l2 permz srtz nl2 => ?_⟩
    have sl2 := same_new (o := .lst (zs.map V.str)) nl2
    have ez : N1.map (·.1) = zs := sorted_uniq srt1 srtz (perm1.trans permz.symm)
    have el1 := sl2 l1 _ upd_same
    have nmz1 : ∀ z ∈ N1.map (·.1), isName z = true := fun z hz => nmz z (perm1.mem_iff.mp hz)
    refine ⟨_, _, .lst (sqL_new el1) (dpRs (N1.map (·.1))), .lst (sqL_new upd_same) (dpRs zs), shStrs nmz1, shStrs (by rw [← ez]; exact nmz1), ?_⟩
    rw [PyData.eqv, eqvAll_map eq_str, decide_eq_true ez]
    refine ⟨_, rfl, iteF ?_⟩
    have s04 := s03.trans sl2
    have ep14 := (sl1.trans sl2) _ _ ep12
    have ep24 := (sl1.trans sl2) _ _ ep2
    have sN24 := sN2.mono (sl1.trans sl2)
    generalize upd (upd H2 l1 (.lst ((N1.map (·.1)).map V.str))) l2 (.lst (zs.map V.str)) = H4 at s04 ep14 ep24 sN24
    refine ⟨.ref p1, rfl, .inr (.inr (.inl ⟨rfl, .inl ⟨_, ep14⟩⟩)), p1, _, rfl, rfl, ep14, ?_⟩
    have s05 : Same H (upd H4 p1 (.dK [])) := fun c u e => by
      rw [upd_ne (ne_of_none e np1)]
      exact s04 c u e
    have ep25 : upd H4 p1 (.dK []) p2 = some (.dK (kvM N2)) := by
      rw [upd_ne (Ne.symm hp12)]
      exact ep24
    have sN25 : Stand (upd H4 p1 (.dK [])) N2 := fun t ht => by
      have := sN24 t ht
      rw [upd_ne (fun e => by rw [e, ep14] at this; cases this)]
      exact this
    generalize upd H4 p1 (.dK []) = H5 at s05 ep25 sN25
    refine ⟨.ref d, rfl, d, M, rfl, s05 _ _ hd, hM.mono s05, ft, fun H6 p3 N3 s6 np3 ep3 sN3 srt3 perm3 lots3 len3 => ?_⟩
    have s06 := s05.trans s6
    have ep26 := s6 _ _ ep25
    have sN26 := sN25.mono s6
    have eN3 : N3.map (·.1) = N2.map (·.1) := sorted_uniq srt3 srt2 (perm3.trans perm2.symm)
    have leN3 : (kvM N3).length = (kvM N2).length := by
      have := congrArg List.length eN3
      rw [List.length_map, List.length_map] at this
      rw [kvM_len, kvM_len, this]
    refine ⟨.ref p2, rfl, p3, p2, _, _, rfl, rfl, ep3, ep26, leN3, same_dicts ft rnm eN3 perm2 sN3 sN26 lots3 lots2, false, rfl, iteF ?_⟩
    refine ⟨p2, _, ep26, True.intro, fun od => ?_⟩
    generalize hL7 : upd H6 p2 (.frz od (.dK (kvM N2))) = L
    have kL : But p2 H6 L := by rw [← hL7]; exact But.upd
    have fL : L p2 = some (.frz od (.dK (kvM N2))) := by rw [← hL7]; exact upd_same
    have sNL : Stand L N2 := fun t ht => kL _ _ (fun e => by
      have := sN26 t ht
      rw [e, ep26] at this
      cases this) (sN26 t ht)
    refine ⟨.ref p2, rfl, p2, od, rfl, .inl ⟨kvM N2, fL, fun D nD => ?_⟩⟩
    refine lc_it (walk_keys (d := p2) (o := od) (kvs := kvM N2)) (fun i G => Same L G ∧ G D = some (.lst ((((N2.take i).filter fun t => decide (t.2.2 = [])).map (·.1)).map V.str))) ⟨same_new nD, upd_same⟩ (fun i G _ h => h.1 _ _ fL) (fun i y G G' hi h yy => ?_) (fun G h => ?_)
    · obtain ⟨rfl, ky, va, hkv, rfl⟩ := yy
      obtain ⟨sG, eD⟩ := h
      obtain ⟨t, ht, ekv⟩ := get_map hkv
      cases ekv
      have htN := List.mem_of_getElem? ht
      refine ⟨rfl, .ref p2, rfl, .str t.1, rfl, p2, _, rfl, get_M (.inr ⟨od, sG _ _ fL⟩) nd2 htN, Nat.zero_le _, fun l nl => ?_⟩
      have sl := same_new (o := .tup []) nl
      have rn := lot_names ft rnm (perm2.mem_iff.mp (List.mem_map.mpr ⟨t, htN, rfl⟩)) (lots2 t htN)
      refine ⟨Ka.rowD t.2.2, Ka.rowD [], dpR (sl _ _ (sG _ _ (sNL t htN))), dpR (r := []) upd_same, shR rn, shR (fun z hz => nomatch hz), ?_⟩
      rw [eqR]
      have e2 := sl _ _ eD
      refine ⟨_, rfl, ite2 (fun c => ?_) (fun c => ?_)⟩
      · refine ⟨.str t.1, rfl, _, e2, ?_, fun c' u e => ?_, ?_⟩
        · rw [List.length_map, List.length_map]
          have := List.length_filter_le (fun t : Str × Addr × List Str => decide (t.2.2 = [])) (N2.take i)
          rw [List.length_take] at this
          exact small (by omega)
        · rw [upd_ne (ne_of_none e nD)]
          exact sl _ _ (sG c' u e)
        · rw [upd_same, take_of_get ht, filt_yes (p := fun t : Str × Addr × List Str => decide (t.2.2 = [])) (x := t) c, List.map_append, List.map_append]
          rfl
      · refine ⟨sG.trans sl, ?_⟩
        rw [take_of_get ht, filt_no (p := fun t : Str × Addr × List Str => decide (t.2.2 = [])) (x := t) (Bool.eq_false_iff.mpr c)]
        exact e2
    obtain ⟨sG, eD⟩ := h
    rw [kvM_len, List.take_length] at eD
    refine ⟨sG _ _ fL, ?_⟩
    obtain ⟨bs, hbs⟩ : ∃ bs : List Str, bs = (N2.filter fun t => decide (t.2.2 = [])).map (·.1) := ⟨_, rfl⟩
    rw [← hbs] at eD
    have hDp : D ≠ p2 := fun e => by rw [e, fL] at nD; cases nD
    have sU : Same H6 (upd G p2 (.dK (kvM N2))) := unlock ep26 (kL.trans (But.of sG))
    have eDU : upd G p2 (.dK (kvM N2)) D = some (.lst (bs.map V.str)) := by rw [upd_ne hDp]; exact eD
    generalize upd G p2 (.dK (kvM N2)) = U at sU eDU
    have s07 := s06.trans sU
    have bareIff : ∀ t ∈ N2, t.2.2 = [] ↔ Bare (pm M) t.1 := fun t ht => lot_bare (lots2 t ht)
    have bs0 : bs = [] ↔ Kf.Exact (pm M) := by
      rw [exact_iff, pm_names, hbs, List.map_eq_nil_iff, List.filter_eq_nil_iff]
      constructor
      · intro h y hy hb
        obtain ⟨t, ht, rfl⟩ := name_M (perm2.mem_iff.mpr hy)
        exact h t ht (decide_eq_true ((bareIff t ht).mpr hb))
      · intro h t ht c
        exact h t.1 (perm2.mem_iff.mp (List.mem_map.mpr ⟨t, ht, rfl⟩)) ((bareIff t ht).mp (of_decide_eq_true c))
    refine ⟨.ref d, rfl, d, M, rfl, s07 _ _ hd, hM.mono s07, ft, fun H8 b s8 hb => ?_⟩
    have s08 := s07.trans s8
    have eD8 := s8 _ _ eDU
    refine ⟨.bl b, rfl, .bl b, .ty "bool", .type "bool", .type "bool", true, rfl, .ty "bool", .base (.bl b), kit_ty (by decide +kernel), true, rfl, iteF ?_⟩
    have ebl : V.bl b = V.bl (decide (V.int ((bs.map V.str).length : Nat) = V.int 0)) := by
      congr 1
      rw [Bool.eq_iff_iff, hb, ← bs0, decide_eq_true_iff, List.length_map]
      constructor
      · intro h
        rw [h]
        rfl
      · intro h
        have := V.int.inj h
        exact List.eq_nil_of_length_eq_zero (by omega)
    refine ⟨.bl b, rfl, .ref D, rfl, D, _, rfl, .inl (sqL_new eD8), rfl, rfl, _, rfl, iteNS ebl ?_⟩
    generalize hT : tSeq (tFor (iRng1 _) (gName 9) _) (tRet _) = T
    have k08 : But x H H8 := But.of s08
    have b8 : Box H8 x := hx.mono s08
    have fin : ∀ (Dd : Ends) (v7 v8 : Option V) (Hf : Hp), Dd.rt = Q → Same H8 Hf → T Dd [some (.ref x), some (.ref d), some (.ref a), some (.ref p1), some (.ref p2), some (.ref D), some (.bl b), v7, v8, none, none, none, none, none, none, none] Hf := fun Dd v7 v8 Hf hDd sf => by
      rw [← hT]
      refine ⟨8, rfl, by decide, by decide, ?_⟩
      refine for_range (lo := 0) (n := 8) (fun i σ H' => ∃ (d9 d10 d11 d12 d13 : Option V), σ = [some (.ref x), some (.ref d), some (.ref a), some (.ref p1), some (.ref p2), some (.ref D), some (.bl b), v7, v8, d9, d10, d11, d12, d13, none, none] ∧ But x H H' ∧ Box H' x)
        ⟨none, none, none, none, none, rfl, k08.trans (But.of sf), b8.mono sf⟩ ?_ ?_
      · rintro i σ H' hi ⟨d9, d10, d11, d12, d13, rfl, k, bx⟩
        have hdk : ∀ {Z : Hp}, But x H Z → Z d = some (.dK (kvM M)) := fun kz => kz _ _ hdx hd
        have hMk : ∀ {Z : Hp}, But x H Z → Stand Z M := fun kz t ht => kz _ _ (fun e => by
          have := hM t ht
          obtain ⟨q0, q1, q2, q3⟩ := hx
          rw [e, q3] at this
          cases this) (hM t ht)
        have lns : (M.map (·.1)).length = M.length := List.length_map _
        refine ⟨.ref x, rfl, .ref a, rfl, x, a, M.map (·.1), rfl, bx, hax, k _ _ hax ha, by rw [lns]; exact hpos, by rw [lns]; omega, fun p b2 c us zs H2 k2 bx2 ep eb ec hus hzs lus lzs => ?_⟩
        have kk2 := k.trans k2
        refine ⟨p, [.ref b2, .ref c], rfl, sqL_new ep, rfl, _, _, rfl, _, _, rfl, rfl, ?_⟩
        have nmU := mad_names ft rnm hus
        have toS : ∀ {Z : Hp}, Same H2 Z → But x H Z := fun sz => kk2.trans (But.of sz)
        refine ⟨.ref b2, rfl, .ref d, rfl, d, b2, M, us, rfl, .inl (hdk kk2), hMk kk2, ft, sqT_new eb, hus, by omega, fun H3 p3 s3 np3 ep3 => ?_⟩
        refine ⟨.ref d, rfl, .ref b2, rfl, d, b2, M, us, rfl, .inl (hdk (toS s3)), hMk (toS s3), ft, sqT_new (s3 _ _ eb), hus, by omega, fun H4 p4 s4 hp4 => ?_⟩
        have s24 := s3.trans s4
        refine ⟨_, _, dpR (s4 _ _ ep3), .tup hp4 (dpRs _), shR nmU, shR nmU, ?_⟩
        rw [show PyData.eqv (Ka.rowD (Kf.mad (pm M) us)) (.tuple ((Kf.mad (pm M) us).map .str)) = PyData.eqv (Ka.rowD (Kf.mad (pm M) us)) (Ka.rowD (Kf.mad (pm M) us)) from rfl, eqR, decide_eq_true rfl]
        refine ⟨_, rfl, iteF ?_⟩
        refine ⟨.ref d, rfl, .ref b2, rfl, d, b2, M, us, rfl, .inl (hdk (toS s24)), hMk (toS s24), ft, sqT_new (s24 _ _ eb), hus, by omega, fun H5 p5 s5 hp5 => ?_⟩
        have s25 := s24.trans s5
        refine ⟨.ref d, rfl, .ref c, rfl, d, c, M, zs, rfl, .inl (hdk (toS s25)), hMk (toS s25), ft, sqT_new (s25 _ _ ec), hzs, by omega, fun H6 p6 s6 hp6 => ?_⟩
        have s26 := s25.trans s6
        refine ⟨p5, p6, _, _, rfl, Same.sqT s6 hp5, hp6, fun H7 s7 => ?_⟩
        have s27 := s26.trans s7
        refine ⟨.ref b2, rfl, .ref c, rfl, b2, c, us, zs, rfl, sqT_new (s27 _ _ eb), sqT_new (s27 _ _ ec), fun H8' s8' => ?_⟩
        have s28 := s27.trans s8'
        have mono : Kf.lies us zs = true → Kf.lies (Kf.mad (pm M) us) (Kf.mad (pm M) zs) = true := fun h => Kf.lies_iff.mpr (Kf.mad_mono (Kf.lies_iff.mp h))
        have back : b = true → Kf.lies (Kf.mad (pm M) us) (Kf.mad (pm M) zs) = true → Kf.lies us zs = true := fun hbt h => Kf.lies_iff.mpr (Kf.exact_back (hb.mp hbt) (fun y hy => by rw [pm_names]; exact hus y hy) (fun y hy => by rw [pm_names]; exact hzs y hy) (Kf.lies_iff.mp h))
        have next : ∀ H9, Same H8' H9 → ∃ (d9' d10' d11' d12' d13' : Option V), [some (.ref x), some (.ref d), some (.ref a), some (.ref p1), some (.ref p2), some (.ref D), some (.bl b), v7, v8, some (.int (0 + (i : Int))), some (.ref b2), some (.ref c), some (.bl (Kf.lies (Kf.mad (pm M) us) (Kf.mad (pm M) zs))), some (.bl (Kf.lies us zs)), none, none] = [some (.ref x), some (.ref d), some (.ref a), some (.ref p1), some (.ref p2), some (.ref D), some (.bl b), v7, v8, d9', d10', d11', d12', d13', none, none] ∧ But x H H9 ∧ Box H9 x := fun H9 s9 =>
          ⟨_, _, _, _, _, rfl, toS (s28.trans s9), bx2.mono (s28.trans s9)⟩
        obtain ⟨hl, ehl⟩ : ∃ hl, hl = Kf.lies (Kf.mad (pm M) us) (Kf.mad (pm M) zs) := ⟨_, rfl⟩
        obtain ⟨il, eil⟩ : ∃ il, il = Kf.lies us zs := ⟨_, rfl⟩
        rw [← ehl, ← eil] at mono back next
        rw [← ehl, ← eil]
        refine ⟨.bl il, rfl, il, rfl, ?_⟩
        generalize hY : tIfS (tTest (tOp rNe (Ka.tCallK0 _ _ _ _) _)) _ _ _ = Y
        have fy : Y [some (.ref x), some (.ref d), some (.ref a), some (.ref p1), some (.ref p2), some (.ref D), some (.bl b), v7, v8, some (.int (0 + (i : Int))), some (.ref b2), some (.ref c), some (.bl hl), some (.bl il), none, none] H8' := by
          rw [← hY]
          refine ⟨.ref c, rfl, .ref b2, rfl, .ref d, rfl, d, b2, c, M, us, zs, rfl, .inl (hdk (toS s28)), hMk (toS s28), ft, sqT_new (s28 _ _ eb), sqT_new (s28 _ _ ec), hus, hzs, by omega, by omega, fun H9 s9 => ?_⟩
          rw [← ehl, ← eil]
          have nx := next H9 s9
          refine ⟨.bl hl, rfl, hl, rfl, ?_⟩
          clear next hY mono back ehl eil
          cases hl with
          | false => exact iteF ⟨rfl, _, rfl, iteNS rfl nx⟩
          | true => exact iteT ⟨.bl il, rfl, il, rfl, rfl, _, rfl, iteNS rfl nx⟩
        have three : (il = true ∧ hl = true) ∨ (il = false ∧ hl = false) ∨ (il = false ∧ hl = true ∧ b ≠ true) := by
          cases hil : il with
          | true => exact .inl ⟨rfl, mono hil⟩
          | false =>
            cases hhl : hl with
            | false => exact .inr (.inl ⟨rfl, rfl⟩)
            | true => exact .inr (.inr ⟨rfl, rfl, fun hbt => by
                have := back hbt hhl
                rw [hil] at this
                cases this⟩)
        clear next hY mono back ehl eil
        rcases three with ⟨rfl, rfl⟩ | ⟨rfl, rfl⟩ | ⟨rfl, rfl, hbf⟩
        · refine iteT ⟨.bl true, rfl, true, rfl, iteF ?_⟩
          exact ⟨.bl b, rfl, b, rfl, ite2 (fun c => ⟨.bl true, rfl, .bl true, rfl, rfl, _, rfl, iteNS rfl fy⟩) fun c => iteF fy⟩
        · refine iteF (iteF ?_)
          exact ⟨.bl b, rfl, b, rfl, ite2 (fun c => ⟨.bl false, rfl, .bl false, rfl, rfl, _, rfl, iteNS rfl fy⟩) fun c => iteF fy⟩
        · refine iteF (iteF ?_)
          exact ⟨.bl b, rfl, b, rfl, ite2 (fun c => absurd c hbf) fun c => iteF fy⟩
      · rintro σ H' ⟨d9, d10, d11, d12, d13, rfl, k, bx⟩
        show Dd.rt (.bl true) H'
        rw [hDd]
        exact q H' k bx
    have srt2' := srt2
    obtain ⟨ys, hys⟩ : ∃ ys : List Str, ys = N2.map (·.1) := ⟨_, rfl⟩
    have permY : ys.Perm (M.map (·.1)) := by rw [hys]; exact perm2
    have srtY : sortedS ys = true := by rw [hys]; exact srt2
    refine ⟨.ref d, rfl, d, M, ys, rfl, s08 _ _ hd, hM.mono s08, ft, srtY, permY, fun hex H9 s9 => ?_, fun H9 p a9 b9 bare n s9 np ep ea hfb hn hleast eb9 => ?_⟩
    · have hbt := hb.mpr hex
      refine ⟨.bl b, rfl, .non, rfl, rfl, rfl, _, rfl, iteNS (by rw [hbt]; rfl) ?_⟩
      refine ⟨.non, rfl, rfl, _, rfl, iteNS rfl ?_⟩
      exact fin _ _ _ _ rfl s9
    · have hbf : b = false := by
        rw [Bool.eq_false_iff]
        intro hbt
        obtain ⟨i, hi, hbb, _⟩ := hfb
        exact exact_iff.mp (hb.mp hbt) bare (by rw [pm_names]; exact permY.mem_iff.mp (List.mem_of_getElem? hi)) hbb
      have enon : decide (V.ref p = V.non) = false := decide_eq_false fun e => nomatch e
      refine ⟨.bl b, rfl, .ref p, rfl, rfl, rfl, _, rfl, iteNS (by rw [hbf, enon]) ?_⟩
      refine ⟨.ref p, rfl, rfl, _, rfl, ite2 (fun _ => ?_) (fun c => absurd (by rw [enon]; rfl) c)⟩
      have s09 := s08.trans s9
      have hbs0 : bs[0]? = some bare := by
        obtain ⟨i, hi, hbb, hbefore⟩ := hfb
        rw [hys, List.getElem?_map] at hi
        cases hN : N2[i]? with
        | none => rw [hN] at hi; cases hi
        | some t =>
          rw [hN] at hi
          have et : t.1 = bare := Option.some.inj hi
          have htN := List.mem_of_getElem? hN
          rw [hbs, List.getElem?_map, ← List.head?_eq_getElem?, List.head?_filter]
          have := find_at (p := fun t : Str × Addr × List Str => decide (t.2.2 = [])) hN (decide_eq_true ((bareIff t htN).mpr (by rw [et]; exact hbb))) fun j y hj hy => by
            refine decide_eq_false fun e => ?_
            refine hbefore j y.1 hj (by rw [hys, List.getElem?_map, hy]; rfl) ((bareIff y (List.mem_of_getElem? hy)).mp e)
          rw [this]
          exact congrArg some et
      have hbareY : bare ∈ ys := by
        obtain ⟨i, hi, _⟩ := hfb
        exact List.mem_of_getElem? hi
      obtain ⟨tb, htb, etb⟩ := name_M (permY.mem_iff.mp hbareY)
      have lookb : Kf.look (pm M) bare = tb.2.2 := by rw [← etb]; exact look_M ft.nd htb
      have at0 : (bs.map V.str)[0]? = some (.str bare) := by rw [List.getElem?_map, hbs0]; rfl
      have lnM : (M.map (·.1)).length = M.length := List.length_map _
      refine ⟨.ref a, rfl, a, M.map (·.1), rfl, sqL_new (s09 _ _ ha), by omega, fun zs2 l3 permz2 srtz2 nl3 => ?_⟩
      have ez2 : zs2 = ys := sorted_uniq srtz2 srtY (permz2.trans permY.symm)
      subst ez2
      have s10 : Same H9 (upd H9 l3 (.lst (zs2.map V.str))) := same_new nl3
      have el3 : upd H9 l3 (.lst (zs2.map V.str)) l3 = some (.lst (zs2.map V.str)) := upd_same
      generalize upd H9 l3 (.lst (zs2.map V.str)) = H10 at s10 el3
      have eD10 := s10 _ _ (s9 _ _ eD8)
      have lny : zs2.length ≤ 4 := by rw [permY.length_eq, lnM]; exact few
      refine ⟨l3, rfl, ⟨_, sqL_new el3⟩, fun D3 nD3 => ?_⟩
      refine lc_it (walk_list (K := K) (a := l3) (xs := zs2.map V.str)) (fun i G => Same H10 G ∧ G D3 = some (.lst (((zs2.take i).filter fun y => decide (y ≠ bare)).map V.str))) ⟨same_new nD3, upd_same⟩ (fun i G _ h => h.1.seq (sqL_new el3)) (fun i y G G' hi h yy => ?_) (fun G h => ?_)
      · obtain ⟨rfl, hy0⟩ := yy
        obtain ⟨sG3, eD3⟩ := h
        obtain ⟨y, hy, rfl⟩ := get_map hy0
        refine ⟨rfl, .str y, rfl, .ref D, rfl, D, _, 0, .str bare, rfl, rfl, sqL_new (sG3 _ _ eD10), atI_nat (j := 0) at0, rfl, _, rfl, ite2 (fun c => ?_) (fun c => ?_)⟩
        · have c : y ≠ bare := by
            intro e
            rw [e] at c
            simp at c
          refine ⟨.str y, rfl, _, eD3, ?_, fun c' u e => ?_, ?_⟩
          · rw [List.length_map]
            have := List.length_filter_le (fun y => decide (y ≠ bare)) (zs2.take i)
            rw [List.length_take] at this
            exact small (by omega)
          · rw [upd_ne (ne_of_none e nD3)]
            exact sG3 c' u e
          · rw [upd_same, take_of_get hy, filt_yes (p := fun y => decide (y ≠ bare)) (x := y) (decide_eq_true c), List.map_append]
            rfl
        · have c : decide (y ≠ bare) = false := by
            apply decide_eq_false
            intro e
            apply c
            simp [e]
          refine ⟨sG3, ?_⟩
          rw [take_of_get hy, filt_no (p := fun y => decide (y ≠ bare)) (x := y) c]
          exact eD3
      · obtain ⟨sG3, eD3⟩ := h
        rw [List.length_map, List.take_length] at eD3
        have s9G := s10.trans sG3
        have sHG := s09.trans s9G
        have inY : ∀ y ∈ zs2.filter (fun y => decide (y ≠ bare)), y ∈ M.map (·.1) ∧ y ≠ bare := fun y hy => by
          obtain ⟨h1, h2⟩ := List.mem_filter.mp hy
          exact ⟨permY.mem_iff.mp h1, of_decide_eq_true h2⟩
        have len3 : (zs2.filter fun y => decide (y ≠ bare)).length ≤ 3 := by
          have h1 := List.length_filter_lt_length_iff_exists (p := fun y => decide (y ≠ bare)) (l := zs2) |>.mpr ⟨bare, hbareY, by simp⟩
          omega
        have gre := Kf.gre_len (pm M) (zs2.filter fun y => decide (y ≠ bare)) n (Kf.look (pm M) bare) hleast.1
        obtain ⟨gz, hgz⟩ : ∃ gz, gz = Kf.gre (pm M) (zs2.filter fun y => decide (y ≠ bare)) n (Kf.look (pm M) bare) := ⟨_, rfl⟩
        rw [← hgz] at eb9 gre
        have gzin : ∀ y ∈ gz, y ∈ M.map (·.1) := fun y hy => (inY y (gre.2.1 y hy)).1
        have gzlen : gz.length ≤ 5 := by rw [gre.1]; exact hn
        have barein : bare ∈ M.map (·.1) := permY.mem_iff.mp hbareY
        have epG := s9G _ _ ep
        have eaG := s9G _ _ ea
        have ebG := s9G _ _ eb9
        have eDG := sG3 _ _ eD10
        refine ⟨.ref p, rfl, .ref D, rfl, D, _, 0, .str bare, rfl, rfl, sqL_new eDG, atI_nat (j := 0) at0, (by show 1 ≤ sizeLine; exact smallE (by decide)), fun t1 nt1 => ?_⟩
        have sK : Same G (upd G t1 (.tup [.str bare])) := same_new nt1
        have et1 : upd G t1 (.tup [.str bare]) t1 = some (.tup ([bare].map V.str)) := upd_same
        generalize upd G t1 (.tup [.str bare]) = G1 at sK et1
        have sHG1 := sHG.trans sK
        have gd : DGet G1 d (.str bare) (some (.ref tb.2.1)) := by
          have := get_M (.inl (sHG1 _ _ hd)) ft.nd htb
          rwa [etb] at this
        refine ⟨.ref d, rfl, .ref d, rfl, .ref D, rfl, D, _, 0, .str bare, rfl, rfl, sqL_new (sK _ _ eDG), atI_nat (j := 0) at0, d, _, rfl, gd, .ref D3, rfl, d, tb.2.1, D3, M, tb.2.2, zs2.filter fun y => decide (y ≠ bare), n, rfl, .inl (sHG1 _ _ hd), hM.mono sHG1, ft, sqT_new (sHG1 _ _ (hM tb htb)), sK _ _ eD3, fun y hy => (inY y hy).1, len3, by rw [← lookb]; exact hleast, hn, fun G2 p9 sG2 e9 => ?_⟩
        rw [← lookb, ← hgz] at e9
        refine ⟨(by show 2 ≤ sizeLine; exact smallE (by decide)), fun t2 nt2 => ?_⟩
        have sK2 : Same G2 (upd G2 t2 (.tup [.ref t1, .ref p9])) := same_new nt2
        have et2 : upd G2 t2 (.tup [.ref t1, .ref p9]) t2 = some (.tup [.ref t1, .ref p9]) := upd_same
        generalize upd G2 t2 (.tup [.ref t1, .ref p9]) = G3 at sK2 et2
        have sG13 := sG2.trans sK2
        have sGG3 := sK.trans sG13
        have nmL : ∀ r ∈ [[bare], gz], ∀ z ∈ r, isName z = true := fun r hr2 z hz => by
          rcases List.mem_cons.mp hr2 with e | e
          · rw [e] at hz
            rw [List.mem_singleton.mp hz]
            exact nmz bare barein
          · rw [List.mem_singleton.mp e] at hz
            exact nmz z (gzin z hz)
        refine ⟨.tuple ([[bare], gz].map Ka.rowD), .tuple ([[bare], gz].map Ka.rowD), .tup (sqT_new (sGG3 _ _ epG)) (.cons (dpR (r := [bare]) (sGG3 _ _ eaG)) (.cons (dpR (sGG3 _ _ ebG)) .nil)), .tup (sqT_new et2) (.cons (dpR (r := [bare]) (sG13 _ _ et1)) (.cons (dpR (sK2 _ _ e9)) .nil)), (shRows nmL).2, (shRows nmL).2, ?_⟩
        rw [PyData.eqv, eqRows, decide_eq_true rfl]
        refine ⟨_, rfl, iteF ?_⟩
        have sHG3 := sHG.trans sGG3
        have epG3 := sGG3 _ _ epG
        refine ⟨.ref d, rfl, .ref p, rfl, p, _, 0, .ref a9, rfl, rfl, sqT_new epG3, atI_nat (j := 0) rfl, .ref p, rfl, p, _, 1, .ref b9, rfl, rfl, sqT_new epG3, atI_nat (j := 1) rfl, d, a9, b9, M, [bare], gz, rfl, .inl (sHG3 _ _ hd), hM.mono sHG3, ft, sqT_new (sGG3 _ _ eaG), sqT_new (sGG3 _ _ ebG), (fun z hz => by rw [List.mem_singleton.mp hz]; exact barein), gzin, (by show 1 ≤ 1000; decide), by omega, fun G4 s4 => ?_⟩
        have yes : (Kf.lies (Kf.mad (pm M) [bare]) (Kf.mad (pm M) gz) && !Kf.lies [bare] gz) = true := by
          rw [Bool.and_eq_true]
          constructor
          · have h1 := gre.2.2
            unfold Kf.holds at h1
            rw [Kf.mad_cons, show Kf.mad (pm M) [] = [] from rfl, List.append_nil]
            exact h1
          · rw [Bool.not_eq_true', Bool.eq_false_iff]
            intro h
            have := (Kf.lies_iff.mp h).subset List.mem_cons_self
            exact (inY bare (gre.2.1 bare this)).2 rfl
        rw [yes]
        refine ⟨true, rfl, iteF ?_⟩
        exact fin _ _ _ _ rfl ((s9.trans s9G).trans (sGG3.trans s4))
end
end Kb
namespace Kb
open PySem PySem.Spec PyProof.Rows L2
section
variable {P : Program} {w : World} {K : PySem.W.Frag} {mg : Str → Option Value} {base : Heap}
theorem scBox : FnScope ["script", "k", "cell", "great"] ["script", "k"] (defScope sBox) := ⟨rfl, rfl, rfl, by decide +kernel, rfl, by decide +kernel, by decide +kernel⟩
def spBox (K : PySem.W.Frag) : Sp := fun vs H Q _ => ∃ (a : Addr) (k : Nat) (ns : List Int), vs = [.ref a, .int (k : Nat)] ∧ SqL K H a (intV ns) ∧ k ≤ 3 ∧ ∀ H' p, Same H H' → H p = none → Box H' p → Q (.ref p) H'
theorem ok_box {f : Addr} {fd : FuncData} (F : Fun K "_law_box" "_law_box" sBox f fd) (mi : mg "int" = none) (ml : mg "len" = none) (ma : mg "abs" = none) : FnOk P w K mg base CX0 1 f fd ["script", "k"] (spBox K) := by
  refine F.ok scBox (fun vs H Q E h => ?_) (fun cdv A outer s H vs Q E hr h => ?_)
  · obtain ⟨a, k, ns, rfl, _⟩ := h
    rfl
  · obtain ⟨a, k, ns, rfl, hA, hk, q⟩ := h
    refine ⟨_, pss_cons (ps_set (i := 2) scBox.nd rfl (.inl rfl) (pe_op op_add (pe_op op_mul pe_int (pv 1)) pe_int))
      (pss_cons (ps_if (pt_cmpR op_lt (pv 1) (pe_callB call_len_seq (by rfl) ml PySem.boot_len (pa_cons (pv 0) pa_nil)) (nomark _))
        (pss_one (ps_set (i := 2) scBox.nd rfl (.inl rfl) (pe_callB call_abs (by rfl) ma (by decide +kernel) (pa_cons (pe_ix ix_list (pv 0) (pv 1) (fun _ _ => rfl)) pa_nil))))
        (pss_one (ps_if (pt_cmpR op_gt (pe_callB call_len_seq (by rfl) ml PySem.boot_len (pa_cons (pv 0) pa_nil)) pe_int (nomark _))
          (pss_one (ps_set (i := 2) scBox.nd rfl (.inl rfl) (pe_op op_add (pv 2) (pe_op op_mul (pe_op op_mod (pe_callTy call_int1 (by rfl) mi (by decide +kernel) (pa_cons (pe_callB call_abs (by rfl) ma (by decide +kernel) (pa_cons
              (pe_ix ix_list (pv 0) (pe_op op_mod (pe_callTy call_int1 (by rfl) mi (by decide +kernel) (pa_cons (pv 1) pa_nil)) (pe_callB call_len_seq (by rfl) ml PySem.boot_len (pa_cons (pv 0) pa_nil))) (fun _ _ => rfl)) pa_nil)) pa_nil)) pe_int) pe_int)))) pss_nil)))
      (pss_cons (ps_set (i := 3) scBox.nd rfl (.inl rfl) (pe_callTy call_int1 (by rfl) mi (by decide +kernel) (pa_cons (pe_cmpR op_ge (pv 2) (pe_op op_pow pe_int pe_int) (nomark _)) pa_nil)))
      (pss_one (ps_ret (pe_lst (pa_cons (pe_ix ix_list (pe_lst (pa_cons pe_int (pa_cons (pv 2) pa_nil))) (pv 3) (fun _ _ => rfl))
        (pa_cons (pe_op op_add (pe_op op_mod (pe_callTy call_int1 (by rfl) mi (by decide +kernel) (pa_cons (pe_op op_add (pe_op op_add (pe_op op_mul (pe_op op_mod (pe_callTy call_int1 (by rfl) mi (by decide +kernel) (pa_cons (pv 2) pa_nil)) pe_int) pe_int) (pe_op op_mul pe_int (pv 1))) pe_int) pa_nil)) pe_int) pe_int) (pa_cons pe_int pa_nil)))))))), ?_⟩
    have s1000 : ∀ n, n ≤ 1000000 → n ≤ sizeLine := fun n h => smallE h
    refine ⟨.int (k : Nat), rfl, 8009, (k : Nat), rfl, rfl, .inl (by decide), _, 50021, rfl, rfl, ?_⟩
    refine ⟨.int (k : Nat), rfl, .ref a, rfl, a, _, rfl, .inl hA, _, _, rfl, rfl, _, rfl, ?_⟩
    generalize hX : tSeq (tAsg _ (gName 3)) _ _ = X
    have fin : ∀ c : Int, X [some (.ref a), some (.int (k : Nat)), some (.int c), none] H := fun c => by
      rw [← hX]
      refine ⟨.int c, rfl, 10, 18, rfl, rfl, ⟨by decide, by decide, by decide⟩, _, _, rfl, rfl, .inr ⟨_, rfl, ?_⟩⟩
      refine ⟨.int c, rfl, s1000 2 (by decide), fun l nl => ?_⟩
      have s1 := same_new (o := .lst [.int 0, .int c]) nl
      have hat : ∃ e : Int, atI [V.int 0, V.int c] (if decide ((10 : Int) ^ (18 : Int).toNat ≤ c) = true then 1 else 0) = some (.int e) := by
        by_cases h : decide ((10 : Int) ^ (18 : Int).toNat ≤ c) = true
        · rw [if_pos h]
          exact ⟨c, rfl⟩
        · rw [if_neg h]
          exact ⟨0, rfl⟩
      obtain ⟨e, he⟩ := hat
      refine ⟨_, rfl, l, _, _, .int e, rfl, rfl, sqL_new upd_same, he, ?_⟩
      refine ⟨.int c, rfl, .inl ⟨c, rfl, c, 2147483629, rfl, rfl, (by show (0 : Int) < 2147483629; decide), _, 48271, rfl, rfl, .inr (by decide), .int (k : Nat), rfl, 30013, _, rfl, rfl, .inl (by decide), _, _, rfl, rfl, _, 991, rfl, rfl, .inl ⟨_, rfl, _, 2147483629, rfl, rfl, (by show (0 : Int) < 2147483629; decide), _, 1, rfl, rfl, ?_⟩⟩⟩
      refine ⟨s1000 3 (by decide), fun l2 nl2 => ?_⟩
      exact q _ l2 (s1.trans (same_new nl2)) (s1.free nl2) ⟨_, _, _, upd_same⟩
    refine ite2 (fun c => ?_) (fun c => ?_)
    · have c := of_decide_eq_true c
      rw [intV_len] at c
      have hg : ns[k]? = some (ns[k]'(by omega)) := List.getElem?_eq_getElem (by omega)
      exact ⟨.ref a, rfl, .int (k : Nat), rfl, a, _, _, _, rfl, rfl, hA, atI_nat (intV_get hg), _, rfl, fin _⟩
    · refine ⟨.ref a, rfl, a, _, rfl, .inl hA, _, 0, rfl, rfl, _, rfl, ite2 (fun c2 => ?_) (fun c2 => ?_)⟩
      · have c2 := of_decide_eq_true c2
        rw [intV_len] at c2
        obtain ⟨r, hr1, hr2⟩ := mod_nat (k : Int) (n := ns.length) (by omega)
        have hg : ns[r]? = some (ns[r]'(by omega)) := List.getElem?_eq_getElem (by omega)
        refine ⟨_, rfl, .ref a, rfl, .int (k : Nat), rfl, .inl ⟨_, rfl, .ref a, rfl, a, _, rfl, .inl hA, _, _, rfl, rfl, ?_, ?_⟩⟩
        · show (0 : Int) < (((intV ns).length : Nat) : Int)
          rw [intV_len]
          exact c2
        · refine ⟨a, _, _, _, rfl, rfl, hA, at_of (by rw [intV_len]; exact hr2) (intV_get hg), _, rfl, .inl ⟨_, rfl, _, 2147483629, rfl, rfl, (by show (0 : Int) < 2147483629; decide), _, 60727, rfl, rfl, .inr (by decide), _, _, rfl, rfl, fin _⟩⟩
      · exact fin _
end
end Kb
namespace Kb
open PySem PySem.Spec PyProof.Rows L2
section
variable {P : Program} {w : World} {K : PySem.W.Frag} {mg : Str → Option Value} {base : Heap}
abbrev nLw : List Str := ["script", "k", "box", "many", "names", "letters", "making", "kept"]
theorem scLaw : FnScope nLw ["script"] (defScope sLaw) := ⟨rfl, rfl, rfl, by decide +kernel, rfl, by decide +kernel, by decide +kernel⟩
def spLaw (K : PySem.W.Frag) : Sp := fun vs H Q _ => ∃ (a : Addr) (ns : List Int), vs = [.ref a] ∧ SqL K H a (intV ns) ∧ ∀ H', Q (.bl true) H'
theorem ok_law {f fB fNa fT fMk fRi : Addr} {fd dB dNa dT dMk dRi : FuncData} (F : Fun K "law" "law" sLaw f fd)
    (GB : FnOk P w K mg base CX0 1 fB dB ["script", "k"] (spBox K)) (CB : Cl K mg "_law_box" fB dB ["script", "k"])
    (GNa : FnOk P w K mg base CX0 2 fNa dNa ["box", "many"] spNames) (CNa : Cl K mg "_law_names" fNa dNa ["box", "many"])
    (GT : FnOk P w K mg base CX0 1 fT dT ["box", "many"] spTake) (CT : Cl K mg "_law_take" fT dT ["box", "many"])
    (GMk : FnOk P w K mg base CX0 3 fMk dMk ["box", "names", "letters", "most"] spMaking) (CMk : Cl K mg "_law_making" fMk dMk ["box", "names", "letters", "most"])
    (GRi : FnOk P w K mg base CX0 4 fRi dRi ["box", "making", "names"] spRight) (CRi : Cl K mg "_law_making_right" fRi dRi ["box", "making", "names"])
    (mi : mg "int" = none) (ml : mg "len" = none) (mr : mg "range" = none) (md : mg "dict" = none) : FnOk P w K mg base CX0 5 f fd ["script"] (spLaw K) := by
  refine F.ok scLaw (fun vs H Q E h => ?_) (fun cdv A outer s H vs Q E hr h => ?_)
  · obtain ⟨a, ns, rfl, _⟩ := h
    rfl
  · obtain ⟨a, ns, rfl, hA, q⟩ := h
    have hr1 := hr.mono (show 1 ≤ 4 by decide)
    have hr2 := hr.mono (show 2 ≤ 4 by decide)
    have hr3 := hr.mono (show 3 ≤ 4 by decide)
    have hu65 : (A.deeper (envOfC "law" (defScope sLaw) s.heap.objs.size f cdv)).units + 65 < cLine := by
      have := hr.un
      omega
    refine ⟨_, pss_cons (ps_for PassesOwn.never rfl (pi_range1 (by rfl) mr (pa_cons (pe_op op_add pe_int (pe_callTy call_int1 (by rfl) mi (by decide +kernel) (pa_cons (pe_cmpR op_gt (pe_callB call_len_seq (by rfl) ml PySem.boot_len (pa_cons (pv 0) pa_nil)) pe_int (nomark _)) pa_nil))) pa_nil)) (pg_name (i := 1) scLaw.nd rfl (.inl rfl))
        (pss_cons (ps_set (i := 2) scLaw.nd rfl (.inl rfl) (pe_call GB hr1 (by rfl) CB.g CB.kp CB.b .nil pass0 (pa_cons (pv 0) (pa_cons (pv 1) pa_nil))))
        (pss_cons (ps_set (i := 3) scLaw.nd rfl (.inl rfl) (pe_op op_add pe_int (pe_call GT hr1 (by rfl) CT.g CT.kp CT.b .nil pass0 (pa_cons (pv 2) (pa_cons pe_int pa_nil)))))
        (pss_cons (ps_set (i := 4) scLaw.nd rfl (.inl rfl) (pe_call GNa hr2 (by rfl) CNa.g CNa.kp CNa.b .nil pass0 (pa_cons (pv 2) (pa_cons (pv 3) pa_nil))))
        (pss_cons (ps_set (i := 5) scLaw.nd rfl (.inl rfl) (pe_call GNa hr2 (by rfl) CNa.g CNa.kp CNa.b .nil pass0 (pa_cons (pv 2) (pa_cons (pe_op op_add pe_int (pe_call GT hr1 (by rfl) CT.g CT.kp CT.b .nil pass0 (pa_cons (pv 2) (pa_cons pe_int pa_nil)))) pa_nil))))
        (pss_cons (ps_set (i := 6) scLaw.nd rfl (.inl rfl) (pe_call GMk hr3 (by rfl) CMk.g CMk.kp CMk.b .nil pass0 (pa_cons (pv 2) (pa_cons (pv 4) (pa_cons (pv 5) (pa_cons (pe_op op_sub pe_int (pe_callTy call_int1 (by rfl) mi (by decide +kernel) (pa_cons (pe_cmpR op_gt (pv 3) pe_int (nomark _)) pa_nil))) pa_nil))))))
        (pss_cons (ps_set (i := 7) scLaw.nd rfl (.inl rfl) (pe_callTy call_dictD (by rfl) md (by decide +kernel) (pa_cons (pv 6) pa_nil)))
        (pss_one (ps_if (PW.pt (pw_or (pt_not (pt_val (pe_call GRi hr (by rfl) CRi.g CRi.kp CRi.b .nil pass0 (pa_cons (pv 2) (pa_cons (pv 6) (pa_cons (pv 4) pa_nil)))))) (pw_or1 (pt_cmpR (Ka.op_neDict hu65) (pv 6) (pv 7) (nomark _))))) (pss_one (ps_ret pe_bl)) pss_nil)))))))))
      (pss_one (ps_ret pe_bl)), ?_⟩
    refine ⟨.ref a, rfl, a, _, rfl, .inl hA, _, 2, rfl, rfl, .inr ⟨_, rfl, 1, _, rfl, rfl, ?_⟩⟩
    obtain ⟨m, hm2, hm⟩ : ∃ m : Nat, m ≤ 2 ∧ (1 : Int) + (if decide ((2 : Int) < ((intV ns).length : Nat)) = true then 1 else 0) = (m : Int) := by
      by_cases h : decide ((2 : Int) < ((intV ns).length : Nat)) = true
      · rw [if_pos h]
        exact ⟨2, Nat.le_refl _, rfl⟩
      · rw [if_neg h]
        exact ⟨1, by decide, rfl⟩
    refine ⟨(m : Int), congrArg (fun z => [V.int z]) hm, by omega, by omega, ?_⟩
    refine for_range (lo := 0) (n := m) (fun i σ H' => ∃ d1 d2 d3 d4 d5 d6 d7, σ = [some (.ref a), d1, d2, d3, d4, d5, d6, d7] ∧ Same H H') ⟨none, none, none, none, none, none, none, rfl, fun _ _ e => e⟩ ?_ ?_
    · rintro i σ H0 hi ⟨d1, d2, d3, d4, d5, d6, d7, rfl, s00⟩
      rw [Int.zero_add]
      refine ⟨.ref a, rfl, .int (i : Nat), rfl, a, i, ns, rfl, s00.seq hA, by omega, fun H1 x s01 nx b1 => ?_⟩
      have nxH : H x = none := s00.free nx
      have sH1 := s00.trans s01
      have toS : ∀ {G : Hp}, But x H1 G → Same H G := fun k c u e => k c u (ne_of_none e nxH) (sH1 _ _ e)
      refine ⟨.ref x, rfl, x, 4, rfl, b1, by decide, by decide, fun r H2 hr4 k2 b2 => ?_⟩
      refine ⟨1, _, rfl, rfl, ?_⟩
      refine ⟨.ref x, rfl, .int (1 + (r : Int)), rfl, x, 1 + r, (by show [V.ref x, V.int (1 + (r : Int))] = _; rw [show (1 : Int) + (r : Int) = ((1 + r : Nat) : Int) by omega]), b2, by omega, fun pn nl H3 hnl nd nam k3 b3 npn epn => ?_⟩
      have hpx : pn ≠ x := b2.ne npn
      refine ⟨.ref x, rfl, .ref x, rfl, x, 3, rfl, b3, by decide, by decide, fun r3 H4 hr3' k4 b4 => ?_⟩
      refine ⟨2, _, rfl, rfl, x, 2 + r3, (by show [V.ref x, V.int (2 + (r3 : Int))] = _; rw [show (2 : Int) + (r3 : Int) = ((2 + r3 : Nat) : Int) by omega]), b4, by omega, fun pl ll H5 hll ndl naml k5 b5 npl epl => ?_⟩
      have hlx : pl ≠ x := b4.ne npl
      have epn5 := (k4.trans k5) _ _ hpx epn
      refine ⟨.ref x, rfl, .ref pn, rfl, .ref pl, rfl, .int (1 + (r : Int)), rfl, _, 3, rfl, rfl, .inr ⟨_, rfl, 5, _, rfl, rfl, ?_⟩⟩
      obtain ⟨m2, hm3, hm4, hmm⟩ : ∃ m2 : Nat, 0 < m2 ∧ m2 ≤ 5 ∧ (5 : Int) - (if decide ((3 : Int) < 1 + (r : Int)) = true then 1 else 0) = (m2 : Int) := by
        by_cases h : decide ((3 : Int) < 1 + (r : Int)) = true
        · rw [if_pos h]
          exact ⟨4, by decide, by decide, rfl⟩
        · rw [if_neg h]
          exact ⟨5, by decide, by decide, rfl⟩
      refine ⟨x, pn, pl, m2, nl, ll, congrArg (fun z => [V.ref x, .ref pn, .ref pl, .int z]) hmm, b5, epn5, epl, hpx, hlx, nd, by omega, by omega, by omega, by omega, naml, hm3, hm4, fun dm M H6 k6 b6 ndm edm sM hM rM nM => ?_⟩
      have hdx : dm ≠ x := fun e => by
        obtain ⟨q0, q1, q2, q3⟩ := b6
        rw [e, q3] at edm
        cases edm
      refine ⟨.ref dm, rfl, dm, _, rfl, .inl edm, fun pk npk => ?_⟩
      have s7 : Same H6 (upd H6 pk (.dK (kvM M))) := same_new npk
      have epk : upd H6 pk (.dK (kvM M)) pk = some (.dK (kvM M)) := upd_same
      have b7 : Box (upd H6 pk (.dK (kvM M))) x := b6.mono s7
      generalize upd H6 pk (.dK (kvM M)) = H7 at s7 epk b7
      have hkx : pk ≠ x := fun e => by
        obtain ⟨q0, q1, q2, q3⟩ := b7
        rw [e, q3] at epk
        cases epk
      have Mlen : M.length = nl.length := by
        have := congrArg List.length hM
        rwa [List.length_map] at this
      have ft : Fit M := ⟨by omega, by rw [hM]; exact nd, rM⟩
      have epn7 := s7 _ _ (k6 _ _ hpx epn5)
      refine ⟨.ref x, rfl, .ref dm, rfl, .ref pn, rfl, x, dm, pn, M, rfl, b7, hdx, hpx, s7 _ _ edm, sM.mono s7, ft, by omega, by rw [hM]; exact epn7, by rw [hM]; exact nam, nM, fun H8 k8 b8 => ?_⟩
      refine ⟨true, rfl, iteF ?_⟩
      have edm8 := k8 _ _ hdx (s7 _ _ edm)
      have epk8 := k8 _ _ hkx epk
      have sM8 : Stand H8 M := fun t ht => by
        have h7 := s7 _ _ (sM t ht)
        refine k8 _ _ (fun e => ?_) h7
        obtain ⟨q0, q1, q2, q3⟩ := b7
        rw [e, q3] at h7
        cases h7
      refine ⟨.ref dm, rfl, .ref pk, rfl, dm, pk, _, _, rfl, rfl, edm8, epk8, rfl, fun p hp => ?_, false, rfl, iteF ?_⟩
      · obtain ⟨t, ht, rfl⟩ := List.mem_map.mp hp
        exact ⟨_, valV_M ft.nd ht, Ka.rowD t.2.2, dpR (sM8 t ht), dpR (sM8 t ht), shR (nM t ht), by rw [eqR, decide_eq_true rfl]⟩
      · exact ⟨_, _, _, _, _, _, _, rfl, toS (((((k2.trans k3).trans k4).trans k5).trans k6).trans ((But.of s7).trans k8))⟩
    · rintro σ H' ⟨d1, d2, d3, d4, d5, d6, d7, rfl, s00⟩
      exact q H'
end
end Kb
namespace Kb
open PySem PySem.Spec PyProof.Rows L2
/-! ### the end: what the top has written -/
theorem all_mk {l : PySem.W.OpenLaw} {w : World} {K : PySem.W.Frag} {h : Heap} {mg : Str → Option Value} {fa : Addr} (X : K.In h) (G : h.Ns mainGlobals mg) (hfa : mg "law" = some (.ref fa))
    {fAs fWi fBe fRb fMd fOd fIx fCp fFc fCk fBx fTk fPk fNs fLi fLm fMk fOw fHo fPr fRi fLa : Addr} {odAs anAs odWi anWi odBe anBe odRb anRb odMd anMd odOd anOd odIx anIx odCp anCp odFc anFc odCk anCk odBx anBx odTk anTk odPk anPk odNs anNs odLi anLi odLm anLm odMk anMk odOw anOw odHo anHo odPr anPr odRi anRi odLa anLa : Option Addr} {slAs slWi slBe slRb slMd slOd slIx slCp slFc slCk slBx slTk slPk slNs slLi slLm slMk slOw slHo slPr slRi slLa : Array (Option Value)}
    {ocAs kVAs dcAs pmAs ctAs cdAs ocWi kVWi dcWi pmWi ctWi cdWi ocBe kVBe dcBe pmBe ctBe cdBe ocRb kVRb dcRb pmRb ctRb cdRb ocMd kVMd dcMd pmMd ctMd cdMd ocOd kVOd dcOd pmOd ctOd cdOd ocIx kVIx dcIx pmIx ctIx cdIx ocCp kVCp dcCp pmCp ctCp cdCp ocFc kVFc dcFc pmFc ctFc cdFc ocCk kVCk dcCk pmCk ctCk cdCk ocBx kVBx dcBx pmBx ctBx cdBx ocTk kVTk dcTk pmTk ctTk cdTk ocPk kVPk dcPk pmPk ctPk cdPk ocNs kVNs dcNs pmNs ctNs cdNs ocLi kVLi dcLi pmLi ctLi cdLi ocLm kVLm dcLm pmLm ctLm cdLm ocMk kVMk dcMk pmMk ctMk cdMk ocOw kVOw dcOw pmOw ctOw cdOw ocHo kVHo dcHo pmHo ctHo cdHo ocPr kVPr dcPr pmPr ctPr cdPr ocRi kVRi dcRi pmRi ctRi cdRi ocLa kVLa dcLa pmLa ctLa cdLa : Value}
    (aAs : PySem.W.nsIn K mainGlobals "ascending" = some (some (.ref fAs)))
    (lAs : K.lookup fAs = some ⟨ocAs, odAs, .func (PySem.W.fnOf "ascending" "ascending" (defArgs sAsc) (defBody sAsc) (defScope sAsc) .none kVAs dcAs pmAs anAs cdAs ctAs), slAs⟩)
    (cAs : PySem.W.codeIn K cdAs "ascending" = true) (kAs : PySem.W.keepIn K (.ref fAs) = true)
    (aWi : PySem.W.nsIn K mainGlobals "within" = some (some (.ref fWi)))
    (lWi : K.lookup fWi = some ⟨ocWi, odWi, .func (PySem.W.fnOf "within" "within" (defArgs sWithin) (defBody sWithin) (defScope sWithin) .none kVWi dcWi pmWi anWi cdWi ctWi), slWi⟩)
    (cWi : PySem.W.codeIn K cdWi "within" = true) (kWi : PySem.W.keepIn K (.ref fWi) = true)
    (aBe : PySem.W.nsIn K mainGlobals "begun" = some (some (.ref fBe)))
    (lBe : K.lookup fBe = some ⟨ocBe, odBe, .func (PySem.W.fnOf "begun" "begun" (defArgs sBegun) (defBody sBegun) (defScope sBegun) .none kVBe dcBe pmBe anBe cdBe ctBe), slBe⟩)
    (cBe : PySem.W.codeIn K cdBe "begun" = true) (kBe : PySem.W.keepIn K (.ref fBe) = true)
    (aRb : PySem.W.nsIn K mainGlobals "row_by" = some (some (.ref fRb)))
    (lRb : K.lookup fRb = some ⟨ocRb, odRb, .func (PySem.W.fnOf "row_by" "row_by" (defArgs sRowBy) (defBody sRowBy) (defScope sRowBy) .none kVRb dcRb pmRb anRb cdRb ctRb), slRb⟩)
    (cRb : PySem.W.codeIn K cdRb "row_by" = true) (kRb : PySem.W.keepIn K (.ref fRb) = true)
    (aMd : PySem.W.nsIn K mainGlobals "made_row" = some (some (.ref fMd)))
    (lMd : K.lookup fMd = some ⟨ocMd, odMd, .func (PySem.W.fnOf "made_row" "made_row" (defArgs sMade) (defBody sMade) (defScope sMade) .none kVMd dcMd pmMd anMd cdMd ctMd), slMd⟩)
    (cMd : PySem.W.codeIn K cdMd "made_row" = true) (kMd : PySem.W.keepIn K (.ref fMd) = true)
    (aOd : PySem.W.nsIn K mainGlobals "own_deeds" = some (some (.ref fOd)))
    (lOd : K.lookup fOd = some ⟨ocOd, odOd, .func (PySem.W.fnOf "own_deeds" "own_deeds" (defArgs sOwnD) (defBody sOwnD) (defScope sOwnD) .none kVOd dcOd pmOd anOd cdOd ctOd), slOd⟩)
    (cOd : PySem.W.codeIn K cdOd "own_deeds" = true) (kOd : PySem.W.keepIn K (.ref fOd) = true)
    (aIx : PySem.W.nsIn K mainGlobals "is_exact" = some (some (.ref fIx)))
    (lIx : K.lookup fIx = some ⟨ocIx, odIx, .func (PySem.W.fnOf "is_exact" "is_exact" (defArgs sExact) (defBody sExact) (defScope sExact) .none kVIx dcIx pmIx anIx cdIx ctIx), slIx⟩)
    (cIx : PySem.W.codeIn K cdIx "is_exact" = true) (kIx : PySem.W.keepIn K (.ref fIx) = true)
    (aCp : PySem.W.nsIn K mainGlobals "couple" = some (some (.ref fCp)))
    (lCp : K.lookup fCp = some ⟨ocCp, odCp, .func (PySem.W.fnOf "couple" "couple" (defArgs sCouple) (defBody sCouple) (defScope sCouple) .none kVCp dcCp pmCp anCp cdCp ctCp), slCp⟩)
    (cCp : PySem.W.codeIn K cdCp "couple" = true) (kCp : PySem.W.keepIn K (.ref fCp) = true)
    (aFc : PySem.W.nsIn K mainGlobals "first_cover" = some (some (.ref fFc)))
    (lFc : K.lookup fFc = some ⟨ocFc, odFc, .func (PySem.W.fnOf "first_cover" "first_cover" (defArgs sFirstC) (defBody sFirstC) (defScope sFirstC) .none kVFc dcFc pmFc anFc cdFc ctFc), slFc⟩)
    (cFc : PySem.W.codeIn K cdFc "first_cover" = true) (kFc : PySem.W.keepIn K (.ref fFc) = true)
    (aCk : PySem.W.nsIn K mainGlobals "check_couple" = some (some (.ref fCk)))
    (lCk : K.lookup fCk = some ⟨ocCk, odCk, .func (PySem.W.fnOf "check_couple" "check_couple" (defArgs sCheckC) (defBody sCheckC) (defScope sCheckC) .none kVCk dcCk pmCk anCk cdCk ctCk), slCk⟩)
    (cCk : PySem.W.codeIn K cdCk "check_couple" = true) (kCk : PySem.W.keepIn K (.ref fCk) = true)
    (aBx : PySem.W.nsIn K mainGlobals "_law_box" = some (some (.ref fBx)))
    (lBx : K.lookup fBx = some ⟨ocBx, odBx, .func (PySem.W.fnOf "_law_box" "_law_box" (defArgs sBox) (defBody sBox) (defScope sBox) .none kVBx dcBx pmBx anBx cdBx ctBx), slBx⟩)
    (cBx : PySem.W.codeIn K cdBx "_law_box" = true) (kBx : PySem.W.keepIn K (.ref fBx) = true)
    (aTk : PySem.W.nsIn K mainGlobals "_law_take" = some (some (.ref fTk)))
    (lTk : K.lookup fTk = some ⟨ocTk, odTk, .func (PySem.W.fnOf "_law_take" "_law_take" (defArgs sTake) (defBody sTake) (defScope sTake) .none kVTk dcTk pmTk anTk cdTk ctTk), slTk⟩)
    (cTk : PySem.W.codeIn K cdTk "_law_take" = true) (kTk : PySem.W.keepIn K (.ref fTk) = true)
    (aPk : PySem.W.nsIn K mainGlobals "_law_pick" = some (some (.ref fPk)))
    (lPk : K.lookup fPk = some ⟨ocPk, odPk, .func (PySem.W.fnOf "_law_pick" "_law_pick" (defArgs sPick) (defBody sPick) (defScope sPick) .none kVPk dcPk pmPk anPk cdPk ctPk), slPk⟩)
    (cPk : PySem.W.codeIn K cdPk "_law_pick" = true) (kPk : PySem.W.keepIn K (.ref fPk) = true)
    (aNs : PySem.W.nsIn K mainGlobals "_law_names" = some (some (.ref fNs)))
    (lNs : K.lookup fNs = some ⟨ocNs, odNs, .func (PySem.W.fnOf "_law_names" "_law_names" (defArgs sNames) (defBody sNames) (defScope sNames) .none kVNs dcNs pmNs anNs cdNs ctNs), slNs⟩)
    (cNs : PySem.W.codeIn K cdNs "_law_names" = true) (kNs : PySem.W.keepIn K (.ref fNs) = true)
    (aLi : PySem.W.nsIn K mainGlobals "_law_within" = some (some (.ref fLi)))
    (lLi : K.lookup fLi = some ⟨ocLi, odLi, .func (PySem.W.fnOf "_law_within" "_law_within" (defArgs sLawIn) (defBody sLawIn) (defScope sLawIn) .none kVLi dcLi pmLi anLi cdLi ctLi), slLi⟩)
    (cLi : PySem.W.codeIn K cdLi "_law_within" = true) (kLi : PySem.W.keepIn K (.ref fLi) = true)
    (aLm : PySem.W.nsIn K mainGlobals "_law_made" = some (some (.ref fLm)))
    (lLm : K.lookup fLm = some ⟨ocLm, odLm, .func (PySem.W.fnOf "_law_made" "_law_made" (defArgs sLawMade) (defBody sLawMade) (defScope sLawMade) .none kVLm dcLm pmLm anLm cdLm ctLm), slLm⟩)
    (cLm : PySem.W.codeIn K cdLm "_law_made" = true) (kLm : PySem.W.keepIn K (.ref fLm) = true)
    (aMk : PySem.W.nsIn K mainGlobals "_law_making" = some (some (.ref fMk)))
    (lMk : K.lookup fMk = some ⟨ocMk, odMk, .func (PySem.W.fnOf "_law_making" "_law_making" (defArgs sMaking) (defBody sMaking) (defScope sMaking) .none kVMk dcMk pmMk anMk cdMk ctMk), slMk⟩)
    (cMk : PySem.W.codeIn K cdMk "_law_making" = true) (kMk : PySem.W.keepIn K (.ref fMk) = true)
    (aOw : PySem.W.nsIn K mainGlobals "_law_owned" = some (some (.ref fOw)))
    (lOw : K.lookup fOw = some ⟨ocOw, odOw, .func (PySem.W.fnOf "_law_owned" "_law_owned" (defArgs sOwned) (defBody sOwned) (defScope sOwned) .none kVOw dcOw pmOw anOw cdOw ctOw), slOw⟩)
    (cOw : PySem.W.codeIn K cdOw "_law_owned" = true) (kOw : PySem.W.keepIn K (.ref fOw) = true)
    (aHo : PySem.W.nsIn K mainGlobals "_law_first_holder" = some (some (.ref fHo)))
    (lHo : K.lookup fHo = some ⟨ocHo, odHo, .func (PySem.W.fnOf "_law_first_holder" "_law_first_holder" (defArgs sHolder) (defBody sHolder) (defScope sHolder) .none kVHo dcHo pmHo anHo cdHo ctHo), slHo⟩)
    (cHo : PySem.W.codeIn K cdHo "_law_first_holder" = true) (kHo : PySem.W.keepIn K (.ref fHo) = true)
    (aPr : PySem.W.nsIn K mainGlobals "_law_pair" = some (some (.ref fPr)))
    (lPr : K.lookup fPr = some ⟨ocPr, odPr, .func (PySem.W.fnOf "_law_pair" "_law_pair" (defArgs sPair) (defBody sPair) (defScope sPair) .none kVPr dcPr pmPr anPr cdPr ctPr), slPr⟩)
    (cPr : PySem.W.codeIn K cdPr "_law_pair" = true) (kPr : PySem.W.keepIn K (.ref fPr) = true)
    (aRi : PySem.W.nsIn K mainGlobals "_law_making_right" = some (some (.ref fRi)))
    (lRi : K.lookup fRi = some ⟨ocRi, odRi, .func (PySem.W.fnOf "_law_making_right" "_law_making_right" (defArgs sRight) (defBody sRight) (defScope sRight) .none kVRi dcRi pmRi anRi cdRi ctRi), slRi⟩)
    (cRi : PySem.W.codeIn K cdRi "_law_making_right" = true) (kRi : PySem.W.keepIn K (.ref fRi) = true)
    (aLa : PySem.W.nsIn K mainGlobals "law" = some (some (.ref fLa)))
    (lLa : K.lookup fLa = some ⟨ocLa, odLa, .func (PySem.W.fnOf "law" "law" (defArgs sLaw) (defBody sLaw) (defScope sLaw) .none kVLa dcLa pmLa anLa cdLa ctLa), slLa⟩)
    (cLa : PySem.W.codeIn K cdLa "law" = true) (kLa : PySem.W.keepIn K (.ref fLa) = true)
    (z0 : PySem.W.nsIn K mainGlobals "len" = some none) (z1 : PySem.W.nsIn K mainGlobals "range" = some none) (z2 : PySem.W.nsIn K mainGlobals "iter" = some none) (z3 : PySem.W.nsIn K mainGlobals "reversed" = some none) (z4 : PySem.W.nsIn K mainGlobals "tuple" = some none) (z5 : PySem.W.nsIn K mainGlobals "list" = some none) (z6 : PySem.W.nsIn K mainGlobals "sorted" = some none) (z7 : PySem.W.nsIn K mainGlobals "any" = some none) (z8 : PySem.W.nsIn K mainGlobals "all" = some none) (z9 : PySem.W.nsIn K mainGlobals "int" = some none) (z10 : PySem.W.nsIn K mainGlobals "bool" = some none) (z11 : PySem.W.nsIn K mainGlobals "abs" = some none) (z12 : PySem.W.nsIn K mainGlobals "min" = some none) (z13 : PySem.W.nsIn K mainGlobals "isinstance" = some none) (z14 : PySem.W.nsIn K mainGlobals "dict" = some none) (z15 : PySem.W.nsIn K mainGlobals "set" = some none) :
    LamX.LawAtS l w K CX0 5 63 "script" mg fa h := by
  have e := hfa.symm.trans (PySem.W.mg_of X G aLa)
  cases e
  have m_len := PySem.W.mg_none_of X G z0
  have m_range := PySem.W.mg_none_of X G z1
  have m_iter := PySem.W.mg_none_of X G z2
  have m_reversed := PySem.W.mg_none_of X G z3
  have m_tuple := PySem.W.mg_none_of X G z4
  have m_list := PySem.W.mg_none_of X G z5
  have m_sorted := PySem.W.mg_none_of X G z6
  have m_any := PySem.W.mg_none_of X G z7
  have m_all := PySem.W.mg_none_of X G z8
  have m_int := PySem.W.mg_none_of X G z9
  have m_bool := PySem.W.mg_none_of X G z10
  have m_abs := PySem.W.mg_none_of X G z11
  have m_min := PySem.W.mg_none_of X G z12
  have m_isinstance := PySem.W.mg_none_of X G z13
  have m_dict := PySem.W.mg_none_of X G z14
  have m_set := PySem.W.mg_none_of X G z15
  have FAs := fun_mk (st := sAsc) lAs cAs kAs
  have gAs := PySem.W.mg_of X G aAs
  have bAs := FAs.binds (ps := ["table"]) fun _ _ _ _ _ _ us hl => match us, hl with | [_], _ => rfl
  have FWi := fun_mk (st := sWithin) lWi cWi kWi
  have gWi := PySem.W.mg_of X G aWi
  have bWi := FWi.binds (ps := ["u", "v"]) fun _ _ _ _ _ _ us hl => match us, hl with | [_, _], _ => rfl
  have FBe := fun_mk (st := sBegun) lBe cBe kBe
  have gBe := PySem.W.mg_of X G aBe
  have bBe := FBe.binds (ps := ["row", "other"]) fun _ _ _ _ _ _ us hl => match us, hl with | [_, _], _ => rfl
  have FRb := fun_mk (st := sRowBy) lRb cRb kRb
  have gRb := PySem.W.mg_of X G aRb
  have bRb := FRb.binds (ps := ["view", "row"]) fun _ _ _ _ _ _ us hl => match us, hl with | [_, _], _ => rfl
  have FMd := fun_mk (st := sMade) lMd cMd kMd
  have gMd := PySem.W.mg_of X G aMd
  have bMd := FMd.binds (ps := ["making", "row"]) fun _ _ _ _ _ _ us hl => match us, hl with | [_, _], _ => rfl
  have FOd := fun_mk (st := sOwnD) lOd cOd kOd
  have gOd := PySem.W.mg_of X G aOd
  have bOd := FOd.binds (ps := ["making"]) fun _ _ _ _ _ _ us hl => match us, hl with | [_], _ => rfl
  have FIx := fun_mk (st := sExact) lIx cIx kIx
  have gIx := PySem.W.mg_of X G aIx
  have bIx := FIx.binds (ps := ["making"]) fun _ _ _ _ _ _ us hl => match us, hl with | [_], _ => rfl
  have FCp := fun_mk (st := sCouple) lCp cCp kCp
  have gCp := PySem.W.mg_of X G aCp
  have bCp := FCp.binds (ps := ["making"]) fun _ _ _ _ _ _ us hl => match us, hl with | [_], _ => rfl
  have FFc := fun_mk (st := sFirstC) lFc cFc kFc
  have gFc := PySem.W.mg_of X G aFc
  have bFc := FFc.binds (ps := ["making", "row"]) fun _ _ _ _ _ _ us hl => match us, hl with | [_, _], _ => rfl
  have FCk := fun_mk (st := sCheckC) lCk cCk kCk
  have gCk := PySem.W.mg_of X G aCk
  have bCk := FCk.binds (ps := ["making", "u", "v"]) fun _ _ _ _ _ _ us hl => match us, hl with | [_, _, _], _ => rfl
  have FBx := fun_mk (st := sBox) lBx cBx kBx
  have gBx := PySem.W.mg_of X G aBx
  have bBx := FBx.binds (ps := ["script", "k"]) fun _ _ _ _ _ _ us hl => match us, hl with | [_, _], _ => rfl
  have FTk := fun_mk (st := sTake) lTk cTk kTk
  have gTk := PySem.W.mg_of X G aTk
  have bTk := FTk.binds (ps := ["box", "many"]) fun _ _ _ _ _ _ us hl => match us, hl with | [_, _], _ => rfl
  have FPk := fun_mk (st := sPick) lPk cPk kPk
  have gPk := PySem.W.mg_of X G aPk
  have bPk := FPk.binds (ps := ["box", "some"]) fun _ _ _ _ _ _ us hl => match us, hl with | [_, _], _ => rfl
  have FNs := fun_mk (st := sNames) lNs cNs kNs
  have gNs := PySem.W.mg_of X G aNs
  have bNs := FNs.binds (ps := ["box", "many"]) fun _ _ _ _ _ _ us hl => match us, hl with | [_, _], _ => rfl
  have FLi := fun_mk (st := sLawIn) lLi cLi kLi
  have gLi := PySem.W.mg_of X G aLi
  have bLi := FLi.binds (ps := ["u", "v"]) fun _ _ _ _ _ _ us hl => match us, hl with | [_, _], _ => rfl
  have FLm := fun_mk (st := sLawMade) lLm cLm kLm
  have gLm := PySem.W.mg_of X G aLm
  have bLm := FLm.binds (ps := ["making", "row"]) fun _ _ _ _ _ _ us hl => match us, hl with | [_, _], _ => rfl
  have FMk := fun_mk (st := sMaking) lMk cMk kMk
  have gMk := PySem.W.mg_of X G aMk
  have bMk := FMk.binds (ps := ["box", "names", "letters", "most"]) fun _ _ _ _ _ _ us hl => match us, hl with | [_, _, _, _], _ => rfl
  have FOw := fun_mk (st := sOwned) lOw cOw kOw
  have gOw := PySem.W.mg_of X G aOw
  have bOw := FOw.binds (ps := ["making"]) fun _ _ _ _ _ _ us hl => match us, hl with | [_], _ => rfl
  have FHo := fun_mk (st := sHolder) lHo cHo kHo
  have gHo := PySem.W.mg_of X G aHo
  have bHo := FHo.binds (ps := ["making", "row", "names"]) fun _ _ _ _ _ _ us hl => match us, hl with | [_, _, _], _ => rfl
  have FPr := fun_mk (st := sPair) lPr cPr kPr
  have gPr := PySem.W.mg_of X G aPr
  have bPr := FPr.binds (ps := ["box", "names"]) fun _ _ _ _ _ _ us hl => match us, hl with | [_, _], _ => rfl
  have FRi := fun_mk (st := sRight) lRi cRi kRi
  have gRi := PySem.W.mg_of X G aRi
  have bRi := FRi.binds (ps := ["box", "making", "names"]) fun _ _ _ _ _ _ us hl => match us, hl with | [_, _, _], _ => rfl
  have FLa := fun_mk (st := sLaw) lLa cLa kLa
  have gLa := PySem.W.mg_of X G aLa
  have bLa := FLa.binds (ps := ["script"]) fun _ _ _ _ _ _ us hl => match us, hl with | [_], _ => rfl
  have kbOd : KBinds K _ ["making"] ["making"] Ka.snG Ka.snG := Ka.kb_one (fd := PySem.W.fnOf "own_deeds" "own_deeds" (defArgs sOwnD) (defBody sOwnD) (defScope sOwnD) .none kVOd dcOd pmOd anOd cdOd ctOd) fun x => rfl
  have kbIx : KBinds K _ ["making"] ["making"] Ka.snG Ka.snG := Ka.kb_one (fd := PySem.W.fnOf "is_exact" "is_exact" (defArgs sExact) (defBody sExact) (defScope sExact) .none kVIx dcIx pmIx anIx cdIx ctIx) fun x => rfl
  have kbCp : KBinds K _ ["making"] ["making"] Ka.snG Ka.snG := Ka.kb_one (fd := PySem.W.fnOf "couple" "couple" (defArgs sCouple) (defBody sCouple) (defScope sCouple) .none kVCp dcCp pmCp anCp cdCp ctCp) fun x => rfl
  have kbMd : KBinds K _ ["making", "row"] ["row", "making"] Ka.swG Ka.swG := Ka.kb_swap (fd := PySem.W.fnOf "made_row" "made_row" (defArgs sMade) (defBody sMade) (defScope sMade) .none kVMd dcMd pmMd anMd cdMd ctMd) fun x y => rfl
  have kbCk : KBinds K _ ["making", "u", "v"] ["v", "u", "making"] Ka.rvG Ka.rvG := Ka.kb_rev3 (fd := PySem.W.fnOf "check_couple" "check_couple" (defArgs sCheckC) (defBody sCheckC) (defScope sCheckC) .none kVCk dcCk pmCk anCk cdCk ctCk) fun x y z => rfl
  refine ⟨PySem.W.fnOf "law" "law" (defArgs sLaw) (defBody sLaw) (defScope sLaw) .none kVLa dcLa pmLa anLa cdLa ctLa, [], spLaw K, (fun p hp => by cases hp), (fun p hp => by cases hp), (fun p hp => by cases hp), fun s u => BindsTo.of_eq rfl, fun H a ns hl hb hP hS => ?_, fun base hb hg hTB => ?_⟩
  · exact ⟨a, ns, rfl, hS, fun H' => rfl⟩
  · exact ok_law FLa (ok_box FBx m_int m_len m_abs) ⟨kBx, bBx, gBx⟩ (ok_names FNs FTk bTk gTk m_int m_len m_range) ⟨kNs, bNs, gNs⟩ (ok_take FTk m_int) ⟨kTk, bTk, gTk⟩ (ok_making FMk FTk bTk gTk FPk bPk gPk m_int m_len m_tuple m_range) ⟨kMk, bMk, gMk⟩
      (ok_right FRi (ok_ownD FOd FAs bAs gAs m_sorted m_tuple) ⟨kOd, bOd, gOd⟩ kbOd (ok_owned FOw m_sorted m_tuple m_list m_set m_any) ⟨kOw, bOw, gOw⟩ (ok_exact FIx FOd bOd gOd FAs bAs gAs m_sorted m_tuple m_all m_len) ⟨kIx, bIx, gIx⟩ kbIx
        (ok_couple FCp FOd bOd gOd FAs bAs gAs FFc bFc gFc FBe bBe gBe m_sorted m_tuple m_len m_range m_reversed m_min) ⟨kCp, bCp, gCp⟩ kbCp (ok_holder FHo FLi bLi gLi FLm bLm gLm m_len m_list m_range) ⟨kHo, bHo, gHo⟩
        (ok_checkC FCk FMd bMd gMd FRb bRb gRb FWi bWi gWi m_tuple m_iter) ⟨kCk, bCk, gCk⟩ kbCk (ok_pair FPr FTk bTk gTk FPk bPk gPk m_int m_len m_tuple m_range) ⟨kPr, bPr, gPr⟩ (ok_made FMd FRb bRb gRb m_tuple) ⟨kMd, bMd, gMd⟩ kbMd (ok_lawMade FLm) ⟨kLm, bLm, gLm⟩ (ok_lawIn FLi m_len m_list) ⟨kLi, bLi, gLi⟩
        m_sorted m_list m_len m_isinstance m_bool m_range) ⟨kRi, bRi, gRi⟩ m_int m_len m_range m_dict
end Kb
open PySem PySem.W PyProof.Rows in
set_option maxHeartbeats 0 in
theorem PySem.Challenge.cw_stillowed_k83_exact_makings_holds : PySem.Challenge.rw_stillowed_k83_exact_makings.Holds := by
  w_on; o_law; k_head; (case hw => w_witness2)
  k_fill
  refine LamX.walk_ofTs (l := PySem.Challenge.rw_stillowed_k83_exact_makings) (n := 63) (k := 5) (x := "script") (CX := fun _ => L2.CX0) rfl (by decide) rfl ⟨rfl, by decide, by decide⟩ (fun w h Y => PySem.W.kIn_of Y) ?F (fun _ _ _ _ _ z => z)
  case F =>
    intro w mg fa h Y KX G hmg
    refine' Kb.all_mk KX G hmg ?aAs ?lAs ?cAs ?kAs ?aWi ?lWi ?cWi ?kWi ?aBe ?lBe ?cBe ?kBe ?aRb ?lRb ?cRb ?kRb ?aMd ?lMd ?cMd ?kMd ?aOd ?lOd ?cOd ?kOd ?aIx ?lIx ?cIx ?kIx ?aCp ?lCp ?cCp ?kCp ?aFc ?lFc ?cFc ?kFc ?aCk ?lCk ?cCk ?kCk ?aBx ?lBx ?cBx ?kBx ?aTk ?lTk ?cTk ?kTk ?aPk ?lPk ?cPk ?kPk ?aNs ?lNs ?cNs ?kNs ?aLi ?lLi ?cLi ?kLi ?aLm ?lLm ?cLm ?kLm ?aMk ?lMk ?cMk ?kMk ?aOw ?lOw ?cOw ?kOw ?aHo ?lHo ?cHo ?kHo ?aPr ?lPr ?cPr ?kPr ?aRi ?lRi ?cRi ?kRi ?aLa ?lLa ?cLa ?kLa ?z0 ?z1 ?z2 ?z3 ?z4 ?z5 ?z6 ?z7 ?z8 ?z9 ?z10 ?z11 ?z12 ?z13 ?z14 ?z15
    (case aAs => k_is)
    (case lAs => k_is)
    (case cAs => k_is)
    (case kAs => k_is)
    (case aWi => k_is)
    (case lWi => k_is)
    (case cWi => k_is)
    (case kWi => k_is)
    (case aBe => k_is)
    (case lBe => k_is)
    (case cBe => k_is)
    (case kBe => k_is)
    (case aRb => k_is)
    (case lRb => k_is)
    (case cRb => k_is)
    (case kRb => k_is)
    (case aMd => k_is)
    (case lMd => k_is)
    (case cMd => k_is)
    (case kMd => k_is)
    (case aOd => k_is)
    (case lOd => k_is)
    (case cOd => k_is)
    (case kOd => k_is)
    (case aIx => k_is)
    (case lIx => k_is)
    (case cIx => k_is)
    (case kIx => k_is)
    (case aCp => k_is)
    (case lCp => k_is)
    (case cCp => k_is)
    (case kCp => k_is)
    (case aFc => k_is)
    (case lFc => k_is)
    (case cFc => k_is)
    (case kFc => k_is)
    (case aCk => k_is)
    (case lCk => k_is)
    (case cCk => k_is)
    (case kCk => k_is)
    (case aBx => k_is)
    (case lBx => k_is)
    (case cBx => k_is)
    (case kBx => k_is)
    (case aTk => k_is)
    (case lTk => k_is)
    (case cTk => k_is)
    (case kTk => k_is)
    (case aPk => k_is)
    (case lPk => k_is)
    (case cPk => k_is)
    (case kPk => k_is)
    (case aNs => k_is)
    (case lNs => k_is)
    (case cNs => k_is)
    (case kNs => k_is)
    (case aLi => k_is)
    (case lLi => k_is)
    (case cLi => k_is)
    (case kLi => k_is)
    (case aLm => k_is)
    (case lLm => k_is)
    (case cLm => k_is)
    (case kLm => k_is)
    (case aMk => k_is)
    (case lMk => k_is)
    (case cMk => k_is)
    (case kMk => k_is)
    (case aOw => k_is)
    (case lOw => k_is)
    (case cOw => k_is)
    (case kOw => k_is)
    (case aHo => k_is)
    (case lHo => k_is)
    (case cHo => k_is)
    (case kHo => k_is)
    (case aPr => k_is)
    (case lPr => k_is)
    (case cPr => k_is)
    (case kPr => k_is)
    (case aRi => k_is)
    (case lRi => k_is)
    (case cRi => k_is)
    (case kRi => k_is)
    (case aLa => k_is)
    (case lLa => k_is)
    (case cLa => k_is)
    (case kLa => k_is)
    (case z0 => k_is)
    (case z1 => k_is)
    (case z2 => k_is)
    (case z3 => k_is)
    (case z4 => k_is)
    (case z5 => k_is)
    (case z6 => k_is)
    (case z7 => k_is)
    (case z8 => k_is)
    (case z9 => k_is)
    (case z10 => k_is)
    (case z11 => k_is)
    (case z12 => k_is)
    (case z13 => k_is)
    (case z14 => k_is)
    (case z15 => k_is)
