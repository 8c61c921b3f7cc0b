import PyProof.Rows.All
import Wide.All
import OpenK.AllK
import Wide.FinOn
import PyProof.TupleIter
import PyProof.WalksMore
import HandS.ForMost
import HandS.IterNext
import HandS.IterVal
import KE.GoesMore
import PyProof.EnumMake
import HandS.Style
import KE.SortKeyHeap
import KE.KLam
import KE.KDictCopyH
import HandS.SortKw
import HandS.Lambda
import HandS.DictComp
import HandS.Walk
import PySem.Challenge.RW_stillowed_k01_fits_of_rows
import HandS.Rev
import HandS.Evl
import HandS.SetKeys
import HandS.IsInst
import HandS.ForExc
import HandS.ExcInit
import PyProof.P3Eq
import HandS.Deep
import HandS.TupAny
import HandS.TupLe
import HandS.ExcField
import HandS.ExcIs
import KE.KExcIs
import HandS.TupMul
import HandS.Codes
import HandS.StrMore
import HandS.EndTab
import KE.KNestM
set_option Elab.async false
set_option linter.all false
set_option maxRecDepth 100000
set_option maxHeartbeats 8000000
/-! The mathematics of fits (own text; no part of the kit). -/
namespace Ka

variable {α : Type} [DecidableEq α]

/-- may the place stand behind the fit so far -/
def okAfter (fit : List Nat) (at_ : Nat) : Bool :=
  match fit.getLast? with
  | none => true
  | some l => decide (l < at_)

/-- the places by which a fit is lengthened -/
def nexts (v : List α) (x : α) (fit : List Nat) : List Nat :=
  (List.range v.length).filter fun i => decide (v[i]? = some x) && okAfter fit i

def growAll (v : List α) (x : α) (found : List (List Nat)) : List (List Nat) :=
  found.flatMap fun fit => (nexts v x fit).map fun i => fit ++ [i]

/-- all fits, as a loop over u finds them -/
def allFrom (v : List α) : List α → List (List Nat) → List (List Nat)
  | [], found => found
  | x :: u, found => allFrom v u (growAll v x found)

def allFits (u v : List α) : List (List Nat) := allFrom v u [[]]

theorem allFrom_append (v : List α) : ∀ (u w : List α) (found : List (List Nat)), allFrom v (u ++ w) found = allFrom v w (allFrom v u found)
  | [], _, _ => rfl
  | x :: u, w, found => allFrom_append v u w (growAll v x found)

theorem allFits_snoc (u : List α) (x : α) (v : List α) : allFits (u ++ [x]) v = growAll v x (allFits u v) := by
  unfold allFits
  rw [allFrom_append]
  rfl

/-! ### what a fit is -/
structure IsFit (u v : List α) (g : List Nat) : Prop where
  len : g.length = u.length
  asc : ∀ i j a b : Nat, i < j → g[i]? = some a → g[j]? = some b → a < b
  hit : ∀ i a : Nat, g[i]? = some a → v[a]? = u[i]?

theorem okAfter_iff (fit : List Nat) (i : Nat) : okAfter fit i = true ↔ ∀ l, fit.getLast? = some l → l < i := by
  unfold okAfter
  cases h : fit.getLast? with
  | none => simp
  | some l => simp

theorem mem_growAll {v : List α} {x : α} {found : List (List Nat)} {g : List Nat} :
    g ∈ growAll v x found ↔ ∃ fit i, fit ∈ found ∧ g = fit ++ [i] ∧ v[i]? = some x ∧ okAfter fit i = true := by
  unfold growAll nexts
  simp only [List.mem_flatMap, List.mem_map, List.mem_filter, List.mem_range, Bool.and_eq_true, decide_eq_true_eq]
  constructor
  · rintro ⟨fit, hf, i, ⟨hi, hx, ho⟩, rfl⟩
    exact ⟨fit, i, hf, rfl, hx, ho⟩
  · rintro ⟨fit, i, hf, rfl, hx, ho⟩
    refine ⟨fit, hf, i, ⟨?_, hx, ho⟩, rfl⟩
    exact (List.getElem?_eq_some_iff.mp hx).1

theorem snoc_get {β : Type} (l : List β) (x : β) (i : Nat) : (l ++ [x])[i]? = if i < l.length then l[i]? else if i = l.length then some x else none := by
  rw [List.getElem?_append]
  split
  · rfl
  · split
    · rename_i h1 h2
      subst h2
      simp
    · rename_i h1 h2
      have : 1 ≤ i - l.length := by omega
      rw [List.getElem?_eq_none]
      simpa using this

theorem isFit_snoc {u v : List α} {x : α} {fit : List Nat} {i : Nat} :
    IsFit (u ++ [x]) v (fit ++ [i]) ↔ IsFit u v fit ∧ v[i]? = some x ∧ okAfter fit i = true := by
  constructor
  · intro h
    have hl : fit.length = u.length := by
      have := h.len
      simp at this
      exact this
    refine ⟨⟨hl, fun a b p q hab hp hq => ?_, fun a p hp => ?_⟩, ?_, ?_⟩
    · have h1 := (List.getElem?_eq_some_iff.mp hp).1
      have h2 := (List.getElem?_eq_some_iff.mp hq).1
      refine h.asc a b p q hab ?_ ?_
      · rw [snoc_get, if_pos h1]; exact hp
      · rw [snoc_get, if_pos h2]; exact hq
    · have h1 := (List.getElem?_eq_some_iff.mp hp).1
      have := h.hit a p (by rw [snoc_get, if_pos h1]; exact hp)
      rw [this, snoc_get, if_pos (by omega)]
    · have := h.hit fit.length i (by rw [snoc_get, if_neg (Nat.lt_irrefl _), if_pos rfl])
      rw [this, snoc_get, if_neg (by omega), if_pos (by omega)]
    · rw [okAfter_iff]
      intro l hl'
      rw [List.getLast?_eq_getElem?] at hl'
      have h1 := (List.getElem?_eq_some_iff.mp hl').1
      exact h.asc (fit.length - 1) fit.length l i (by omega) (by rw [snoc_get, if_pos h1]; exact hl') (by rw [snoc_get, if_neg (Nat.lt_irrefl _), if_pos rfl])
  · rintro ⟨h, hx, ho⟩
    rw [okAfter_iff] at ho
    have hl := h.len
    refine ⟨by simp [hl], fun a b p q hab hp hq => ?_, fun a p hp => ?_⟩
    · rw [snoc_get] at hp hq
      split at hq
      · rename_i hb
        rw [if_pos (by omega)] at hp
        exact h.asc a b p q hab hp hq
      · split at hq
        · rename_i hb hb2
          cases hq
          rw [if_pos (by omega)] at hp
          have hlast : ∃ l, fit.getLast? = some l := by
            cases e : fit.getLast? with
            | none =>
              rw [List.getLast?_eq_none_iff] at e
              subst e
              simp at hb2
              omega
            | some l => exact ⟨l, rfl⟩
          obtain ⟨l, el⟩ := hlast
          have h1 := ho l el
          by_cases e : a = fit.length - 1
          · rw [List.getLast?_eq_getElem?, ← e, hp] at el
            cases el
            exact h1
          · rw [List.getLast?_eq_getElem?] at el
            have h2 : a < fit.length := by omega
            exact Nat.lt_trans (h.asc a (fit.length - 1) p l (by omega) hp el) h1
        · cases hq
    · rw [snoc_get] at hp
      split at hp
      · rename_i h1
        rw [h.hit a p hp, snoc_get, if_pos (by omega)]
      · split at hp
        · rename_i h1 h2
          cases hp
          rw [hx, snoc_get, if_neg (by omega), if_pos (by omega)]
        · cases hp

theorem isFit_nil {v : List α} {g : List Nat} : IsFit ([] : List α) v g ↔ g = [] := by
  constructor
  · intro h
    have := h.len
    simpa using this
  · rintro rfl
    exact ⟨rfl, fun i j a b _ h => by simp at h, fun i a h => by simp at h⟩

theorem snoc_ind {β : Type} {P : List β → Prop} (h0 : P []) (h1 : ∀ l x, P l → P (l ++ [x])) : ∀ l, P l := by
  intro l
  have : ∀ r : List β, P r.reverse := by
    intro r
    induction r with
    | nil => exact h0
    | cons x r ih => rw [List.reverse_cons]; exact h1 _ _ ih
  simpa using this l.reverse

theorem mem_allFits (v : List α) : ∀ (u : List α) (g : List Nat), g ∈ allFits u v ↔ IsFit u v g := by
  refine snoc_ind (fun g => ?_) fun u x ih g => ?_
  · rw [isFit_nil]
    simp [allFits, allFrom]
  · rw [allFits_snoc, mem_growAll]
    constructor
    · rintro ⟨fit, i, hf, rfl, hx, ho⟩
      exact isFit_snoc.mpr ⟨(ih fit).mp hf, hx, ho⟩
    · intro h
      have hl := h.len
      obtain ⟨fit, i, rfl⟩ : ∃ fit i, g = fit ++ [i] := by
        rcases List.eq_nil_or_concat g with e | ⟨fit, i, e⟩
        · subst e
          simp at hl
        · exact ⟨fit, i, by rw [e]; simp⟩
      obtain ⟨h1, h2, h3⟩ := isFit_snoc.mp h
      exact ⟨fit, i, (ih fit).mpr h1, rfl, h2, h3⟩

/-! ### how many fits there are -/
def cnt (u v : List α) : Nat := (allFits u v).length

theorem cnt_nil (v : List α) : cnt ([] : List α) v = 1 := rfl

theorem growAll_nil (x : α) (found : List (List Nat)) : growAll ([] : List α) x found = [] := by
  unfold growAll nexts
  simp

theorem cnt_snoc_nil (u : List α) (x : α) : cnt (u ++ [x]) ([] : List α) = 0 := by
  unfold cnt
  rw [allFits_snoc, growAll_nil]
  rfl

def low (n : Nat) (g : List Nat) : Bool := g.all fun i => decide (i < n)

theorem filter_map_comm {β γ : Type} (f : β → γ) (p : γ → Bool) (l : List β) : (l.map f).filter p = (l.filter (p ∘ f)).map f := List.filter_map

theorem nexts_snoc (v : List α) (d x : α) (fit : List Nat) :
    nexts (v ++ [d]) x fit = nexts v x fit ++ (if d = x ∧ okAfter fit v.length = true then [v.length] else []) := by
  unfold nexts
  rw [List.length_append, List.length_singleton, List.range_succ, List.filter_append]
  congr 1
  · apply List.filter_congr
    intro i hi
    have hi' : i < v.length := List.mem_range.mp hi
    rw [snoc_get, if_pos hi']
  · rw [List.filter_cons, List.filter_nil]
    rw [snoc_get, if_neg (Nat.lt_irrefl _), if_pos rfl]
    by_cases e : d = x
    · subst e
      simp
    · simp [e]

theorem nexts_lt {v : List α} {x : α} {fit : List Nat} {i : Nat} (h : i ∈ nexts v x fit) : i < v.length := by
  unfold nexts at h
  exact List.mem_range.mp (List.mem_filter.mp h).1

theorem low_snoc (n : Nat) (fit : List Nat) (i : Nat) : low n (fit ++ [i]) = (low n fit && decide (i < n)) := by
  unfold low
  simp

theorem last_high {v : List α} {fit : List Nat} {g : List Nat} {x : α} (h : fit.getLast? = some g.length) : True := trivial

/-- the fits in v ++ [d] that lie in v are those in v, in the same order -/
theorem filter_low (v : List α) (d : α) : ∀ u : List α, (∀ g ∈ allFits u (v ++ [d]), low v.length g = true ∨ g.getLast? = some v.length) ∧ (allFits u (v ++ [d])).filter (low v.length) = allFits u v := by
  refine snoc_ind ⟨fun g hg => ?_, ?_⟩ fun u x ih => ?_
  · have : g = [] := by simpa [allFits, allFrom] using hg
    subst this
    exact .inl rfl
  · rfl
  · obtain ⟨ih1, ih2⟩ := ih
    refine ⟨fun g hg => ?_, ?_⟩
    · rw [allFits_snoc, mem_growAll] at hg
      obtain ⟨fit, i, hf, rfl, hx, ho⟩ := hg
      have hi : i < (v ++ [d]).length := (List.getElem?_eq_some_iff.mp hx).1
      simp at hi
      rcases ih1 fit hf with h | h
      · by_cases e : i < v.length
        · left
          rw [low_snoc, h, decide_eq_true e]
          rfl
        · right
          have : i = v.length := by omega
          simp [this]
      · rw [okAfter_iff] at ho
        have := ho _ h
        omega
    · rw [allFits_snoc, allFits_snoc, ← ih2]
      unfold growAll
      generalize allFits u (v ++ [d]) = L at ih1
      clear ih2
      induction L with
      | nil => rfl
      | cons fit L ihL =>
        have ih1' : ∀ g ∈ L, low v.length g = true ∨ g.getLast? = some v.length := fun g hg => ih1 g (List.mem_cons_of_mem _ hg)
        rw [List.flatMap_cons, List.filter_append, ihL ih1', List.filter_cons]
        have hsplit : ((nexts (v ++ [d]) x fit).map fun i => fit ++ [i]).filter (low v.length) = if low v.length fit = true then (nexts v x fit).map fun i => fit ++ [i] else [] := by
          rw [List.filter_map, nexts_snoc, List.filter_append]
          have h2 : ((if d = x ∧ okAfter fit v.length = true then [v.length] else []).filter (low v.length ∘ fun i => fit ++ [i])) = [] := by
            split
            · simp [low_snoc]
            · rfl
          rw [h2, List.append_nil]
          by_cases hl : low v.length fit = true
          · rw [if_pos hl]
            congr 1
            rw [List.filter_eq_self]
            intro i hi
            have := nexts_lt hi
            simp [low_snoc, hl, this]
          · rw [if_neg hl]
            have : (nexts v x fit).filter (low v.length ∘ fun i => fit ++ [i]) = [] := by
              rw [List.filter_eq_nil_iff]
              intro i hi
              simp [low_snoc, hl]
            rw [this]
            rfl
        rw [hsplit]
        by_cases hl : low v.length fit = true
        · rw [if_pos hl, if_pos hl, List.flatMap_cons]
        · rw [if_neg hl, if_neg hl, List.nil_append]

theorem sum_nexts (v : List α) (x : α) (found : List (List Nat)) : (growAll v x found).length = (found.map fun fit => (nexts v x fit).length).sum := by
  unfold growAll
  rw [List.length_flatMap]
  congr 1
  apply List.map_congr_left
  intro fit _
  rw [List.length_map]

/-- the one recurrence -/
theorem cnt_snoc_snoc (u : List α) (x : α) (v : List α) (d : α) : cnt (u ++ [x]) (v ++ [d]) = cnt (u ++ [x]) v + (if d = x then cnt u v else 0) := by
  unfold cnt
  rw [allFits_snoc, allFits_snoc, sum_nexts, sum_nexts]
  obtain ⟨h1, h2⟩ := filter_low v d u
  rw [← h2]
  generalize allFits u (v ++ [d]) = L at h1
  clear h2
  induction L with
  | nil => simp
  | cons fit L ih =>
    have h1' : ∀ g ∈ L, low v.length g = true ∨ g.getLast? = some v.length := fun g hg => h1 g (List.mem_cons_of_mem _ hg)
    rw [List.map_cons, List.sum_cons, ih h1', List.filter_cons, nexts_snoc, List.length_append]
    rcases h1 fit (List.mem_cons_self) with h | h
    · rw [if_pos h, List.map_cons, List.sum_cons, List.length_cons]
      have ho : okAfter fit v.length = true := by
        rw [okAfter_iff]
        intro l hl
        have hm : l ∈ fit := List.mem_of_getLast? hl
        unfold low at h
        have := (List.all_eq_true.mp h) l hm
        simpa using this
      by_cases e : d = x
      · simp [e, ho]
        omega
      · simp [e]
        try omega
    · have hn : ¬ low v.length fit = true := by
        intro hl
        have hm : v.length ∈ fit := List.mem_of_getLast? h
        unfold low at hl
        have := (List.all_eq_true.mp hl) _ hm
        simp at this
      have ho : okAfter fit v.length = false := by
        unfold okAfter
        rw [h]
        simp
      have h0 : nexts v x fit = [] := by
        unfold nexts
        rw [List.filter_eq_nil_iff]
        intro i hi
        have hi' := List.mem_range.mp hi
        have : okAfter fit i = false := by
          unfold okAfter
          rw [h]
          simp
          omega
        simp [this]
      rw [if_neg hn, h0, ho]
      simp

end Ka
/-! iter(t) of a tuple of texts, and x in it. -/
namespace Ka
open PySem PySem.Spec PyProof.Rows L2

theorem entry_ci : entryFor table "proto.contains_iter" = some Builtin.«proto.contains_iter» := entryFor_of_fast (by kernel_rfl)
theorem tu_nocontains : typeLookup (.type "tuple_iterator") "__contains__" = pure none := by rw [typeLookup_type, builtinLookup_eq_fast]; kernel_rfl

section
variable {prog : Program} {w : World} {A : Around} {E : Value → Shared → Prop} {s : Shared}

/-- what has become of the iterator: the text was found at j, or it is used up -/
def Went (it t : Addr) (zs : List Str) (z : Str) (i : Nat) (h h' : Heap) (b : Bool) : Prop :=
  (b = true ∧ ∃ j, i ≤ j ∧ zs[j]? = some z ∧ (∀ k, i ≤ k → k < j → zs[k]? ≠ some z) ∧ h'.IsTupleIter it t (j + 1) ∧ Heap.ExtBut it h h') ∨
  (b = false ∧ (∀ k, i ≤ k → zs[k]? ≠ some z) ∧ Heap.ExtBut it h h')

theorem ci_loop {it t : Addr} {items : Array Value} {zs : List Str} {z : Str} {tk : Tok} {R : Result → Shared → Prop} (hne : t ≠ it) (hh : A.handled = none)
    (hs : Vals (zs.map V.str) items.toList) : ∀ (n i : Nat) (s : Shared), zs.length - i = n → s.heap.IsTupleIter it t i → s.heap.IsTuple t items →
      (∀ h' b, Went it t zs z i s.heap h' b → R (.ok (.ret (.bool b))) { s with heap := h' }) → codeAny (model prog w) A (.builtin "proto.contains_iter" ⟨[.ref it, .str z tk], []⟩) R s := by
  intro n
  induction n with
  | zero =>
    intro i s hn hit ht q
    have hx : items[i]? = none := by
      have hl := hs.length
      simp only [List.length_map, Array.length_toList] at hl
      rw [Array.getElem?_eq_none_iff]
      omega
    refine codeAny_builtin entry_ci ?_
    show wpAny _ _ (pyNext (.ref it) >>= _) _ _ s
    refine wpAny_bind (wpAny_pyNext_tuple_end hh hit ht hx fun h' e => ?_)
    refine wpAny_bind (wpAny_rule (wpAny_pure ?_))
    exact q h' false (.inr ⟨rfl, fun k hk hz => by
      have := (List.getElem?_eq_some_iff.mp hz).1
      omega, e⟩)
  | succ n ih =>
    intro i s hn hit ht q
    have hi : i < zs.length := by omega
    have hz : (zs.map V.str)[i]? = some (.str zs[i]) := by
      rw [List.getElem?_map, List.getElem?_eq_getElem hi]
      rfl
    obtain ⟨u, hu, ru⟩ := hs.get hz
    obtain ⟨t1, rfl⟩ := ru
    have hx : items[i]? = some (.str zs[i] t1) := by rw [← Array.getElem?_toList]; exact hu
    refine codeAny_builtin entry_ci ?_
    show wpAny _ _ (pyNext (.ref it) >>= _) _ _ s
    refine wpAny_bind (wpAny_pyNext_tuple_item hit ht hx fun h' hit' sb => ?_)
    show wpAny _ _ (eqBool (.str zs[i] t1) (.str z tk) >>= _) _ _ _
    refine wpAny_bind (wpAny_eqBool_str ?_)
    by_cases e : zs[i] = z
    · rw [decide_eq_true e]
      refine wpAny_bind (wpAny_rule (wpAny_pure ?_))
      exact q h' true (.inl ⟨rfl, i, Nat.le_refl _, by rw [List.getElem?_eq_getElem hi, e], fun k h1 h2 => by omega, hit', sb.extBut⟩)
    · rw [decide_eq_false e]
      refine wpAny_pure ⟨Code.quiet_builtin _ (by decide +kernel), ?_⟩
      refine ih (i + 1) { s with heap := h' } (by omega) hit' (by
        obtain ⟨o, ho, r⟩ := ht
        exact ⟨o, (sb.2 t hne).trans ho, r⟩) fun h2 b g => ?_
      refine q h2 b ?_
      have lift : ∀ k, i ≤ k → k ≠ i → i + 1 ≤ k := fun k h1 h2 => by omega
      have hzi : zs[i]? ≠ some z := by
        rw [List.getElem?_eq_getElem hi]
        exact fun w => e (Option.some.inj w)
      rcases g with ⟨rfl, j, h1, h3, h4, h5, h6⟩ | ⟨rfl, h1, h3⟩
      · refine .inl ⟨rfl, j, by omega, h3, fun k a c => ?_, h5, sb.extBut.trans h6⟩
        by_cases ek : k = i
        · rw [ek]; exact hzi
        · exact h4 k (lift k a ek) c
      · refine .inr ⟨rfl, fun k a => ?_, sb.extBut.trans h3⟩
        by_cases ek : k = i
        · rw [ek]; exact hzi
        · exact h1 k (lift k a ek)

theorem contains_ti {it t : Addr} {items : Array Value} {zs : List Str} {z : Str} {tk : Tok} {i : Nat} {Q : Bool → Shared → Prop} (hne : t ≠ it) (hh : A.handled = none)
    (hs : Vals (zs.map V.str) items.toList) (hit : s.heap.IsTupleIter it t i) (ht : s.heap.IsTuple t items)
    (q : ∀ h' b, Went it t zs z i s.heap h' b → Q b { s with heap := h' }) : wpAny (model prog w) A (contains (.ref it) (.str z tk)) Q E s := by
  unfold contains
  refine wpAny_holding ?_
  show wpAny _ _ (specialOf (.ref it) "__contains__" >>= _) _ _ s
  refine wpAny_bind (wpAny_specialOf hit.typeIs tu_nocontains ?_)
  refine wpAny_ite_split (fun hab => absurd hab (by decide)) (fun _ => ?_)
  refine wpAny_bind (wpAny_callSpecialUnlessNone?_none hit.typeIs tu_nocontains ?_)
  refine wpAny_bind (wpAny_rule ?_)
  refine wpAny_bind (wpAny_tryCatch (wpAny_mono (wpAny_pyIter_tupleiter (E := fun _ _ => False) hit (Q := fun v s' => v = .ref it ∧ s' = s) ⟨rfl, rfl⟩) (fun v s' hv => ?_) fun _ _ x => x.elim))
  obtain ⟨rfl, rfl⟩ := hv
  refine wpAny_bind (wpAny_runValue (ci_loop hne hh hs _ i _ rfl hit ht fun h' b g => ?_))
  exact wpAny_pure (q h' b g)

theorem call_iter_tuple {t : Addr} {items : Array Value} {Q : Value → Shared → Prop} (ht : s.heap.IsTuple t items)
    (h : Q (.ref s.heap.objs.size) { s with heap := s.heap.push { cls := .type "tuple_iterator", data := .fields #[.ref t, .int 0 0] } }) : wpAny (model prog w) A (call (.builtin "iter") [.ref t]) Q E s := by
  refine Calls.call_function_entry (by decide +kernel) (by decide +kernel) PySem.W.kdk_entry_iter (PySem.W.kdk_args_iter _) ?_
  unfold Builtin.«iter»
  refine wpAny_bind (m := someArgs "iter" 1 2 _) (wpAny_of_eq (a := [Value.ref t]) (by first | rfl | kernel_rfl!) ?_)
  show wpAny _ _ (pyIter (.ref t) >>= _) _ _ _
  refine wpAny_bind (wpAny_pyIter_tuple ht ?_)
  exact wpAny_pure ⟨_, rfl, h⟩
end

/-- at it an iterator over the tuple at t, the next place is i -/
def TupI (t it : Addr) (i : Nat) : HO := .ext fun h => h.IsTupleIter it t i
section
variable {X : Cx}
theorem ti_ok {P : Program} {w : World} {H : Hp} {h : Heap} {t it : Addr} {i : Nat} (e : h.IsTupleIter it t i) : ObjOk P w H h it (TupI t it i) :=
  ⟨e, let ⟨o, ho, _⟩ := e; ⟨o, ho⟩, fun h1 h2 q k => let ⟨o, ho, r⟩ := q; ⟨o, k _ ho, r⟩⟩

def rIterT (K : PySem.W.Frag) (n : Nat) : List V → Hp → VK → Prop := fun xs H Q => ∃ (t : Addr) (zs : List V), xs = [.ref t] ∧ SqT K H t zs ∧ ∀ it, H it = none → n ≤ it → Q (.ref it) (upd H it (TupI t it 0))
theorem call_iterT : CallR X (.builtin "iter") (rIterT X.K X.s_0.heap.objs.size) := by
  intro pins s σ H xs us Q I r h
  obtain ⟨l, zs, rfl, hq, q⟩ := h
  obtain rfl := Vals.ref1 r
  obtain ⟨its, rv, pl, hz⟩ := I.tuple hq
  refine call_iter_tuple pl ?_
  exact ⟨.ref s.heap.objs.size, _, I.laid (t' := s.toks) (fun b u e => Heap.get?_push_of_some _ e) (Nat.le_refl _) (ti_ok ⟨_, Heap.get?_push_size _ rfl, rfl, rfl⟩), rfl, q _ (I.hok.fresh (Nat.le_refl _)) I.sz⟩

/-- x in it; where it is used up, it is forgotten -/
def rInTI (K : PySem.W.Frag) (n : Nat) : R2 := fun x y H Q => ∃ (z : Str) (it t : Addr) (zs : List Str) (i : Nat), x = .str z ∧ y = .ref it ∧ n ≤ it ∧ H it = some (TupI t it i) ∧ SqT K H t (zs.map V.str) ∧
  ((∃ j, i ≤ j ∧ zs[j]? = some z ∧ (∀ k, i ≤ k → k < j → zs[k]? ≠ some z) ∧ Q (.bl true) (upd H it (TupI t it (j + 1)))) ∨ ((∀ k, i ≤ k → zs[k]? ≠ some z) ∧ Q (.bl false) (ItX.dropH H it)))
theorem op_inTI (hc : X.calm = true) : OpR X (compareOp .In) (rInTI X.K X.s_0.heap.objs.size) := by
  intro pins s σ H x y v u Q I rx ry h
  obtain ⟨z, it, t, zs, i, rfl, rfl, hn, hit, hq, q⟩ := h
  obtain ⟨tk, rfl⟩ := rx
  cases ry
  obtain ⟨its, rv, pl, hz⟩ := I.tuple hq
  have hI : s.heap.IsTupleIter it t i := (I.hok it _ hit).1
  have hne : t ≠ it := by
    intro e
    subst e
    obtain ⟨o, ho, hc, _⟩ := hI
    obtain ⟨o', ho', hc', _⟩ := pl
    rw [ho] at ho'
    cases ho'
    rw [hc] at hc'
    revert hc'
    simp
  have mu : Mut (H it) := by rw [hit]; exact True.intro
  show wpAny _ _ (contains (.ref it) (.str z tk) >>= fun b => pure (Value.bool b)) _ _ s
  refine wpAny_bind (contains_ti hne (I.ok.hd hc) (by simpa using rv) hI pl fun h' b g => wpAny_pure ?_)
  rcases g with ⟨rfl, j, h1, h3, h4, h5, h6⟩ | ⟨rfl, h1, h3⟩
  · rcases q with ⟨j', a1, a3, a4, q⟩ | ⟨a1, _⟩
    · have e : j' = j := by
        rcases Nat.lt_trichotomy j j' with l | l | l
        · exact absurd h3 (a4 j h1 l)
        · exact l.symm
        · exact absurd a3 (h4 j' a1 l)
      subst e
      exact ⟨.bl true, _, I.write (x := it) (e := it) (t' := s.toks) mu (.inl rfl) (fun b o nb e => h6 b o nb e) (let ⟨o, ho, _⟩ := h5; ⟨o, ho⟩) (ti_ok h5), rfl, q⟩
    · exact absurd h3 (a1 j h1)
  · rcases q with ⟨j', a1, a3, a4, q⟩ | ⟨a1, q⟩
    · exact absurd a3 (h1 j' a1)
    · have I2 := ItX.inv_drop I hit
      obtain ⟨f0, f1, f2, f3, f4, f5⟩ := ItX.inv_fp I hit hn
      exact ⟨.bl false, _, I2.turned (t' := s.toks) (fun b o nb e => h3 b o nb e) f0 f1 f3 f4 f5, rfl, q⟩
end
end Ka
/-! enumerate(t) of a tuple; xs[i] op= e of a list. -/
namespace Ka
open PySem PySem.Spec PyProof.Rows L2
open AutoSeq1 (wpAny_loadPart')

theorem meets_enumerate_newT (l : Addr) (items : Array Value) (o : Obj) (ho : o.cls = .type "tuple") (hd : ∃ n, o.data = .seq items n) :
    Meets (Builtin.«enumerate.__new__» ⟨[.type "enumerate", .ref l], []⟩) (fun _ R s => s.heap.get? l = some o ∧
      R (.ok (.ret (.ref (s.heap.push { cls := .type "tuple_iterator", data := .fields #[.ref l, .int 0 0] }).objs.size)))
        { s with heap := (s.heap.push { cls := .type "tuple_iterator", data := .fields #[.ref l, .int 0 0] }).push { cls := .type "enumerate", data := .fields #[.none, .bool false, .ref s.heap.objs.size, rawInt 0, .none, .none] } }) :=
  .of_wp fun prog w A R s h => by
    obtain ⟨hp, g, d, tk, os⟩ := s; obtain ⟨hl, h⟩ := h
    obtain ⟨c, dct, dt, sl⟩ := o
    obtain ⟨n, hd⟩ := hd
    replace ho : c = .type "tuple" := ho
    replace hd : dt = .seq items n := hd
    subst ho hd
    have hsub := sub_enumerate
    have hL : Heap.IsTuple (Shared.heap ⟨hp, g, d, tk, os⟩) l items := ⟨_, hl, rfl, n, rfl⟩
    wp_walk using wpAny_loadPart' hl
    refine wpAny_stack_any fun st => wpAny_pure ?_
    split
    · rename_i c _ _ _ _ _
      cases (c == Value.type "enumerate")
      · wp_walk using wpAny_loadPart' hl, wpAny_pyIter_tuple hL
        exact ⟨_, rfl, h⟩
      · wp_walk using wpAny_loadPart' hl, wpAny_pyIter_tuple hL
        exact ⟨_, rfl, h⟩
    · wp_walk using wpAny_loadPart' hl, wpAny_pyIter_tuple hL
      exact ⟨_, rfl, h⟩

section
variable {prog : Program} {w : World} {A : Around} {E : Value → Shared → Prop} {s : Shared}
theorem call_enumerate_tuple {l : Addr} {items : Array Value} {Q : Value → Shared → Prop} (hL : s.heap.IsTuple l items)
    (h : ∀ h', IsEnum h' (s.heap.objs.size + 1) s.heap.objs.size 0 .none → h'.IsTupleIter s.heap.objs.size l 0 → h'.objs.size = s.heap.objs.size + 2 →
      (∀ b o, s.heap.get? b = some o → h'.get? b = some o) → Q (.ref (s.heap.objs.size + 1)) { s with heap := h' }) :
    wpAny (model prog w) A (call (.type "enumerate") [.ref l]) Q E s := by
  obtain ⟨o, hl, hc, hd⟩ := hL
  refine callType_new F.called_enumerate (by decide) (F.typeCall_enumerate_1 _) (F.newCall_enumerate_1 _) (fun obj => F.args_object_init_2 obj _) F.entry_enumerate_new
    (meets_enumerate_newT l items o hc hd) ⟨hl, ?_⟩
  have hz : (s.heap.push { cls := .type "tuple_iterator", data := .fields #[.ref l, .int 0 0] }).objs.size = s.heap.objs.size + 1 := Heap.size_push ..
  show _ ∧ _
  rw [hz]
  have he : IsEnum ((s.heap.push { cls := .type "tuple_iterator", data := .fields #[.ref l, .int 0 0] }).push
      { cls := .type "enumerate", data := .fields #[.none, .bool false, .ref s.heap.objs.size, rawInt 0, .none, .none] }) (s.heap.objs.size + 1) s.heap.objs.size 0 .none := by
    have := Heap.get?_push_size (s.heap.push { cls := .type "tuple_iterator", data := .fields #[.ref l, .int 0 0] })
      (o := { cls := .type "enumerate", data := .fields #[.none, .bool false, .ref s.heap.objs.size, rawInt 0, .none, .none] }) rfl
    rw [hz] at this; exact this
  refine ⟨⟨_, he, rfl⟩, h _ he ⟨_, Heap.get?_push_of_some _ (Heap.get?_push_size _ rfl), rfl, rfl⟩ (by rw [Heap.size_push, hz]) fun b o x => Heap.get?_push_of_some _ (Heap.get?_push_of_some _ x)⟩
end

/-- the tuple at a, each item in a new pair -/
def Iet (K : PySem.W.Frag) (a : Addr) : It :=
  ⟨fun i H => ∃ (xs : List V) (x : V), SqT K H a xs ∧ xs[i]? = some x, fun i H v H' => ∃ T x, v = .ref T ∧ H T = none ∧ H' = upd H T (.tup [.int (i : Nat), x]) ∧ ∀ xs, SqT K H a xs → xs[i]? = some x, fun i H => ∃ xs : List V, SqT K H a xs ∧ xs.length ≤ i⟩
theorem turn_enumT {P : Program} {w : World} {K : PySem.W.Frag} {elts : List Expr} {kk : Nat} {tpos : Pos} (a e it : Addr) (hae : a ≠ e) (hai : a ≠ it) (len : Nat) :
    Turn P w K (.Tuple elts kk tpos) (Iet K a) [e, it] e (fun i h => (∃ old, IsEnum h e it ((i : Nat) : Int) old) ∧ h.IsTupleIter it a i ∧ e ≠ it) where
  mem := by simp
  obj := fun i h st b hb => by
    obtain ⟨⟨old, he⟩, ⟨o, ho, hc, hd⟩, _⟩ := st
    have e' : b = e ∨ b = it := by simpa using hb
    rcases e' with z | z
    · rw [z]; exact ⟨_, he, fun v q => nomatch q⟩
    · rw [z]; exact ⟨o, ho, fun v q => by rw [hd] at q; cases q⟩
  keep := fun i h h' st k => let ⟨⟨old, he⟩, hi, hne⟩ := st; ⟨⟨old, k e (by simp) _ he⟩, hi.at fun o q => k it (by simp) o q, hne⟩
  item := by
    intro X hP hw hK hc i pins s σ H E I hf st hg
    subst hP hw hK
    obtain ⟨⟨old, he⟩, hit, hne⟩ := st
    obtain ⟨xs, x, hq, hx⟩ := hg
    obtain ⟨its, rv, p, hz⟩ := I.tuple hq
    obtain ⟨u, hu, ru⟩ := rv.get hx
    have hel : e < s.heap.objs.size := Heap.lt_size he
    have hil : it < s.heap.objs.size := by obtain ⟨_, q, _⟩ := hit; exact Heap.lt_size q
    have hit0 : i < its.toArray.size := by
      have := (List.getElem?_eq_some_iff.mp hu).1
      simpa using this
    refine wpAny_pyNext_enum_itemD (Draws.tuple (A := X.A.in1) (by first | exact I.ok.hd hc | (show X.A.handled = none; exact I.ok.hd hc)) it a hai its.toArray) he ⟨hit, p⟩ hit0 hne (by simp [hne, Ne.symm hae]) fun x' h' tk hx' ho hst hT hsz hk => ?_
    have ex : x' = u := by
      have h2 : its.toArray[i]? = some u := by simpa using hu
      rw [h2] at hx'
      exact (Option.some.inj hx').symm
    subst ex
    refine ⟨_, rfl, wpAny_letOwnedTupleGo_enum (s := { s with heap := h', toks := tk + 1 }) ho fun h'' he' sb => ?_⟩
    have hT2 : h''.get? s.heap.objs.size = some { cls := .type "tuple", data := .seq #[.int i tk, x'] } := (sb.2 _ (Nat.ne_of_gt hel)).trans hT
    have new : ObjOk X.prog X.w (upd H s.heap.objs.size (.tup [.int (i : Nat), x])) h'' s.heap.objs.size (.tup [.int (i : Nat), x]) :=
      ⟨by show 2 ≤ sizeLine; decide, [.int i tk, x'], .cons ⟨_, rfl⟩ (.cons ru .nil), ⟨_, hT2, rfl, _, rfl⟩⟩
    have I1 : Inv X pins σ (upd H s.heap.objs.size (.tup [.int (i : Nat), x])) { s with heap := h'', toks := tk + 1 } :=
      I.turnedNew (ch := [e, it]) (fun b ob hb q => (sb.2 b (fun z => hb (by simp [z]))).trans (hk b ob (fun z => hb (by simp [z])) (fun z => hb (by simp [z])) q)) hf (Nat.le_refl _) new
    refine ⟨.ref s.heap.objs.size, _, I1, rfl, ⟨_, x, rfl, I.hok.fresh (Nat.le_refl _), rfl, fun ys hy => by rw [I.tuple_inj hy hq]; exact hx⟩, ⟨⟨x', ?_⟩, hst.1.at fun o q => (sb.2 it (Ne.symm hne)).trans q, hne⟩, fun b hb => ?_⟩
    · have e1 : ((i + 1 : Nat) : Int) = (i : Int) + 1 := by omega
      rw [e1]; exact he'
    · have hb' : b < s.heap.objs.size := by
        have e' : b = e ∨ b = it := by simpa using hb
        rcases e' with z | z
        · rw [z]; exact hel
        · rw [z]; exact hil
      rw [upd_ne (Nat.ne_of_lt hb')]
      exact (hf b hb).1
  done := by
    intro X hP hw hK hc i pins s σ H E I hf st hg
    subst hP hw hK
    obtain ⟨⟨old, he⟩, hit, hne⟩ := st
    obtain ⟨xs, hq, hx⟩ := hg
    obtain ⟨its, rv, p, hz⟩ := I.tuple hq
    obtain ⟨f0, f1, f2, f3, f4, f5⟩ := hf it (by simp)
    have hl := rv.length
    have hT : s.TypeIs (.ref e) "enumerate" := ⟨_, he, rfl⟩
    unfold pyNext
    refine wpAny_bind (wpAny_attempt (wpAny_callSpecial?_slot (name := Str.ofString "__next__") hT F.slot_enumerate_next
      (wpAny_call_entry F.slot_enumerate_next hT F.entry_enumerate_next ?_ (F.args_enumerate_next_1 _))))
    show wpAny _ _ (field (.ref e) 2 >>= _) _ _ _
    refine wpAny_bind (wpAny_field he rfl (x := .ref it) rfl ?_)
    refine wpAny_bind (wpAny_nextOf_tuple_end (by first | exact I.ok.hd hc | (show X.A.handled = none; exact I.ok.hd hc)) hit p (by rw [Array.getElem?_eq_none_iff]; simp; omega) fun h' x he' hx' => ?_)
    obtain ⟨o, ho, hc'⟩ := hx'
    refine wpAny_bind (wpAny_isInstance (T := "StopIteration") (b := true) ⟨o, ho, hc'⟩ isSubtype_stop ?_)
    exact wpAny_pure ⟨rfl, I.turned (t' := s.toks) (fun b o hb q => he' b o hb q) f0 f1 f3 f4 f5⟩
  self := fun A i s Q E st h => let ⟨⟨_, he⟩, _⟩ := st; wpAny_pyIter_enum he h
def iEnumT (K : PySem.W.Frag) (ta : TA) : TI := fun σ H R => ta σ H fun vs H1 => ∃ a xs, vs = [.ref a] ∧ SqT K H1 a xs ∧ R (Iet K a) H1
theorem pi_enumT {X : Cx} {e : Expr} {ta : TA} {p pos tpos : Pos} {elts : List Expr} {kk : Nat} (hg : Gl X "enumerate") (hm : X.mg "enumerate" = none) (ha : PA X [e] ta) (hs : starEach [e] X.env = [(false, eval e X.env)] := by rfl) :
    PI X (.Tuple elts kk tpos) (.Call (.Name "enumerate" p) [e] [] pos) (iEnumT X.K ta) := by
  refine ⟨fun pins s σ H R I h => ?_⟩
  refine Call_ (ld_blt I hg hm boot_enumerate (PyProof.Rows.callWith_type1 (thn (ha.run pos pins s σ H _ I h) fun us s1 ⟨vs, H1, I1, r1, q1⟩ => ?_) hs rfl))
  obtain ⟨a, xs, ex, hq, q⟩ := q1
  subst ex
  cases r1 with
  | cons r rr =>
    cases rr
    cases r
    obtain ⟨its, rv, p', hz⟩ := I1.tuple hq
    have hal : a < s1.heap.objs.size := by obtain ⟨_, z, _⟩ := p'; exact Heap.lt_size z
    refine call_enumerate_tuple p' fun h' he hit hsz hk => wpAny_pyIter_enum he ?_
    have I2 : Inv X pins σ H1 { s1 with heap := h' } := I1.kept (t' := s1.toks) hk
    refine ⟨s1.heap.objs.size + 1, [s1.heap.objs.size + 1, s1.heap.objs.size], _, _, H1, rfl, I2, turn_enumT a (s1.heap.objs.size + 1) s1.heap.objs.size (Nat.ne_of_lt (Nat.lt_succ_of_lt hal)) (Nat.ne_of_lt hal) 0, ⟨⟨.none, he⟩, hit, Nat.succ_ne_self _⟩, fun b hb => ?_, q⟩
    have e' : b = s1.heap.objs.size + 1 ∨ b = s1.heap.objs.size := by simpa using hb
    have hle : s1.heap.objs.size ≤ b := by
      rcases e' with z | z
      · rw [z]; exact Nat.le_add_right _ _
      · rw [z]; exact Nat.le_refl _
    exact I1.fpOk hle (I1.hok.fresh hle)

/-- a loop over enumerate(t), by one word a turn -/
theorem for_enumT {K : PySem.W.Frag} {a : Addr} {xs : List V} {g : TG} {tb : TS} {D : Ends} {σ : L2.St} {H : Hp} (Pv : Nat → L2.St → Hp → Prop) (h0 : Pv 0 σ H) (hl : ∀ i σ H, Pv i σ H → SqT K H a xs)
    (hs : ∀ i x T σ H, xs[i]? = some x → Pv i σ H → H T = none → g (.ref T) σ (upd H T (.tup [.int (i : Nat), x])) fun σ2 H2 => tb { D with nx := Pv (i + 1), ct := Pv (i + 1), bk := D.nx } σ2 H2)
    (hd : ∀ σ H, Pv xs.length σ H → D.nx σ H) :
    ∃ W : Nat → Nat → L2.St → Hp → Prop, (∃ m, W 0 m σ H) ∧ ∀ i m σ H, W i m σ H →
      ((Iet K a).stop i H ∧ D.nx σ H) ∨ ((Iet K a).go i H ∧ ∃ N : L2.St → Hp → Prop, (∀ σ' H', N σ' H' → ∃ m', m' < m ∧ W (i + 1) m' σ' H') ∧ ∀ x H', (Iet K a).yld i H x H' → g x σ H' fun σ2 H2 => tb { D with nx := N, ct := N, bk := D.nx } σ2 H2) := by
  refine ⟨fun i m σ H => m = xs.length - i ∧ i ≤ xs.length ∧ Pv i σ H, ⟨_, rfl, Nat.zero_le _, h0⟩, ?_⟩
  rintro i m σ H ⟨rfl, hi, p⟩
  have q := hl i σ H p
  by_cases hlt : i < xs.length
  · refine .inr ⟨⟨xs, xs[i], q, List.getElem?_eq_getElem hlt⟩, Pv (i + 1), fun σ' H' p' => ⟨xs.length - (i + 1), by omega, rfl, hlt, p'⟩, fun x H' y => ?_⟩
    obtain ⟨T, z, rfl, nT, rfl, hz⟩ := y
    exact hs i z T σ H (hz xs q) p nT
  · have e : i = xs.length := by omega
    refine .inl ⟨⟨xs, q, Nat.le_of_eq e.symm⟩, hd σ H ?_⟩
    rw [← e]
    exact p

/-! ### xs[i] op= e -/
def gtL (K : PySem.W.Frag) : V → V → Hp → VK → Prop := fun x y H Q => ∃ p xs j v, x = .ref p ∧ y = .int ((j : Nat) : Int) ∧ SqL K H p xs ∧ j < 2 ^ 62 ∧ xs[j]? = some v ∧ Q v H
theorem get_list {X : Cx} : PGet X (gtL X.K) := by
  intro pins s σ H o i ov iv Q I ro ri h
  obtain ⟨p, xs, j, v, rfl, rfl, hq, hj, hv, q⟩ := h
  cases ro
  obtain ⟨t, rfl⟩ := ri
  obtain ⟨its, r, pl, hz⟩ := I.list hq
  obtain ⟨u, hu, ru⟩ := r.get hv
  exact wpAny_getItem_list pl.isList (by omega) (by omega) (by simpa using hu) ⟨v, H, I, ru, q⟩
end Ka
/-! t[::-1] of a tuple. -/
namespace Ka
open PySem PySem.Spec PyProof.Rows L2 HT

theorem back_places (n : Nat) : Builtin.Slice.slicePlaces ((n : Int) - 1) (-1) (-1) = n := by
  unfold Builtin.Slice.slicePlaces
  rw [if_neg (by decide)]
  by_cases h : n = 0
  · subst h
    rfl
  · rw [if_pos (by omega)]
    have e : ((n : Int) - 1 - -1 - 1) / (- -1) + 1 = n := by
      rw [show (-(-1 : Int)) = 1 by decide, Int.ediv_one]
      omega
    rw [e]
    exact Int.toNat_natCast n

theorem back_some (xs : Array Value) (f : Nat → Option Value) (hf : ∀ k, k < xs.size → f k = xs.toList.reverse[k]?) : ∀ l : List Nat, (∀ k ∈ l, k < xs.size) → l.filterMap f = l.map fun k => xs.toList.reverse[k]?.getD .none
  | [], _ => rfl
  | k :: l, h => by
    have hk : k < xs.size := h k List.mem_cons_self
    have h2 : k < xs.toList.reverse.length := by simpa using hk
    rw [List.filterMap_cons, hf k hk, List.map_cons, back_some xs f hf l fun j hj => h j (List.mem_cons_of_mem _ hj), List.getElem?_eq_getElem h2]
    rfl
theorem back_items (xs : Array Value) : ((List.range xs.size).filterMap fun (k : Nat) => xs[((xs.size : Int) - 1 + (k : Int) * -1).toNat]?) = xs.toList.reverse := by
  rw [back_some xs _ (fun k hk => ?_) _ fun k hk => List.mem_range.mp hk]
  · apply List.ext_getElem?
    intro i
    rw [List.getElem?_map]
    by_cases hi : i < xs.size
    · have h2 : i < xs.toList.reverse.length := by simpa using hi
      rw [List.getElem?_range hi, Option.map_some, List.getElem?_eq_getElem h2]
      rfl
    · rw [List.getElem?_eq_none (by simpa using hi), List.getElem?_eq_none (by simpa using hi)]
      rfl
  · have e : ((xs.size : Int) - 1 + (k : Int) * -1).toNat = xs.size - 1 - k := by omega
    rw [e, List.getElem?_reverse (by simpa using hk), Array.length_toList, Array.getElem?_toList]

section
variable {prog : Program} {w : World} {A : Around} {E : Value → Shared → Prop} {s : Shared}
theorem applied_back {sl : Addr} {vl vu vs : Value} {n : Nat} {Q : Int × Int × Nat → Shared → Prop} (hs : s.heap.IsSliceOf sl vl vu vs) (pl : IsPart vl none) (pu : IsPart vu none) (ps : IsPart vs (some (-1)))
    (h : Q ((n : Int) - 1, -1, n) s) : wpAny (model prog w) A (Builtin.Slice.sliceApplied (.ref sl) (pure (n : Int))) Q E s := by
  obtain ⟨o, ho, _, hd⟩ := hs
  unfold Builtin.Slice.sliceApplied Builtin.Slice.sliceFields
  refine wpAny_bind (wpAny_bind (wpAny_field ho hd (x := vl) rfl (wpAny_bind (wpAny_field ho hd (x := vu) rfl (wpAny_bind (wpAny_field ho hd (x := vs) rfl (wpAny_pure ?_)))))))
  refine wpAny_bind (slicePart_ ps ?_)
  refine wpAny_ite_split (fun z => absurd z (by decide)) fun _ => ?_
  refine wpAny_bind (slicePart_ pl (wpAny_bind (slicePart_ pu (wpAny_bind (wpAny_pure (wpAny_pure ?_))))))
  have e : Builtin.Slice.slicePlaces ((n : Int) - 1) (-1) (-1) = n := back_places n
  show Q ((n : Int) - 1, -1, Builtin.Slice.slicePlaces ((n : Int) - 1) (-1) (-1)) s
  rw [e]
  exact h

theorem getItem_back {t sl : Addr} {items : Array Value} {vl vu vs : Value} {Q : Value → Shared → Prop} (ht : IsTup s.heap t items) (hs : s.heap.IsSliceOf sl vl vu vs) (pl : IsPart vl none) (pu : IsPart vu none) (ps : IsPart vs (some (-1)))
    (hz : items.size ≤ sizeLine) (h : Q (.ref s.heap.objs.size) { s with heap := s.heap.push { cls := .type "tuple", data := .seq items.toList.reverse.toArray } }) : wpAny (model prog w) A (getItem (.ref t) (.ref sl)) Q E s := by
  have hT : s.TypeIs (.ref sl) "slice" := let ⟨o, ho, hc, _⟩ := hs; ⟨o, ho, hc⟩
  have hok : sizeOk (.seq items.toList.reverse.toArray) := by
    show items.toList.reverse.toArray.size ≤ sizeLine
    simpa using hz
  unfold getItem
  try with_reducible refine wpAny_holding ?_
  first | refine wpAny_bind (wpAny_pure ?_) | skip
  refine wpAny_bind (wpAny_sequenceKey ht.typeIs (by decide) ?_)
  refine wpAny_bind (wpAny_callSpecial?_slot (name := Str.ofString "__getitem__") ht.typeIs PyProof.Rows.slot_tuple_getitem
    (wpAny_call_entry PyProof.Rows.slot_tuple_getitem ht.typeIs entry_tuple_getitem ?_ (args_tuple_getitem _ _)))
  show wpAny _ _ (Builtin.Tuple.tupleItemsOf (.ref t) >>= _) _ _ s
  refine wpAny_bind (tupleItemsOf_ ht (wpAny_bind (wpAny_typeOf hT ?_)))
  rw [if_pos (by decide)]
  refine wpAny_bind (applied_back hs pl pu ps ?_)
  refine wpAny_ite_split (fun z => ?_) fun _ => ?_
  · exfalso
    simp at z
  · rw [back_items]
    first
      | exact wpAny_bind (m := Builtin.Tuple.tupleExact _) (wpAny_newObj_type (wpAny_pure ⟨_, rfl, wpAny_pure h⟩) hok)
      | exact wpAny_bind (m := Builtin.Tuple.tupleExact _) (wpAny_newObj_type (wpAny_bind (wpAny_pure (wpAny_pure ⟨_, rfl, wpAny_pure h⟩))) hok)
      | exact wpAny_bind (wpAny_bind (m := Builtin.Tuple.tupleExact _) (wpAny_newObj_type (wpAny_pure (wpAny_pure ⟨_, rfl, wpAny_pure h⟩)) hok))
      | exact wpAny_bind (wpAny_bind (m := Builtin.Tuple.tupleExact _) (wpAny_newObj_type (wpAny_pure ⟨_, rfl, wpAny_pure h⟩) hok))
end

def tRevT (K : PySem.W.Frag) (te : TE) : TE := fun σ H Q => te σ H fun x H1 => ∃ a xs, x = .ref a ∧ SqT K H1 a xs ∧ ∀ p, H1 p = none → Q (.ref p) (upd H1 p (.tup xs.reverse))
theorem pe_revT {X : Cx} {e : Expr} {te : TE} {k : Nat} {p1 p2 p3 pos : Pos} (he : PE X e te) : PE X (.Subscript e (.Slice none none (some (.UnaryOp .USub (.Constant (.int 1) k p1) p2)) p3) pos) (tRevT X.K te) := by
  refine ⟨fun pins s σ H Q I h => Subscript_ (thn (he.run pins s σ H _ I h) fun v s1 ⟨x, H1, I1, r1, a, xs, ex, hx, q⟩ => ?_)⟩
  subst ex
  cases r1
  have hm : PO X (some (.UnaryOp .USub (.Constant (.int 1) k p1) p2)) (tPart (tUn (rU fun i => .int (-i)) (tC (.int 1)))) := po_some (pe_un un_neg pe_int)
  refine wpAny_Slice (thn (po_none.run pins s1 σ H1 (fun o H2 => o = none ∧ H2 = H1) I1 ⟨rfl, rfl⟩) fun vl s2 ⟨l, H2, I2, pl, el, e2⟩ => ?_)
  subst el e2
  refine thn (po_none.run pins s2 σ H2 (fun o H3 => o = none ∧ H3 = H2) I2 ⟨rfl, rfl⟩) fun vu s3 ⟨u, H3, I3, pu, eu, e3⟩ => ?_
  subst eu e3
  refine thn (hm.run pins s3 σ H3 (fun o H4 => o = some (-1) ∧ H4 = H3) I3 ⟨1, rfl, -1, rfl, rfl, rfl⟩) fun vs s4 ⟨o, H4, I4, ps, eo, e4⟩ => ?_
  subst eo e4
  have I5 : Inv X pins σ H4 { s4 with heap := s4.heap.push { cls := .type "slice", data := .fields #[vl, vu, vs] } } := I4.kept (t' := s4.toks) fun b ob z => Heap.get?_push_of_some _ z
  obtain ⟨its, r, ht, hz⟩ := I5.tuple hx
  have hl := r.length
  show wpAny (model X.prog X.w) X.A (subscriptTail e (.Slice none none (some (.UnaryOp .USub (.Constant (.int 1) k p1) p2)) p3) (.ref a) (.ref s4.heap.objs.size)) (EP X pins σ Q) X.xe { s4 with heap := s4.heap.push { cls := .type "slice", data := .fields #[vl, vu, vs] } }
  refine tail_any (ops := [.ref a, .ref s4.heap.objs.size]) ht.typeIs PyProof.Rows.slot_tuple_getitem.lookup ?_ (by with_unfolding_all rfl)
  refine getItem_back ht (Heap.IsSliceOf.new _ vl vu vs) pl pu ps (by rw [List.size_toArray]; omega) ?_
  refine ⟨.ref _, _, I5.laid (t' := s4.toks) (o := .tup xs.reverse) (fun b ob z => Heap.get?_push_of_some _ z) (Nat.le_refl _) ?_, rfl, q _ (I5.hok.fresh (Nat.le_refl _))⟩
  exact ⟨by rw [List.length_reverse]; exact hz, _, r.reverse, IsTup.new _ _⟩
end Ka
/-! sorted(rows, key=f), f(row) = (len(row), row), rows of texts. -/
namespace Ka
open PySem PySem.Spec PyProof.Rows L2 PySem.W

/-- a row of texts as data, and its key -/
def rowD (r : List Str) : PyData := .tuple (r.map .str)
def keyOf (r : List Str) : PyData := .tuple [.int r.length, rowD r]
/-- the order of rows -/
def rowLe : List Str → List Str → Bool := dataLe false keyOf

theorem reads_strs {h : Heap} : ∀ {zs : List Str} {us : List Value}, Vals (zs.map V.str) us → ReadsAll h us (zs.map .str) []
  | [], [], _ => .nil
  | z :: zs, u :: us, r => by
    cases r with
    | cons a b =>
      obtain ⟨t, rfl⟩ := a
      exact ReadsAll.cons (as := []) (bs := []) (.str z t) (reads_strs b)
  | [], _ :: _, r => nomatch r
  | _ :: _, [], r => nomatch r

theorem alike_strs : ∀ (a b : List Str), alikeAll (a.map PyData.str) (b.map PyData.str) = true
  | [], _ => by simp [alikeAll]
  | _ :: _, [] => by simp [alikeAll]
  | x :: a, y :: b => by
    rw [List.map_cons, List.map_cons, alikeAll, alike_strs a b]
    simp [alike]
theorem alike_keys (a b : List Str) : alike (keyOf a) (keyOf b) = true := by
  unfold keyOf rowD
  simp [alike, alikeAll, alike_strs]
theorem depth_strs : ∀ a : List Str, PyData.depthAll (a.map PyData.str) ≤ 1
  | [] => by simp [PyData.depthAll]
  | x :: a => by
    have := depth_strs a
    rw [List.map_cons]
    simp only [PyData.depthAll, PyData.depth]
    omega
theorem depth_key (a : List Str) : (keyOf a).depth ≤ 3 := by
  have := depth_strs a
  unfold keyOf rowD
  simp only [PyData.depth, PyData.depthAll]
  omega

section
variable {prog : Program} {w : World} {A : Around} {E : Value → Shared → Prop} {s : Shared}
/-- what the tuple (len(x), x) is worth, where x holds a row -/
theorem key_expr {env : Env} {a : Addr} {zs : List Str} {its : List Value} {x : Str} {p1 p2 p3 p4 p5 : Pos} {k : Nat} (hsx : starEach [.Name x p2] env = [(false, eval (.Name x p2) env)])
    (hst : starEach [.Call (.Name "len" p1) [.Name x p2] [] p3, .Name x p4] env = [(false, eval (.Call (.Name "len" p1) [.Name x p2] [] p3) env), (false, eval (.Name x p4) env)])
    (hrow : ∀ (p : Pos) (Q : Value → Shared → Prop) (tk : Nat), Q (.ref a) { s with toks := tk } → wpAny (model prog w) A (eval (.Name x p) env) Q E { s with toks := tk })
    (hlen : ∀ (Q : Value → Shared → Prop), Q (.builtin "len") s → wpAny (model prog w) A (eval (.Name "len" p1) env) Q E s)
    (rv : Vals (zs.map V.str) its) (ht : IsTup s.heap a its.toArray) (hz : zs.length ≤ sizeLine) : wpAny (model prog w) A (eval (.Tuple [.Call (.Name "len" p1) [.Name x p2] [] p3, .Name x p4] k p5) env) (KeyPure (keyOf zs) s) E s := by
  have hl := rv.length
  have hs : sizeLine = 16777216 := sizeLine_eq
  rw [List.length_map] at hl
  refine wpAny_Tuple_spliced ?_
  rw [hst]
  refine Calls.spliced_cons (wpAny_Call_Name_kw (hlen _ (PyProof.Rows.callWith_builtin1 ?_ (by rw [hsx]; rfl) rfl)))
  rw [hsx]
  refine Calls.spliced_cons (hrow p2 _ s.toks (Calls.spliced_nil ?_))
  refine len_tuple ht (by rw [List.size_toArray]; omega) ?_
  refine Calls.spliced_cons (hrow p4 _ _ (Calls.spliced_nil ⟨by show 2 ≤ sizeLine; rw [hs]; decide, ?_⟩))
  refine ⟨_, _, rfl, fun b o e => Heap.get?_push_of_some _ e, ?_⟩
  refine Reads.tuple (Heap.get?_push_size _ rfl) rfl rfl (ReadsAll.cons (as := []) (bs := []) ?_ (ReadsAll.cons (as := []) (bs := []) ?_ .nil))
  · have e : ((its.toArray.size : Nat) : Int) = zs.length := by rw [List.size_toArray, hl]
    rw [e]
    exact .int _ _
  · obtain ⟨o, ho, hc, n, hd⟩ := ht
    exact Reads.keeps (fun b o e => Heap.get?_push_of_some _ e) (Reads.tuple ho hc hd (reads_strs rv))

/-- the frame of such a def: where its names are found -/
theorem key_frame {scope : Scope} {qual x : Str} {f a : Addr} {cd : Value} {clos : List (Str × Addr)} {mg mb : Str → Option Value} {zs : List Str} {its : List Value} {p1 p2 p3 p4 p5 : Pos} {k : Nat} {h₁ : Heap} {tk : Nat}
    (hk : scope.kind = .function) (hx : scope.names.lookup x = some .local) (hl : scope.names.lookup ("len" : Str) = some .globalImplicit) (hdx : (x == ("__debug__" : Str)) = false)
    (hg : s.heap.Ns mainGlobals mg) (hm : mg ("len" : Str) = none) (hb : s.heap.Ns builtinsNs mb) (hv : mb ("len" : Str) = some (.builtin "len"))
    (hns : h₁.Ns s.heap.objs.size fun y => [(x, Value.ref a)].reverse.lookup y) (kp : ∀ b o, s.heap.get? b = some o → h₁.get? b = some o) (rv : Vals (zs.map V.str) its) (ht : IsTup s.heap a its.toArray) (hz : zs.length ≤ sizeLine) :
    wpAny (model prog w) A (eval (.Tuple [.Call (.Name "len" p1) [.Name x p2] [] p3, .Name x p4] k p5) (newEnv scope s.heap.objs.size mainGlobals clos qual (some f) cd none builtinsNs)) (KeyPure (keyOf zs) s) E { s with heap := h₁, toks := tk } := by
  have nsk : ∀ {b : Addr} {m : Str → Option Value}, s.heap.Ns b m → h₁.Ns b m := fun ⟨o, es, ep, e, r⟩ => ⟨o, es, ep, kp _ _ e, r⟩
  have hrow : ∀ (p : Pos) (Q : Value → Shared → Prop) (tk' : Nat), Q (.ref a) { s with heap := h₁, toks := tk' } → wpAny (model prog w) A (eval (.Name x p) (newEnv scope s.heap.objs.size mainGlobals clos qual (some f) cd none builtinsNs)) Q E { s with heap := h₁, toks := tk' } :=
    fun p Q tk' q => wpAny_Name (wpAny_loadName_local (m := fun y => [(x, Value.ref a)].reverse.lookup y) hk hx hns (by simp) q) hdx
  have hlen : ∀ (Q : Value → Shared → Prop), Q (.builtin "len") { s with heap := h₁, toks := tk } → wpAny (model prog w) A (eval (.Name "len" p1) (newEnv scope s.heap.objs.size mainGlobals clos qual (some f) cd none builtinsNs)) Q E { s with heap := h₁, toks := tk } :=
    fun Q q => Calls.Name_function_global hk hl (Calls.loadGlobal_builtin (nsk hg) hm (nsk hb) hv q) (by decide)
  have ht' : IsTup h₁ a its.toArray := let ⟨o, ho, r⟩ := ht; ⟨o, kp _ _ ho, r⟩
  refine wpAny_mono (key_expr (s := { s with heap := h₁, toks := tk }) (by rfl) (by rfl) hrow hlen rv ht' hz) (fun v s' q => ?_) fun _ _ e => e
  obtain ⟨h', tk', rfl, k', r⟩ := q
  exact ⟨h', tk', rfl, fun b o e => k' b o (kp b o e), r⟩

/-- def f(x): return (len(x), x) -/
theorem call_keyDef {name qual : Str} {params : Arguments} {scope : Scope} {dV kV doc pm cdv ct : Value} {an : Option Addr} {x : Str} {f a : Addr} {o : Obj} {mg mb : Str → Option Value} {zs : List Str} {its : List Value} {p1 p2 p3 p4 p5 p6 : Pos} {k : Nat}
    (ho : s.heap.get? f = some o) (hd : o.data = .func (fnOf name qual params [.Return (some (.Tuple [.Call (.Name "len" p1) [.Name x p2] [] p3, .Name x p4] k p5)) p6] scope dV kV doc pm an cdv ct))
    (hroom : A.depth < recursionLimit) (hlim : s.heap.NoLimit) (hcd : s.heap.CodeRec cdv qual) (hbind : bindArgs (fnOf name qual params [.Return (some (.Tuple [.Call (.Name "len" p1) [.Name x p2] [] p3, .Name x p4] k p5)) p6] scope dV kV doc pm an cdv ct) ⟨[.ref a], []⟩ = pure [(x, .ref a)])
    (hk : scope.kind = .function) (hco : scope.isCoroutine = false) (hge : scope.isGenerator = false) (hc : ∀ y ∈ scope.names, y.2 ≠ .cell) (hx : scope.names.lookup x = some .local) (hl : scope.names.lookup ("len" : Str) = some .globalImplicit) (hdx : (x == ("__debug__" : Str)) = false)
    (hg : s.heap.Ns mainGlobals mg) (hm : mg ("len" : Str) = none) (hb : s.heap.Ns builtinsNs mb) (hv : mb ("len" : Str) = some (.builtin "len")) (rv : Vals (zs.map V.str) its) (ht : IsTup s.heap a its.toArray) (hz : zs.length ≤ sizeLine) :
    wpAny (model prog w) A (call (.ref f) [.ref a]) (KeyPure (keyOf zs) s) E s := by
  refine wpAny_call (codeAny_mono (R := fun r s' => ∃ v, r = .ok (.ret v) ∧ KeyPure (keyOf zs) s v s') ?_ fun r s' ⟨v, e, q⟩ => by subst e; exact q)
  refine codeAny_call_function hroom ho hd hco hge rfl hcd ?_
  rw [hbind]
  refine wpAny_pure (wpAny_newFunctionEnv hc (fun y hy => by
    have e : y = (x, Value.ref a) := by simpa using hy
    rw [e]
    exact hx) (fun h₁ hns hsb => ⟨hlim.fresh _ hsb, ?_⟩) hk)
  refine codeAny_func (wpAny_execs_cons (wpAny_Return_some ?_))
  refine wpAny_mono (key_frame (E := fun _ _ => False) hk hx hl hdx hg hm hb hv hns (fun b o' e => hsb.extBut b o' (Nat.ne_of_lt (Heap.lt_size e)) (Heap.get?_push_of_some _ e)) rv ht hz) (fun v s' q => ⟨v, rfl, q⟩) fun _ _ z => z.elim

/-- lambda x: (len(x), x) -/
theorem call_keyLam {name qual : Str} {params : Arguments} {scope : Scope} {pm ct : Value} {c' : Addr} {x : Str} {f a : Addr} {clos : List (Str × Addr)} {mg mb : Str → Option Value} {zs : List Str} {its : List Value} {p1 p2 p3 p4 p5 : Pos} {k : Nat}
    (ho : s.heap.get? f = some (kla_obj name qual params (.Tuple [.Call (.Name "len" p1) [.Name x p2] [] p3, .Name x p4] k p5) scope clos pm c' ct))
    (hroom : A.depth < recursionLimit) (hlim : s.heap.NoLimit) (hcd : s.heap.CodeRec (.ref c') qual) (hbind : bindArgs (kla_fn name qual params (.Tuple [.Call (.Name "len" p1) [.Name x p2] [] p3, .Name x p4] k p5) scope clos pm (.ref c') ct) ⟨[.ref a], []⟩ = pure [(x, .ref a)])
    (hk : scope.kind = .function) (hco : scope.isCoroutine = false) (hge : scope.isGenerator = false) (hc : ∀ y ∈ scope.names, y.2 ≠ .cell) (hx : scope.names.lookup x = some .local) (hl : scope.names.lookup ("len" : Str) = some .globalImplicit) (hdx : (x == ("__debug__" : Str)) = false)
    (hg : s.heap.Ns mainGlobals mg) (hm : mg ("len" : Str) = none) (hb : s.heap.Ns builtinsNs mb) (hv : mb ("len" : Str) = some (.builtin "len")) (rv : Vals (zs.map V.str) its) (ht : IsTup s.heap a its.toArray) (hz : zs.length ≤ sizeLine) :
    wpAny (model prog w) A (call (.ref f) [.ref a]) (KeyPure (keyOf zs) s) E s := by
  refine wpAny_call (codeAny_mono (R := fun r s' => ∃ v, r = .ok (.ret v) ∧ KeyPure (keyOf zs) s v s') ?_ fun r s' ⟨v, e, q⟩ => by subst e; exact q)
  refine kla_callFunE hroom ho rfl hco hge rfl hcd ?_
  rw [hbind]
  refine wpAny_pure (wpAny_newFunctionEnv hc (fun y hy => by
    have e : y = (x, Value.ref a) := by simpa using hy
    rw [e]
    exact hx) (fun h₁ hns hsb => ⟨hlim.fresh _ hsb, ?_⟩) hk)
  refine kla_codeExpr ?_
  refine wpAny_mono (key_frame (E := fun _ _ => False) hk hx hl hdx hg hm hb hv hns (fun b o' e => hsb.extBut b o' (Nat.ne_of_lt (Heap.lt_size e)) (Heap.get?_push_of_some _ e)) rv ht hz) (fun v s' q => ⟨v, rfl, q⟩) fun _ _ z => z.elim
end

/-! ### over the layer -/
/-- a row of texts at an address -/
abbrev Row := Addr × List Str
def leRow (r q : Row) : Bool := rowLe r.2 q.2
/-- a call of the key: it keeps the heap, and gives the row's key -/
def KeyAt (X : Cx) (s : Shared) (f : Addr) : Prop := ∀ (h : Heap) (tk : Nat), (∀ b o, s.heap.get? b = some o → h.get? b = some o) → ∀ (a : Addr) (zs : List Str) (its : List Value), Vals (zs.map V.str) its → IsTup h a its.toArray → zs.length ≤ sizeLine →
  wpAny (model X.prog X.w) X.A.in1.in1 (call (.ref f) [.ref a]) (KeyPure (keyOf zs) { s with heap := h, toks := tk }) (fun _ _ => False) { s with heap := h, toks := tk }

theorem rows_each {rs : List Row} {us : List Value} (r : Vals (rs.map fun r => V.ref r.1) us) : EachIs (fun v (b : Row) => v = Value.ref b.1) us rs := by
  induction rs generalizing us with
  | nil =>
    cases r
    exact .nil
  | cons x rs ih =>
    cases r with
    | cons a b =>
      cases a
      exact .cons rfl (ih b)
theorem each_rows {rs : List Row} {us : List Value} (e : EachIs (fun v (b : Row) => v = Value.ref b.1) us rs) : Vals (rs.map fun r => V.ref r.1) us := by
  induction e with
  | nil => exact .nil
  | cons h t ih =>
    subst h
    exact .cons rfl ih
theorem all_alike (rs : List Row) : AllAlike (rs.map fun r => keyOf r.2) := by
  intro d hd d' hd'
  obtain ⟨r, _, rfl⟩ := List.mem_map.mp hd
  obtain ⟨q, _, rfl⟩ := List.mem_map.mp hd'
  exact alike_keys _ _
theorem all_sortable (rs : List Row) : Sortable (rs.map fun r => keyOf r.2) := Sortable.tuples fun r => ⟨_, _, rfl⟩

section
variable {X : Cx} {pins : List (Addr × Obj)} {σ : L2.St} {H : Hp} {s : Shared}
theorem sorted_list {a f : Addr} {rs : List Row} {Q : VK} (I : Inv X pins σ H s) (hu : X.A.units + 64 < cLine) (hs : SqL X.K H a (rs.map fun r => V.ref r.1)) (hr : ∀ r ∈ rs, SqT X.K H r.1 (r.2.map V.str)) (hf : KeyAt X s f)
    (q : ∀ p, H p = none → Q (.ref p) (upd H p (.lst ((rs.mergeSort leRow).map fun r => V.ref r.1)))) : wpAny (model X.prog X.w) X.A (call (.builtin "sorted") [.ref a] [(Str.ofString "key", .ref f)]) (EP X pins σ Q) X.xe s := by
  obtain ⟨its, rv, hl, hz⟩ := I.list hs
  rw [List.length_map] at hz
  have e := rows_each rv
  refine sorted_key_data (b := false) (fun r : Row => keyOf r.2) hl.isList e (all_alike rs) (all_sortable rs) hz (fun r _ => ?_) (ksk_s1 _ _) (fun _ => ksk_l1 _ _) (fun _ => ksk_t1 _ _) (fun v r ev hm h tk kp => ?_) fun out c h' tk kp hn hD hlen eo => ?_
  · have := depth_key r.2
    omega
  · subst ev
    obtain ⟨its', rv', ht, hz'⟩ := I.tuple (hr r hm)
    rw [List.length_map] at hz'
    obtain ⟨o, ho, hr'⟩ := ht
    exact hf h tk kp r.1 r.2 its' rv' ⟨o, kp _ _ ho, hr'⟩ hz'
  · have hle : ((rs.mergeSort leRow).map fun r => V.ref r.1).length ≤ sizeLine := by
      rw [List.length_map, List.length_mergeSort]
      exact hz
    refine ⟨.ref _, _, I.laid (t' := tk) (o := .lst ((rs.mergeSort leRow).map fun r => V.ref r.1)) kp (Nat.le_succ _) ⟨hle, out, c, each_rows eo, hD⟩, rfl, q _ (I.hok.fresh (Nat.le_succ _))⟩

/-- the keys of a dict of rows -/
theorem dict_rows {kvs : List (List Key × V)} {xs : List (List Key × Addr × Value)} (r : KT H kvs xs) {rows : List (List Str)} (hk : kvs.map (·.1) = rows.map fun r => r.map Sum.inr) :
    ∃ rs : List Row, rs.map (·.2) = rows ∧ rs.map (·.1) = xs.map (fun x => x.2.1) ∧ ∀ r ∈ rs, H r.1 = some (.tup (r.2.map V.str)) := by
  induction r generalizing rows with
  | nil =>
    cases rows with
    | nil => exact ⟨[], rfl, rfl, fun r h => by cases h⟩
    | cons x y => simp at hk
  | @cons p q ps qs hq t ih =>
    cases rows with
    | nil => simp at hk
    | cons x rows =>
      rw [List.map_cons, List.map_cons, List.cons.injEq] at hk
      obtain ⟨rs, h1, h2, h3⟩ := ih hk.2
      refine ⟨(q.2.1, x) :: rs, by rw [List.map_cons, h1], by rw [List.map_cons, List.map_cons, h2], fun r hr => ?_⟩
      rcases List.mem_cons.mp hr with e | hr
      · subst e
        have e2 := hq.2.1
        rw [hk.1, List.map_map] at e2
        exact e2
      · exact h3 r hr

theorem sorted_dict {a f : Addr} {kvs : List (List Key × V)} {rows : List (List Str)} {Q : VK} (I : Inv X pins σ H s) (hc : X.calm = true) (hu : X.A.units + 64 < cLine) (hd : H a = some (.dT kvs)) (hk : kvs.map (·.1) = rows.map fun r => r.map Sum.inr) (hf : KeyAt X s f)
    (q : ∀ (rs : List Row) (p : Addr), rs.map (·.2) = rows.mergeSort rowLe → (∀ r ∈ rs, H r.1 = some (.tup (r.2.map V.str))) → H p = none → Q (.ref p) (upd H p (.lst (rs.map fun r => V.ref r.1)))) :
    wpAny (model X.prog X.w) X.A (call (.builtin "sorted") [.ref a] [(Str.ofString "key", .ref f)]) (EP X pins σ Q) X.xe s := by
  obtain ⟨z, lo, xs, rel, o, es, ep, ho, hx, hdat, hes, hno⟩ := I.hok a _ hd
  obtain ⟨rs, h1, h2, h3⟩ := dict_rows rel hk
  have hlen : rs.length = es.size := by
    have e1 := congrArg List.length h2
    have e2 := congrArg List.length hes
    rw [List.length_map, List.length_map] at e1
    rw [Array.length_toList, List.length_map] at e2
    omega
  have hz : rs.length ≤ sizeLine := by
    have e1 := congrArg List.length h2
    have e2 := Paired.length rel
    rw [List.length_map, List.length_map] at e1
    omega
  have raw : s.heap.DictRaw a es ep := ⟨o, ho, hx, hdat⟩
  refine call_function_entry_kw PyProof.Rows.kind_sorted PyProof.Rows.plain_sorted PyProof.Rows.entry_sorted (ksk_s1 _ _) ?_
  unfold Builtin.«sorted»
  refine wpAny_bind (m := checkCount "sorted" 1 1 _) (wpAny_pure ?_)
  refine wpAny_bind (kdu_collect (A := X.A.in1) (KdlSrc.rawDict (es := es) (ep := ep) lo) (I.ok.hd hc) raw (by omega) fun h' tk acc hkp hacc => ?_)
  have hal : acc.toList.length = rs.length := by rw [Array.length_toList, hacc.1, hlen]
  have each : EachIs (fun v (b : Row) => v = Value.ref b.1) acc.toList rs := by
    refine EachIs.of_zip hal fun p hp => ?_
    obtain ⟨i, hi⟩ := List.getElem?_of_mem hp
    rw [List.getElem?_zip_eq_some] at hi
    obtain ⟨hia, hib⟩ := hi
    obtain ⟨hsz, ev⟩ := hacc.2 i p.1 (by rw [← Array.getElem?_toList]; exact hia)
    have e1 : (rs.map (·.1))[i]? = some p.2.1 := by rw [List.getElem?_map, hib]; rfl
    have e2 : es.toList[i]? = some es[i] := by rw [Array.getElem?_toList, Array.getElem?_eq_getElem hsz]
    rw [h2, List.getElem?_map] at e1
    rw [hes, List.getElem?_map] at e2
    cases ex : xs[i]? with
    | none =>
      rw [ex] at e1
      cases e1
    | some x =>
      rw [ex] at e1 e2
      have e1' : x.2.1 = p.2.1 := Option.some.inj e1
      have e2' := Option.some.inj e2
      rw [ev, ← e2', ← e1']
      rfl
  have I1 : Inv X pins σ H { s with heap := h', toks := tk } := I.kept hkp
  refine wpAny_bind (wpAny_newList ?_ (by omega))
  have hoL : (h'.push (seqObj "list" acc.toList.toArray 0)).get? h'.objs.size = some (seqObj "list" acc.toList.toArray 0) := Heap.get?_push_size _ rfl
  have ne : ∀ {b : Addr} {o : Obj}, s.heap.get? b = some o → b ≠ h'.objs.size := fun e => Nat.ne_of_lt (Heap.lt_size (hkp _ _ e))
  refine wpAny_bind (wpAny_holding ?_)
  show wpAny (model X.prog X.w) X.A.in1 (call (.builtin "list.sort") [.ref h'.objs.size] [(Str.ofString "key", .ref f)]) _ _ { s with heap := h'.push (seqObj "list" acc.toList.toArray 0), toks := tk }
  refine list_sort_key_data (b := false) (s := { s with heap := h'.push (seqObj "list" acc.toList.toArray 0), toks := tk }) (fun r : Row => keyOf r.2) hoL each (all_alike rs) (all_sortable rs) hz (fun r _ => ?_) (ksk_l1 _ _) (ksk_t1 _ _) (fun v r ev hm h tk kp => ?_) fun out c h'' tk' kp hD hle eo => ?_
  · have hdep := depth_key r.2
    show X.A.units + 1 + 1 + (keyOf r.2).depth < cLine
    omega
  · subst ev
    obtain ⟨its', rv', ht, hz'⟩ := I.tuple (.inl (.inl (h3 r hm)))
    rw [List.length_map] at hz'
    obtain ⟨o, ho, hr'⟩ := ht
    have up : ∀ b o, s.heap.get? b = some o → h.get? b = some o := fun b o e => kp b o (ne e) (Heap.get?_push_of_some _ (hkp _ _ e))
    exact hf h tk up r.1 r.2 its' rv' ⟨o, up _ _ ho, hr'⟩ hz'
  · have hle2 : ((rs.mergeSort leRow).map fun r => V.ref r.1).length ≤ sizeLine := by
      rw [List.length_map, List.length_mergeSort]
      exact hz
    have up : ∀ b o, h'.get? b = some o → h''.get? b = some o := fun b o e => kp b o (Nat.ne_of_lt (Heap.lt_size e)) (Heap.get?_push_of_some _ e)
    refine wpAny_pure ⟨_, rfl, .ref h'.objs.size, _, I1.laid (t' := tk') (o := .lst ((rs.mergeSort leRow).map fun r => V.ref r.1)) up (Nat.le_refl _) ⟨hle2, out, c, each_rows eo, hD⟩, rfl, q _ _ ?_ (fun r hr => h3 r (List.mem_mergeSort.mp hr)) (I1.hok.fresh (Nat.le_refl _))⟩
    rw [← h1]
    exact sort_maps (fun r : Row => r.2) fun _ _ _ _ => rfl
end
end Ka
/-! sorted(e, key=f) of rows: f a def of the text, or a lambda. -/
namespace Ka
open PySem PySem.Spec PyProof.Rows L2 PySem.W

section
variable {X : Cx} {pins : List (Addr × Obj)} {σ : L2.St} {H : Hp} {s : Shared}
theorem deep2 {k : Nat} (hr : Room k X.A) : X.A.in1.in1.depth < recursionLimit := hr.depth
theorem ns_up {h h' : Heap} (kp : ∀ b o, h.get? b = some o → h'.get? b = some o) {b : Addr} {m : Str → Option Value} (n : h.Ns b m) : h'.Ns b m :=
  let ⟨o, es, ep, e, r⟩ := n; ⟨o, es, ep, kp _ _ e, r⟩
theorem code_up {h h' : Heap} (kp : ∀ b o, h.get? b = some o → h'.get? b = some o) {c : Value} {q : Str} (n : h.CodeRec c q) : h'.CodeRec c q :=
  let ⟨c, oc, vs, t, e1, e2, r⟩ := n; ⟨c, oc, vs, t, e1, kp _ _ e2, r⟩

/-- a def of the text that gives the key -/
theorem keyAt_def {name qual : Str} {params : Arguments} {scope : Scope} {dV kV doc pm cdv ct oc : Value} {an od : Option Addr} {osl : Array (Option Value)} {x : Str} {f : Addr} {p1 p2 p3 p4 p5 p6 : Pos} {k j : Nat} (I : Inv X pins σ H s) (hr : Room j X.A)
    (lk : X.K.lookup f = some ⟨oc, od, .func (fnOf name qual params [.Return (some (.Tuple [.Call (.Name "len" p1) [.Name x p2] [] p3, .Name x p4] k p5)) p6] scope dV kV doc pm an cdv ct), osl⟩) (hcd : codeIn X.K cdv qual = true) (hm : X.mg "len" = none)
    (hbind : ∀ v : Value, bindArgs (fnOf name qual params [.Return (some (.Tuple [.Call (.Name "len" p1) [.Name x p2] [] p3, .Name x p4] k p5)) p6] scope dV kV doc pm an cdv ct) ⟨[v], []⟩ = pure [(x, v)])
    (hk : scope.kind = .function) (hco : scope.isCoroutine = false) (hge : scope.isGenerator = false) (hc : ∀ y ∈ scope.names, y.2 ≠ .cell) (hx : scope.names.lookup x = some .local) (hl : scope.names.lookup ("len" : Str) = some .globalImplicit) (hdx : (x == ("__debug__" : Str)) = false) : KeyAt X s f := by
  intro h tk kp a zs its rv ht hz
  obtain ⟨mb, b1, b2⟩ := I.mod.blt
  exact call_keyDef (s := { s with heap := h, toks := tk }) (kp _ _ (I.kIn _ _ lk)) rfl (deep2 hr) (I.nolimit.keeps kp) (code_up kp (codeRec_of I.kIn hcd)) (hbind _) hk hco hge hc hx hl hdx (ns_up kp (I.mod.glob.keeps I.bk)) hm (ns_up kp (b1.keeps I.bk)) ((b2 "len" (by decide)).trans PySem.boot_len) rv ht hz

/-- a lambda that gives the key -/
theorem keyAt_lam {params : Arguments} {scope : Scope} {pm ct : Value} {c' : Addr} {q : Str} {x : Str} {f : Addr} {clos : List (Str × Addr)} {p1 p2 p3 p4 p5 : Pos} {k j : Nat} (I : Inv X pins σ H s) (hr : Room j X.A)
    (hf : s.heap.get? f = some (kla_obj "<lambda>" q params (.Tuple [.Call (.Name "len" p1) [.Name x p2] [] p3, .Name x p4] k p5) scope clos pm c' ct)) (hcd : H c' = some (LamX.CodeO c' q)) (hm : X.mg "len" = none)
    (hbind : ∀ v : Value, bindArgs (kla_fn "<lambda>" q params (.Tuple [.Call (.Name "len" p1) [.Name x p2] [] p3, .Name x p4] k p5) scope clos pm (.ref c') ct) ⟨[v], []⟩ = pure [(x, v)])
    (hk : scope.kind = .function) (hco : scope.isCoroutine = false) (hge : scope.isGenerator = false) (hc : ∀ y ∈ scope.names, y.2 ≠ .cell) (hx : scope.names.lookup x = some .local) (hl : scope.names.lookup ("len" : Str) = some .globalImplicit) (hdx : (x == ("__debug__" : Str)) = false) : KeyAt X s f := by
  intro h tk kp a zs its rv ht hz
  obtain ⟨mb, b1, b2⟩ := I.mod.blt
  obtain ⟨⟨oc, vs, t, hoc, hdc, hvc⟩, _, _⟩ := I.hok c' _ hcd
  exact call_keyLam (s := { s with heap := h, toks := tk }) (kp _ _ hf) (deep2 hr) (I.nolimit.keeps kp) ⟨c', oc, vs, t, rfl, kp _ _ hoc, hdc, hvc⟩ (hbind _) hk hco hge hc hx hl hdx (ns_up kp (I.mod.glob.keeps I.bk)) hm (ns_up kp (b1.keeps I.bk)) ((b2 "len" (by decide)).trans PySem.boot_len) rv ht hz
end

section
variable {X : Cx}
/-- sorted(e, key=f), e a list of rows or a dict of rows -/
def rSortK (K : PySem.W.Frag) (f : Addr) : List V → List V → Hp → VK → Prop := fun vs zs H Q => zs = [.ref f] ∧
  ((∃ (a : Addr) (rs : List Row), vs = [.ref a] ∧ SqL K H a (rs.map fun r => V.ref r.1) ∧ (∀ r ∈ rs, SqT K H r.1 (r.2.map V.str)) ∧ ∀ p, H p = none → Q (.ref p) (upd H p (.lst ((rs.mergeSort leRow).map fun r => V.ref r.1)))) ∨
   (∃ (a : Addr) (kvs : List (List L2.Key × V)) (rows : List (List Str)), vs = [.ref a] ∧ H a = some (.dT kvs) ∧ kvs.map (·.1) = rows.map (fun r => r.map Sum.inr) ∧
     ∀ (rs : List Row) (p : Addr), rs.map (·.2) = rows.mergeSort rowLe → (∀ r ∈ rs, H r.1 = some (.tup (r.2.map V.str))) → H p = none → Q (.ref p) (upd H p (.lst (rs.map fun r => V.ref r.1)))))
theorem cr_sortRows {f : Addr} (hc : X.calm = true) (hu : X.A.units + 64 < cLine) (hf : ∀ (pins : List (Addr × Obj)) (s : Shared) (σ : L2.St) (H : Hp), Inv X pins σ H s → KeyAt X s f) : CallRK X (.builtin "sorted") [Str.ofString "key"] (rSortK X.K f) := by
  intro pins s σ H vs zs us ws Q I r rz h
  obtain ⟨rfl, h⟩ := h
  obtain ⟨w1, rfl, e1⟩ := vals1 rz
  obtain rfl : w1 = Value.ref f := e1
  rcases h with ⟨a, rs, rfl, hs, hr, q⟩ | ⟨a, kvs, rows, rfl, hd, hk, q⟩
  · obtain rfl := Vals.ref1 r
    exact sorted_list I hu hs hr (hf _ _ _ _ I) q
  · obtain rfl := Vals.ref1 r
    exact sorted_dict I hc hu hd hk (hf _ _ _ _ I) q

/-- sorted(e, key=lambda x: (len(x), x)) -/
def tSortLam (K : PySem.W.Frag) (T : List (Addr × Str)) (te : TE) : TE := fun σ H Q => te σ H fun v H1 => ∃ (a : Addr) (rs : List Row), v = .ref a ∧ SqL K H1 a (rs.map fun r => V.ref r.1) ∧ (∀ r ∈ rs, SqT K H1 r.1 (r.2.map V.str)) ∧ LamX.Tabs T H1 ∧
  ∀ H2 p, LamX.ExtN H1 H2 → LamX.Tabs T H2 → H2 p = none → Q (.ref p) (upd H2 p (.lst ((rs.mergeSort leRow).map fun r => V.ref r.1)))
theorem rd_ext {H H' : Hp} {a : Addr} {u : HO} (h : Rd H a u) (e : LamX.ExtN H H') (hn : ∀ ps, u ≠ .tbl ps) : Rd H' a u := by
  rcases h with h | ⟨o, h⟩
  · exact .inl (e _ _ h hn)
  · exact .inr ⟨o, e _ _ h fun ps z => by cases z⟩
theorem sqL_ext {K : PySem.W.Frag} {H H' : Hp} {a : Addr} {xs : List V} (h : SqL K H a xs) (e : LamX.ExtN H H') : SqL K H' a xs := by
  rcases h with h | h
  · exact .inl (rd_ext h e fun ps z => by cases z)
  · exact .inr h
theorem sqT_ext {K : PySem.W.Frag} {H H' : Hp} {a : Addr} {xs : List V} (h : SqT K H a xs) (e : LamX.ExtN H H') : SqT K H' a xs := by
  rcases h with h | h
  · exact .inl (rd_ext h e fun ps z => by cases z)
  · exact .inr h
theorem pe_sortedLam {T : List (Addr × Str)} {c P : Addr} {params : Arguments} {scope : Scope} {x : Str} {e : Expr} {te : TE} {p lpos kpos pos p1 p2 p3 p4 p5 : Pos} {k j : Nat} (hr : Room j X.A) (hu : X.A.units + 64 < cLine) (hg : Gl X "sorted") (hm : X.mg "sorted" = none) (hml : X.mg "len" = none) (he : PE X e te)
    (TB : LamX.TabB X.base X.mg c P) (hcode : X.env.code = .ref c) (hmT : (P, X.env.qual ++ "<lambda>") ∈ T) (hu2 : ∀ p ∈ T, p.1 = P → p.2 = X.env.qual ++ "<lambda>") (hdef : defaultsOf params X.env = ([], [])) (hfree : ∀ y ∈ scope.names, y.2 ≠ .free)
    (hbind : ∀ (q : Str) (clos : List (Str × Addr)) (pm cd ct v : Value), bindArgs (kla_fn "<lambda>" q params (.Tuple [.Call (.Name "len" p1) [.Name x p2] [] p3, .Name x p4] k p5) scope clos pm cd ct) ⟨[v], []⟩ = pure [(x, v)])
    (hk : scope.kind = .function) (hco : scope.isCoroutine = false) (hge : scope.isGenerator = false) (hc : ∀ y ∈ scope.names, y.2 ≠ .cell) (hx : scope.names.lookup x = some .local) (hl : scope.names.lookup ("len" : Str) = some .globalImplicit) (hdx : (x == ("__debug__" : Str)) = false)
    (h1 : backTo pos (starEach [e] X.env) = (false, eval e X.env) :: backTo pos (starEach [] X.env) := by rfl) :
    PE X (.Call (.Name "sorted" p) [e] [⟨some "key", .Lambda params (.Tuple [.Call (.Name "len" p1) [.Name x p2] [] p3, .Name x p4] k p5) scope lpos, kpos⟩] pos) (tSortLam X.K T te) := by
  refine ⟨fun pins s σ H Q I h => ?_⟩
  refine wpAny_Call_Name_kw (ld_blt (u := .builtin "sorted") I hg hm (by decide +kernel) ?_ (by decide) (by decide))
  refine PyProof.Rows.callWith_kw ?_ h1 (by rw [h1]; rfl) (by rfl) (by rfl)
  rw [h1]
  refine Calls.spliced_cons (thn (he.run pins s σ H _ I h) fun u s1 ⟨v, H1, I1, r1, a, rs, ev, hs, hr', hT, q⟩ => Calls.spliced_nil ?_)
  subst ev
  obtain rfl : u = Value.ref a := r1
  show wpAny _ _ (evalAll [do let v ← eval (.Lambda params (.Tuple [.Call (.Name "len" p1) [.Name x p2] [] p3, .Name x p4] k p5) scope lpos) X.env; standAt pos; pure v]) _ _ s1
  refine wpAny_evalAll_cons (wpAny_bind (LamX.lam_make2 I1 TB hcode hmT hu2 hT hdef (fun y hy e => absurd e (hfree y hy)) fun f c' pm' ctv H2 s2 I2 eN T2 hf hfn hfr hco' => wpAny_bind (wpAny_standAt (wpAny_pure (wpAny_evalAll_nil ?_)))))
  refine sorted_list I2 hu (sqL_ext hs eN) (fun r hr0 => sqT_ext (hr' r hr0) eN) (keyAt_lam I2 hr hf hco' hml (fun v => hbind _ _ _ _ _ v) hk hco hge hc hx hl hdx) fun p' np => q H2 p' eN T2 np
end
end Ka
/-! {k: v for target in iter if ..} whose keys are tuples of texts and ints. -/
namespace Ka
open PySem PySem.Spec PyProof.Rows L2

theorem dT_set {X : Cx} {pins : List (Addr × Obj)} {σ : L2.St} {H : Hp} {s : Shared} {E : Value → Shared → Prop} {D b : Addr} {kvs : List (List L2.Key × V)} {k : List L2.Key} {v : V} {u r : Value} {Q : Unit → Shared → Prop} (hu : X.A.units + 1 < cLine) (I : Inv X pins σ H s) (hD : H D = some (.dT kvs)) (hz : kvs.length < sizeLine)
    (hb : H b = some (.tup (k.map kV))) (ry : RelV (.ref b) u) (rv : RelV v r) (h : ∀ s', Inv X pins σ (upd H D (.dT (putK kvs k v))) s' → Q () s') : wpAny (model X.prog X.w) X.A (dictSet D u r) Q E s := by
  cases (show u = Value.ref b from ry)
  obtain ⟨z, hd, xs, rel, dd⟩ := dt_of I.hok hD
  have hzx : xs.length ≤ sizeLine := by rw [← Paired.length rel]; exact z
  have hl : (putK kvs k v).length ≤ sizeLine := by have := length_putK kvs k v; omega
  refine wpAny_dictSet_heap (hsz := hzx) (knd := tupleKind (mixKind X.prog X.w)) ?_ (key_of I.hok hb) dd fun h' dd' hs => h _ ?_
  · show X.A.units < cLine
    omega
  · obtain ⟨q, es, ep, hq, h2, h3, h4, _, h5⟩ := dd'
    refine d_write I (by rw [hD]; exact True.intro) hs ⟨q, hq⟩ ⟨hl, hd, _, (rel.put k hb rv).keeps fun c ys ec => ?_, q, es, ep, hq, h2, h3, h4, h5⟩
    rw [upd_ne (ne_of ec hD fun z => nomatch z)]
    exact ec

section
variable {X : Cx}
/-- {k: v for target in iter}, keys tuples: D the new dict -/
def tDcT (wi : TI) (g : TG) (tk tv : TE) (vs : List Nat) : TE := fun σ H Q => wi σ H fun J H1 => ∀ D, H1 D = none → ∃ W : Nat → Nat → Hp → Prop, (∃ m, W 0 m (upd H1 D (.dT []))) ∧ ∀ i m H, W i m H →
  (J.stop i H ∧ Q (.ref D) H) ∨ (J.go i H ∧ ∃ Nx : Hp → Prop, (∀ H', Nx H' → ∃ m', m' < m ∧ W (i + 1) m' H') ∧ ∀ x H', J.yld i H x H' → g x (wipe σ vs) H' fun σ2 H2 => wipe σ2 vs = wipe σ vs ∧
    tk σ2 H2 fun y H4 => tv σ2 H4 fun z H5 => ∃ kvs k b, y = .ref b ∧ H5 b = some (.tup (k.map kV)) ∧ H5 D = some (.dT kvs) ∧ kvs.length < sizeLine ∧ Nx (upd H5 D (.dT (putK kvs k z))))

/-- one turn of the block, from the item drawn on -/
theorem dct_turn {Z : Cx} {kx vx tg : Expr} {g : TG} {tk tv : TE} {D : Addr} {τ : L2.St} {vs : List Nat} {H : Hp} {s : Shared} {x : V} {u : Value} {Nx : Hp → Prop} {R : Shared → Prop} {pins : List (Addr × Obj)} {E' : Value → Shared → Prop} (hE : Z.xe = fun _ _ => False) (hu : Z.A.units + 1 < cLine)
    (pg : PG Z tg g) (pk : PE Z kx tk) (pe : PE Z vx tv) (I : Inv Z pins τ H s) (rx : RelV x u)
    (h : g x τ H fun σ2 H2 => wipe σ2 vs = τ ∧ tk σ2 H2 fun y H4 => tv σ2 H4 fun z H5 => ∃ kvs k b, y = .ref b ∧ H5 b = some (.tup (k.map kV)) ∧ H5 D = some (.dT kvs) ∧ kvs.length < sizeLine ∧ Nx (upd H5 D (.dT (putK kvs k z))))
    (fin : ∀ σ2 H' s', wipe σ2 vs = τ → Inv Z pins σ2 H' s' → Nx H' → R s') :
    wpAny (model Z.prog Z.w) Z.A (assign tg Z.env u) (fun _ s₂ => wpAny (model Z.prog Z.w) Z.A (forIn ([] : List Expr) true fun c r => if r = true then do let ok ← isTrue c Z.env (eval c Z.env); pure (ForInStep.yield ok) else pure (ForInStep.yield r)) (fun ok s₃ =>
      if ok = true then wpAny (model Z.prog Z.w) Z.A (eval kx Z.env) (fun kv s₄ => wpAny (model Z.prog Z.w) Z.A (eval vx Z.env) (fun vv s₅ => wpAny (model Z.prog Z.w) Z.A (dictSet D kv vv) (fun _ s₆ => R s₆) E' s₅) E' s₄) E' s₃ else R s₃) E' s₂) E' s := by
  have a1 := pg.run pins s τ H x u _ I rx h
  rw [hE] at a1
  refine thnF a1 fun _ s8 ⟨σ8, H8, I8, hw, q8⟩ => wpAny_tests_nil ?_
  rw [if_pos rfl]
  have a2 := pk.run pins s8 σ8 H8 _ I8 q8
  rw [hE] at a2
  refine thnF a2 fun kv s10 ⟨y, H10, I10, r10, q10⟩ => ?_
  have a3 := pe.run pins s10 σ8 H10 _ I10 q10
  rw [hE] at a3
  refine thnF a3 fun vv s11 ⟨z, H11, I11, r11, kvs, k, b, ey, hb, hD, hz, nx⟩ => ?_
  subst ey
  exact dT_set hu I11 hD hz hb r10 r11 fun s12 I12 => fin σ8 _ s12 hw I12 nx

/-- what stands between two turns of the block -/
def BetweenT (Z : Cx) (fp : List Addr) (tn : Nat → Heap → Prop) (τ : L2.St) (W : Nat → Nat → Hp → Prop) (n : Nat) (s : Shared) : Prop := ∃ i H, Inv Z [] τ H s ∧ tn i s.heap ∧ (∀ b ∈ fp, H b = none) ∧ W i n H

theorem pe_dcT {kx vx tg iter : Expr} {scope : Scope} {own : List (Str × Nat)} {pos : Pos} {wi : TI} {g : TG} {tk tv : TE} (hc : X.calm = true) (hu : X.A.units + 1 < cLine) (hN : X.N.Nodup) (hi : PI X tg iter wi) (ok : BlkOk X.N X.env.scope scope own)
    (hg : ∀ (s : Shared) (H : Hp) (C : Addr) (cl : List (Str × Addr)) (fp : List Addr), PG (X.blk s H scope (compEnvC scope cl C X.env) fp) tg g)
    (hk : ∀ (s : Shared) (H : Hp) (C : Addr) (cl : List (Str × Addr)) (fp : List Addr), PE (X.blk s H scope (compEnvC scope cl C X.env) fp) kx tk)
    (hv : ∀ (s : Shared) (H : Hp) (C : Addr) (cl : List (Str × Addr)) (fp : List Addr), PE (X.blk s H scope (compEnvC scope cl C X.env) fp) vx tv) (hs : ∀ x, foldedSetIterable iter X.env x = pure x := by intro _; rfl) :
    PE X (.DictComp kx vx [⟨tg, iter, [], 0⟩] scope pos) (tDcT wi g tk tv (own.map (·.2))) := by
  refine ⟨fun pins s σ H Q I h => ?_⟩
  rw [arm_eval_DictComp]
  have free : ∀ y ∈ scope.names, y.2 = .free → ∃ c, X.env.cells.lookup y.1 = some c := fun y hy e => (ok.free y hy e).elim (fun k => I.ok.has _ (.inl k)) (fun k => I.ok.has _ (.inr k))
  refine wpAny_comprehension_free rfl hs (closure_ok free) ok.kind (fun y hy e => by rw [ok.uniq y hy, e]) (thn (hi.run pins s σ H _ I h) fun _ s1 hx => thn hx fun _ s2 ⟨it, fp, tn, J, H2, e, I2, T, st2, f2, q⟩ => ?_)
  subst e
  refine wpAny_newObj_type (newEnv_comp ?_)
  generalize hD : s2.heap.objs.size = D
  have nD : H2 D = none := I2.hok.fresh (Nat.le_of_eq hD)
  obtain ⟨W, ⟨m0, w0⟩, turn⟩ := q D nD
  generalize hs3 : ({ s2 with heap := s2.heap.push { cls := .type "dict", data := .dict #[] } } : Shared) = s3
  have h3 : s3.heap = s2.heap.push { cls := .type "dict", data := .dict #[] } := by rw [← hs3]
  have I3 : Inv X pins σ (upd H2 D (.dT [])) s3 := by
    subst hs3 hD
    exact I2.laid (t' := s2.toks) (fun b o z => Heap.get?_push_of_some _ z) (Nat.le_refl _) (dt_empty s2.heap I2.big)
  have f3 : ∀ b ∈ fp, FpOk X pins (upd H2 D (.dT [])) b ∧ b < s3.heap.objs.size := fun b hb => by
    obtain ⟨o, e, _⟩ := T.obj _ _ st2 b hb
    have lt : b < s2.heap.objs.size := Heap.lt_size e
    refine ⟨⟨?_, (f2 b hb).2⟩, by rw [h3, Heap.size_push]; exact Nat.lt_succ_of_lt lt⟩
    rw [upd_ne (by rw [← hD]; exact Nat.ne_of_lt lt)]
    exact (f2 b hb).1
  have I4 := block_start I3 ok hN f3
  have pg := hg s3 (upd H2 D (.dT [])) s3.heap.objs.size (cellsFrom (s3.heap.objs.size + 1) scope.names (cloFrom X.env.cells scope.names [])) fp
  have pk := hk s3 (upd H2 D (.dT [])) s3.heap.objs.size (cellsFrom (s3.heap.objs.size + 1) scope.names (cloFrom X.env.cells scope.names [])) fp
  have pv := hv s3 (upd H2 D (.dT [])) s3.heap.objs.size (cellsFrom (s3.heap.objs.size + 1) scope.names (cloFrom X.env.cells scope.names [])) fp
  show codeAny _ _ (.compStart (.DictComp kx vx [⟨tg, iter, [], 0⟩] scope pos) 0 (.ref it) (.ref D) (compEnvC scope (cellsFrom (s3.heap.objs.size + 1) scope.names (cloFrom X.env.cells scope.names [])) s3.heap.objs.size X.env)) (compPost (model X.prog X.w) X.A X.xe none (EP X pins σ Q) (.ref D) s3.heap.objs.size) { s3 with heap := pushCells (s3.heap.push { cls := .type "dict", data := .dict #[] }) scope.names }
  generalize hce : compEnvC scope (cellsFrom (s3.heap.objs.size + 1) scope.names (cloFrom X.env.cells scope.names [])) s3.heap.objs.size X.env = ce at I4 pg pk pv ⊢
  have cL : ce.locals = s3.heap.objs.size := by subst hce; rfl
  generalize hH3 : upd H2 D (.dT []) = H3 at I3 I4 pg pk pv w0 f3
  generalize hs4 : ({ s3 with heap := pushCells (s3.heap.push { cls := .type "dict", data := .dict #[] }) scope.names } : Shared) = s4 at I4 ⊢
  have st4 : tn 0 s4.heap := T.keep _ _ _ st2 fun b _ o z => by
    rw [← hs4]
    exact pushCells_keeps _ _ _ _ (Heap.get?_push_of_some _ (by rw [h3]; exact Heap.get?_push_of_some _ z))
  have blk : ∀ {σ' : L2.St} {H' : Hp} {s' : Shared}, Inv (X.blk s3 H3 scope ce fp) [] σ' H' s' → (∀ b ∈ fp, H' b = none) → ∀ b ∈ fp, FpOk (X.blk s3 H3 scope ce fp) [] H' b := fun J' hn b hb =>
    ⟨hn b hb, (J'.ok.exf b hb).1, J'.ok.exfs b hb, .inl hb, fun x c z => (J'.ok.exf b hb).2 x c z, fun p hp => absurd (show p ∈ ([] : List (Addr × Obj)) ++ [] from hp) (by simp)⟩
  have loop : codeAny (model X.prog X.w) X.A (.compLoop (.DictComp kx vx [⟨tg, iter, [], 0⟩] scope pos) 0 (.ref it) (.ref D) ce) (compPost (model X.prog X.w) X.A X.xe none (EP X pins σ Q) (.ref D) s3.heap.objs.size) s4 := by
    refine compLoop_anyD (BetweenT (X.blk s3 H3 scope ce fp) fp tn (wipe σ (own.map (·.2))) W) ?_ m0 ⟨0, H3, I4, st4, fun b hb => (f3 b hb).1.1, w0⟩
    rintro n s5 ⟨i, H5, I5, st5, n5, w5⟩
    rcases turn i n H5 w5 with ⟨stop, qq⟩ | ⟨go, Nx, hNx, step⟩
    · refine thnF (T.done (X.blk s3 H3 scope ce fp) rfl rfl rfl hc i [] s5 _ H5 (fun _ _ => False) I5 (blk I5 n5) st5 stop) fun r s6 ⟨hr, I6⟩ => ?_
      subst hr
      have I7 : Inv X pins σ H5 s6 := I3.call' (ch := fp) I6.os I6.base I6.hok I6.bare fun b hb => ⟨(f3 b hb).1.2.2.2.1, (f3 b hb).1.2.1, (f3 b hb).1.2.2.2.2.1, (f3 b hb).1.2.2.2.2.2⟩
      have nC : H5 s3.heap.objs.size = none := by
        have z : H5 ce.locals = none := I6.free
        rwa [cL] at z
      obtain ⟨m, hn, _⟩ := I6.loc
      have hn : s6.heap.Ns ce.locals m := hn
      rw [cL] at hn
      obtain ⟨f0, f1, f2, f4, f5, f6⟩ := I3.fpOk (Nat.le_refl _) nC
      exact ⟨m, hn, fun h'' sb => ⟨.ref D, H5, I7.turned (t' := s6.toks) (fun b o hb z => (sb.2 b hb).trans z) f0 f1 f4 f5 f6, rfl, qq⟩⟩
    · refine thnF (T.item (X.blk s3 H3 scope ce fp) rfl rfl rfl hc i [] s5 _ H5 (fun _ _ => False) I5 (blk I5 n5) st5 go) fun r s6 ⟨u, hr, h6⟩ => ?_
      subst hr
      refine thnF h6 fun _ s7 ⟨x, H7, I7, r7, y7, st7, n7⟩ => ?_
      have I7' := I7.pinned (blk I7 n7) (T.obj _ _ st7)
      have main := dct_turn (s := s7) (Z := X.blk s3 H3 scope ce fp) (vs := own.map (·.2)) (D := D) (Nx := Nx) (E' := notedBy (model X.prog X.w) X.A ce fun e s' => compPost (model X.prog X.w) X.A X.xe none (EP X pins σ Q) (.ref D) s3.heap.objs.size (.error e) s') (R := fun s' => ∃ m, m < n ∧ BetweenT (X.blk s3 H3 scope ce fp) fp tn (wipe σ (own.map (·.2))) W m s') rfl hu pg pk pv I7' r7 (step x H7 y7) fun σ8 H' s' hw I' nx => by
        obtain ⟨m', hm, w'⟩ := hNx H' nx
        have keep : ∀ b ∈ fp, ∀ o, s7.heap.get? b = some o → s'.heap.get? b = some o ∧ H' b = none := fun b hb o z =>
          let y := I'.pin (b, o) (List.mem_append_right _ (List.mem_append_right _ (mem_pinsAt hb z)))
          ⟨y.1, y.2.1⟩
        refine ⟨m', hm, i + 1, H', (I'.unpinned (pins := [])).weak (by rw [← hw, wipe_length]) (fun j v z => ?_), T.keep _ _ _ st7 fun b hb o z => (keep b hb o z).1, fun b hb => ?_, w'⟩
        · rw [← hw] at z
          exact (wipe_some z).1
        · obtain ⟨o, z, _⟩ := T.obj _ _ st7 b hb
          exact (keep b hb o z).2
      exact main
  exact codeAny_compStart_dict loop (T.self X.A 0 _ _ _ st4 loop)
end
end Ka
namespace Kb
open PySem PySem.Spec PyProof.Rows L2
/-! ### the text, def by def -/
def topS (i : Nat) : Stmt := PySem.Challenge.pw_stillowed_k01_fits_of_rows.main.body.getD i (.Pass ⟨0, 0, 0, 0⟩)
abbrev sInit : Stmt := inClass (topS 2) 0
abbrev sName : Stmt := topS 5
abbrev sLetter : Stmt := topS 6
abbrev sOrder : Stmt := topS 7
abbrev sCheck : Stmt := topS 10
abbrev sInOrder : Stmt := topS 11
abbrev sGreat : Stmt := topS 12
abbrev sWithin : Stmt := topS 13
abbrev sFits : Stmt := topS 14
abbrev sFirst : Stmt := topS 15
abbrev sLast : Stmt := topS 16
abbrev sBox : Stmt := topS 18
abbrev sTake : Stmt := topS 19
abbrev sPick : Stmt := topS 20
abbrev sLet : Stmt := topS 21
abbrev sNames : Stmt := topS 22
abbrev sRow : Stmt := topS 23
abbrev sStruck : Stmt := topS 24
abbrev sAll : Stmt := topS 25
abbrev sRight : Stmt := topS 26
abbrev sCuts : Stmt := topS 27
abbrev sLists : Stmt := topS 28
abbrev sRefused : Stmt := topS 29
abbrev sChecked : Stmt := topS 30
abbrev sLong : Stmt := topS 31
abbrev sLaw : Stmt := topS 32

/-! ### heaps -/
theorem same_new {H : Hp} {p : Addr} {o : HO} (h : H p = none) : Same H (upd H p o) := fun b x e => by
  rw [upd_ne (ne_of_none e h)]
  exact e
theorem Same.sqT {K : PySem.W.Frag} {H H' : Hp} {a : Addr} {xs : List V} (e : Same H H') (h : SqT K H a xs) : SqT K H' a xs := by
  rcases h with (h | ⟨o, h⟩) | h
  · exact .inl (.inl (e _ _ h))
  · exact .inl (.inr ⟨o, e _ _ h⟩)
  · exact .inr h
theorem sqT_new {K : PySem.W.Frag} {H : Hp} {p : Addr} {xs : List V} (h : H p = some (.tup xs)) : SqT K H p xs := .inl (.inl h)
theorem sqL_new {K : PySem.W.Frag} {H : Hp} {p : Addr} {xs : List V} (h : H p = some (.lst xs)) : SqL K H p xs := .inl (.inl h)
theorem get_map {α β : Type} {f : α → β} {l : List α} {i : Nat} {y : β} (h : (l.map f)[i]? = some y) : ∃ x, l[i]? = some x ∧ y = f x := by
  rw [List.getElem?_map] at h
  cases e : l[i]? with
  | none =>
    rw [e] at h
    cases h
  | some x =>
    rw [e] at h
    exact ⟨x, rfl, (Option.some.inj h).symm⟩
theorem lt_of_get {α : Type} {l : List α} {i : Nat} {x : α} (h : l[i]? = some x) : i < l.length := (List.getElem?_eq_some_iff.mp h).1
theorem drop_of_get {α : Type} {l : List α} {i : Nat} {x : α} (h : l[i]? = some x) : l.drop i = x :: l.drop (i + 1) := by
  obtain ⟨h1, h2⟩ := List.getElem?_eq_some_iff.mp h
  rw [List.drop_eq_getElem_cons h1, h2]
theorem take_of_get {α : Type} {l : List α} {i : Nat} {x : α} (h : l[i]? = some x) : l.take (i + 1) = l.take i ++ [x] := by
  rw [List.take_add_one, h]
  rfl
/-! ### rules told by K, for a comprehension's block -/
def rLen (K : PySem.W.Frag) : List V → Hp → VK → Prop := fun xs H Q => ∃ p ys, xs = [V.ref p] ∧ (SqL K H p ys ∨ SqT K H p ys) ∧ Q (.int (ys.length : Nat)) H
theorem len_at {X : Cx} {K : PySem.W.Frag} (h : X.K = K) : CallR X (.builtin "len") (rLen K) := by
  subst h
  exact call_len_seq
theorem ixT_at {X : Cx} {K : PySem.W.Frag} (h : X.K = K) : IxR X (rIxT K) := by
  subst h
  exact ix_tup
theorem ixL_at {X : Cx} {K : PySem.W.Frag} (h : X.K = K) : IxR X (rIxL K) := by
  subst h
  exact ix_list
/-- places as values -/
def natV (l : List Nat) : List V := l.map fun (i : Nat) => V.int (i : Int)
theorem natV_len (l : List Nat) : (natV l).length = l.length := List.length_map _
theorem small {n : Nat} (h : n ≤ 1000000) : n < sizeLine := Nat.lt_of_le_of_lt h (by rw [sizeLine_eq]; decide)
theorem smallE {n : Nat} (h : n ≤ 1000000) : n ≤ sizeLine := Nat.le_of_lt (small h)
theorem walk_revT {K : PySem.W.Frag} {a : Addr} {xs : List V} : Walk (RT.ItvT K a xs.length) xs.length (fun H => SqT K H a xs) (fun i H x H' => H' = H ∧ xs[xs.length - 1 - i]? = some x) := by
  refine ⟨fun i H hi q => ?_, fun H q => ?_, fun i H x H' hi q y => ?_⟩
  · exact ⟨hi, xs, xs[xs.length - 1 - i], q, by simp⟩
  · exact Nat.le_refl _
  · exact ⟨y.1, y.2 xs q⟩
/-- counts as values -/
def intV (l : List Int) : List V := l.map V.int
theorem intV_len (l : List Int) : (intV l).length = l.length := List.length_map _
theorem intV_get {l : List Int} {i : Nat} {x : Int} (h : l[i]? = some x) : (intV l)[i]? = some (.int x) := by
  unfold intV
  rw [List.getElem?_map, h]
  rfl
theorem natV_get {l : List Nat} {i x : Nat} (h : l[i]? = some x) : (natV l)[i]? = some (.int (x : Nat)) := by
  unfold natV
  rw [List.getElem?_map, h]
  rfl
end Kb
namespace Kb
open PySem PySem.Spec PyProof.Rows L2
/-! ### within -/
section
variable {α : Type} [DecidableEq α]
def sub : List α → List α → Bool
  | [], _ => true
  | _ :: _, [] => false
  | d :: u, e :: z => if d = e then sub u z else sub (d :: u) z
theorem sub_none {d : α} {u : List α} : ∀ {z : List α}, (∀ k : Nat, z[k]? ≠ some d) → sub (d :: u) z = false
  | [], _ => rfl
  | e :: z, h => by
    have h0 : e ≠ d := fun x => h 0 (by rw [x]; rfl)
    rw [sub, if_neg (fun x => h0 x.symm)]
    exact sub_none fun k => by
      have := h (k + 1)
      simpa using this
theorem sub_hit {d : α} {u : List α} : ∀ {z : List α} {j : Nat}, z[j]? = some d → (∀ k : Nat, k < j → z[k]? ≠ some d) → sub (d :: u) z = sub u (z.drop (j + 1))
  | [], j, h, _ => by simp at h
  | e :: z, 0, h, _ => by
    have e1 : e = d := by simpa using h
    rw [sub, if_pos e1.symm]
    rfl
  | e :: z, j + 1, h, h2 => by
    have h0 : e ≠ d := fun x => h2 0 (Nat.succ_pos _) (by rw [x]; rfl)
    rw [sub, if_neg (fun x => h0 x.symm), List.drop_succ_cons]
    exact sub_hit (by simpa using h) fun k hk => by
      have := h2 (k + 1) (Nat.succ_lt_succ hk)
      simpa using this
theorem first_at (x : α) : ∀ l : List α, (∀ k : Nat, l[k]? ≠ some x) ∨ ∃ m : Nat, l[m]? = some x ∧ ∀ k : Nat, k < m → l[k]? ≠ some x
  | [] => .inl fun k h => by simp at h
  | e :: l => by
    by_cases h : e = x
    · exact .inr ⟨0, by rw [h]; rfl, fun k hk => absurd hk (Nat.not_lt_zero k)⟩
    · have h0 : (e :: l)[0]? ≠ some x := fun z => h (Option.some.inj z)
      rcases first_at x l with hn | ⟨m, h1, h2⟩
      · refine .inl fun k => ?_
        cases k with
        | zero => exact h0
        | succ k => simpa using hn k
      · refine .inr ⟨m + 1, by simpa using h1, fun k hk => ?_⟩
        cases k with
        | zero => exact h0
        | succ k => simpa using h2 k (Nat.lt_of_succ_lt_succ hk)
end
section
variable {P : Program} {w : World} {K : PySem.W.Frag} {mg : Str → Option Value} {base : Heap}
theorem scWithin : FnScope ["u", "v", "rest", "deed"] ["u", "v"] (defScope sWithin) := ⟨rfl, rfl, rfl, by decide +kernel, rfl, by decide +kernel, by decide +kernel⟩
def spWithin (K : PySem.W.Frag) : Sp := fun vs H Q _ => ∃ (a b : Addr) (us zs : List Str), vs = [.ref a, .ref b] ∧ SqT K H a (us.map V.str) ∧ SqT K H b (zs.map V.str) ∧ ∀ H', Same H H' → Q (.bl (sub us zs)) H'
theorem ok_within {f : Addr} {fd : FuncData} (F : Fun K "within" "within" sWithin f fd) (mi : mg "iter" = none) : FnOk P w K mg base CX0 1 f fd ["u", "v"] (spWithin K) := by
  refine F.ok scWithin (fun vs H Q E h => ?_) (fun cdv A outer s H vs Q E hr h => ?_)
  · obtain ⟨a, b, us, zs, rfl, _⟩ := h
    rfl
  · obtain ⟨a, b, us, zs, rfl, hA, hB, q⟩ := h
    refine ⟨_, pss_cons (ps_set (i := 2) scWithin.nd rfl (.inl rfl) (pe_callB Ka.call_iterT (by rfl) mi (by decide +kernel) (pa_cons (pv 1) pa_nil)))
      (pss_cons (ps_for PassesOwn.never rfl (pi_tup (pv 0)) (pg_name (i := 3) scWithin.nd rfl (.inl rfl))
        (pss_one (ps_if (pt_not (pt_cmpR (Ka.op_inTI rfl) (pv 3) (pv 2) rfl)) (pss_one (ps_ret pe_bl)) pss_nil)))
      (pss_one (ps_ret pe_bl))), ?_⟩
    refine ⟨.ref b, rfl, b, zs.map V.str, rfl, hB, fun it nit hle => ?_⟩
    refine ⟨.ref a, rfl, a, rfl, ⟨_, Same.sqT (same_new nit) hA⟩, ?_⟩
    have nab : ∀ c o, H c = some o → c ≠ it := fun c o e => ne_of_none e nit
    refine for_tup (K := K) (a := a) (xs := us.map V.str) (fun i σ H' => ∃ (d : Option V) (j : Nat), σ = [some (.ref a), some (.ref b), some (.ref it), d] ∧ Same H H' ∧ H' it = some (Ka.TupI b it j) ∧ sub us zs = sub (us.drop i) (zs.drop j))
      ⟨none, 0, rfl, same_new nit, upd_same, rfl⟩ (fun i σ H' _ ⟨_, _, _, sm, _⟩ => Same.sqT sm hA) ?_ ?_
    · rintro i x σ H' hx ⟨d, j, rfl, sm, hit, eq⟩
      obtain ⟨z, hz, rfl⟩ := get_map hx
      rw [drop_of_get hz] at eq
      refine ⟨.str z, rfl, .ref it, rfl, z, it, b, zs, j, rfl, rfl, hle, hit, Same.sqT sm hB, ?_⟩
      have ne : ∀ c o, H c = some o → c ≠ it := fun c o e => ne_of_none e nit
      rcases first_at z (zs.drop j) with hn | ⟨m, h1, h2⟩
      · rw [sub_none hn] at eq
        rw [eq] at q
        refine .inr ⟨fun k hk hz' => hn (k - j) (by rw [List.getElem?_drop, Nat.add_sub_cancel' hk]; exact hz'), false, rfl, q _ fun c o e => ?_⟩
        rw [ItX.dropH_ne (ne c o e)]
        exact sm c o e
      · rw [sub_hit h1 h2, List.drop_drop] at eq
        rw [List.getElem?_drop] at h1
        refine .inl ⟨j + m, Nat.le_add_right _ _, h1, fun k hk hk2 hz' => h2 (k - j) (by omega) (by rw [List.getElem?_drop, Nat.add_sub_cancel' hk]; exact hz'), true, rfl, ?_⟩
        refine ⟨_, j + m + 1, rfl, fun c o e => ?_, upd_same, eq⟩
        rw [upd_ne (ne c o e)]
        exact sm c o e
    · rintro σ H' ⟨d, j, rfl, sm, hit, eq⟩
      rw [List.length_map, List.drop_length] at eq
      have e : sub us zs = true := by rw [eq, sub]
      rw [e] at q
      exact q H' sm
end
end Kb
namespace Kb
open PySem PySem.Spec PyProof.Rows L2
/-! ### first_fit -/
section
variable {α : Type} [DecidableEq α]
/-- what is found behind i deeds of v -/
def ffN (u v : List α) : Nat → List Nat
  | 0 => []
  | i + 1 => if v[i]? ≠ none ∧ u[(ffN u v i).length]? = v[i]? then ffN u v i ++ [i] else ffN u v i
def ff (u v : List α) : List Nat := ffN u v v.length
theorem ffN_len (u v : List α) : ∀ i, (ffN u v i).length ≤ i ∧ (ffN u v i).length ≤ u.length
  | 0 => ⟨Nat.le_refl _, Nat.zero_le _⟩
  | i + 1 => by
    obtain ⟨h1, h2⟩ := ffN_len u v i
    rw [ffN]
    split
    · rename_i h
      have h3 : (ffN u v i).length < u.length := by
        cases e : u[(ffN u v i).length]? with
        | none => rw [e] at h; exact absurd h.2.symm h.1
        | some x => exact lt_of_get e
      rw [List.length_append, List.length_singleton]
      omega
    · omega
end
section
variable {P : Program} {w : World} {K : PySem.W.Frag} {mg : Str → Option Value} {base : Heap}
theorem scFirst : FnScope ["u", "v", "found", "at", "deed"] ["u", "v"] (defScope sFirst) := ⟨rfl, rfl, rfl, by decide +kernel, rfl, by decide +kernel, by decide +kernel⟩
def spFirst (K : PySem.W.Frag) : Sp := fun vs H Q _ => ∃ (a b : Addr) (us zs : List Str), vs = [.ref a, .ref b] ∧ SqT K H a (us.map V.str) ∧ SqT K H b (zs.map V.str) ∧ zs.length ≤ 100000 ∧
  ((ff us zs).length = us.length → ∀ H' p, Same H H' → H p = none → H' p = some (.tup (natV (ff us zs))) → Q (.ref p) H') ∧ ((ff us zs).length ≠ us.length → ∀ H', Same H H' → Q .non H')
theorem ok_first {f : Addr} {fd : FuncData} (F : Fun K "first_fit" "first_fit" sFirst f fd) (me : mg "enumerate" = none) (ml : mg "len" = none) (mt : mg "tuple" = none) : FnOk P w K mg base CX0 1 f fd ["u", "v"] (spFirst K) := by
  refine F.ok scFirst (fun vs H Q E h => ?_) (fun cdv A outer s H vs Q E hr h => ?_)
  · obtain ⟨a, b, us, zs, rfl, _⟩ := h
    rfl
  · obtain ⟨a, b, us, zs, rfl, hA, hB, hz, q1, q2⟩ := h
    refine ⟨_, pss_cons (ps_set (i := 2) scFirst.nd rfl (.inl rfl) (pe_lst pa_nil))
      (pss_cons (ps_for PassesOwn.never rfl (Ka.pi_enumT (by rfl) me (pa_cons (pv 1) pa_nil)) (pg_tup rfl (pgs_cons (pg_name (i := 3) scFirst.nd rfl (.inl rfl)) (pgs_cons (pg_name (i := 4) scFirst.nd rfl (.inl rfl)) pgs_nil)))
        (pss_one (ps_if (PW.pt (pw_and (pt_cmpR op_lt (pe_callB call_len_seq (by rfl) ml PySem.boot_len (pa_cons (pv 2) pa_nil)) (pe_callB call_len_seq (by rfl) ml PySem.boot_len (pa_cons (pv 0) pa_nil)) (nomark _))
            (pw_and1 (pt_cmpR op_eq (pv 4) (pe_ix ix_tup (pv 0) (pe_callB call_len_seq (by rfl) ml PySem.boot_len (pa_cons (pv 2) pa_nil)) (fun _ _ => rfl)) (nomark _)))))
          (pss_one (ps_expr (pe_bm PySem.F.plainAttrs_list PySem.F.slot_list_append PySem.F.type_list_append mt_append (pv 2) (pa_cons (pv 3) pa_nil)))) pss_nil)))
      (pss_one (ps_ret (pe_ifExp (pt_cmpR op_eq (pe_callB call_len_seq (by rfl) ml PySem.boot_len (pa_cons (pv 2) pa_nil)) (pe_callB call_len_seq (by rfl) ml PySem.boot_len (pa_cons (pv 0) pa_nil)) (nomark _))
        (pe_callTy call_tuple_of (by rfl) mt (by decide +kernel) (pa_cons (pv 2) pa_nil)) pe_non)))), ?_⟩
    refine ⟨Nat.zero_le _, fun o no => ?_⟩
    refine ⟨.ref b, rfl, b, zs.map V.str, rfl, Same.sqT (same_new no) hB, ?_⟩
    refine Ka.for_enumT (xs := zs.map V.str) (fun i σ H' => ∃ d3 d4, σ = [some (.ref a), some (.ref b), some (.ref o), d3, d4] ∧ Same H H' ∧ H' o = some (.lst (natV (ffN us zs i))))
      ⟨none, none, rfl, same_new no, upd_same⟩ (fun i σ H' ⟨_, _, _, sm, _⟩ => Same.sqT sm hB) ?_ ?_
    · rintro i x T σ H' hx ⟨d3, d4, rfl, sm, eo⟩ nT
      obtain ⟨z, hzi, rfl⟩ := get_map hx
      have hi := lt_of_get hzi
      have smT : Same H (upd H' T (.tup [.int (i : Nat), .str z])) := sm.trans (same_new nT)
      have eoT : upd H' T (.tup [.int (i : Nat), .str z]) o = some (.lst (natV (ffN us zs i))) := by
        rw [upd_ne (ne_of_none eo nT)]
        exact eo
      obtain ⟨hl1, hl2⟩ := ffN_len us zs i
      refine ⟨T, [.int (i : Nat), .str z], rfl, .inl (.inl upd_same), rfl, _, _, rfl, _, _, rfl, rfl, ?_⟩
      have hA' := Same.sqT smT hA
      refine ⟨.ref o, rfl, o, _, rfl, .inl (sqL_new eoT), .ref a, rfl, a, _, rfl, .inr hA', ?_⟩
      have hlen : (natV (ffN us zs i)).length = (ffN us zs i).length := List.length_map _
      have step : ∀ H2 : Hp, Same H H2 → H2 o = some (.lst (natV (ffN us zs (i + 1)))) → ∃ e3 e4, [some (V.ref a), some (.ref b), some (.ref o), some (.int (i : Nat)), some (.str z)] = [some (.ref a), some (.ref b), some (.ref o), e3, e4] ∧ Same H H2 ∧ H2 o = some (.lst (natV (ffN us zs (i + 1)))) :=
        fun H2 s2 e2 => ⟨_, _, rfl, s2, e2⟩
      refine ⟨_, _, rfl, rfl, _, rfl, ite2 (fun c => ?_) (fun c => ?_)⟩
      · have hlt : (ffN us zs i).length < us.length := by
          have := of_decide_eq_true c
          rw [hlen, List.length_map] at this
          omega
        have hg : (us.map V.str)[(ffN us zs i).length]? = some (.str us[(ffN us zs i).length]) := by
          rw [List.getElem?_map, List.getElem?_eq_getElem hlt]
          rfl
        refine ⟨.str z, rfl, .ref a, rfl, .ref o, rfl, o, _, rfl, .inl (sqL_new eoT), a, _, _, _, rfl, rfl, hA', at_of (by rw [hlen]) hg, rfl, _, rfl, ite2 (fun c2 => ?_) (fun c2 => ?_)⟩
        · have e2 : us[(ffN us zs i).length] = z := by
            have := of_decide_eq_true c2
            exact (V.str.inj this).symm
          have es : ffN us zs (i + 1) = ffN us zs i ++ [i] := by
            rw [ffN, if_pos]
            rw [hzi, List.getElem?_eq_getElem hlt, e2]
            exact ⟨by simp, rfl⟩
          refine ⟨.ref o, rfl, .inl ⟨rfl, _, sqL_new eoT⟩, .int (i : Nat), rfl, o, _, _, rfl, rfl, eoT, ?_, ?_⟩
          · rw [hlen]
            exact Nat.lt_of_le_of_lt (Nat.le_trans hl1 (Nat.le_of_lt hi)) (Nat.lt_of_le_of_lt hz (by rw [sizeLine_eq]; decide))
          · refine ⟨_, _, rfl, fun c u e => ?_, ?_⟩
            · rw [upd_ne (ne_of_none e no)]
              exact smT c u e
            · rw [upd_same, es]
              unfold natV
              rw [List.map_append]
              rfl
        · have es : ffN us zs (i + 1) = ffN us zs i := by
            rw [ffN, if_neg]
            rw [hzi, List.getElem?_eq_getElem hlt]
            rintro ⟨_, e⟩
            exact c2 (decide_eq_true (by rw [Option.some.inj e]))
          exact step _ smT (by rw [es]; exact eoT)
      · have es : ffN us zs (i + 1) = ffN us zs i := by
          rw [ffN, if_neg]
          rw [hzi]
          rintro ⟨_, e⟩
          have := lt_of_get e
          exact c (decide_eq_true (by rw [hlen, List.length_map]; omega))
        exact step _ smT (by rw [es]; exact eoT)
    · rintro σ H' ⟨d3, d4, rfl, sm, eo⟩
      rw [List.length_map] at eo
      have hlen : (natV (ffN us zs zs.length)).length = (ff us zs).length := List.length_map _
      have hA' := Same.sqT sm hA
      refine ⟨.ref o, rfl, o, _, rfl, .inl (sqL_new eo), .ref a, rfl, a, _, rfl, .inr hA', rfl, _, rfl, ite2 (fun c => ?_) (fun c => ?_)⟩
      · have e : (ff us zs).length = us.length := by
          have := V.int.inj (of_decide_eq_true c)
          rw [hlen, List.length_map] at this
          omega
        refine ⟨.ref o, rfl, o, _, rfl, .inl ⟨sqL_new eo, fun p np => ?_⟩⟩
        exact q1 e _ p (sm.trans (same_new np)) (sm.free np) upd_same
      · refine q2 (fun e => c (decide_eq_true ?_)) H' sm
        rw [hlen, e, List.length_map]
end
end Kb
namespace Kb
open PySem PySem.Spec PyProof.Rows L2
/-! ### last_fit -/
section
variable {α : Type} [DecidableEq α]
def lf (u v : List α) : List Nat := (ff u.reverse v.reverse).reverse.map fun i => v.length - 1 - i
theorem ffN_lt (u v : List α) : ∀ i, ∀ j ∈ ffN u v i, j < i
  | 0, j, h => by
    rw [ffN] at h
    cases h
  | i + 1, j, h => by
    rw [ffN] at h
    split at h
    · rcases List.mem_append.mp h with h | h
      · exact Nat.lt_succ_of_lt (ffN_lt u v i j h)
      · rw [List.mem_singleton.mp h]
        exact Nat.lt_succ_self _
    · exact Nat.lt_succ_of_lt (ffN_lt u v i j h)
end
section
variable {P : Program} {w : World} {K : PySem.W.Frag} {mg : Str → Option Value} {base : Heap}
theorem scLast : FnScope ["u", "v", "turned", "at"] ["u", "v"] (defScope sLast) := ⟨rfl, rfl, rfl, by decide +kernel, rfl, by decide +kernel, by decide +kernel⟩
def spLast (K : PySem.W.Frag) : Sp := fun vs H Q _ => ∃ (a b : Addr) (us zs : List Str), vs = [.ref a, .ref b] ∧ SqT K H a (us.map V.str) ∧ SqT K H b (zs.map V.str) ∧ zs.length ≤ 100000 ∧
  ((lf us zs).length = us.length → ∀ H' p, Same H H' → H p = none → H' p = some (.tup (natV (lf us zs))) → Q (.ref p) H') ∧ ((lf us zs).length ≠ us.length → ∀ H', Same H H' → Q .non H')
theorem ok_last {f fF : Addr} {fd fdF : FuncData} (F : Fun K "last_fit" "last_fit" sLast f fd) (FF : Fun K "first_fit" "first_fit" sFirst fF fdF) (bF : Binds K fdF ["u", "v"] []) (gF : mg "first_fit" = some (.ref fF)) (me : mg "enumerate" = none) (ml : mg "len" = none) (mt : mg "tuple" = none) (mr : mg "reversed" = none) : FnOk P w K mg base CX0 2 f fd ["u", "v"] (spLast K) := by
  have GF : FnOk P w K mg base CX0 1 fF fdF ["u", "v"] (spFirst K) := ok_first FF me ml mt
  refine F.ok scLast (fun vs H Q E h => ?_) (fun cdv A outer s H vs Q E hr h => ?_)
  · obtain ⟨a, b, us, zs, rfl, _⟩ := h
    rfl
  · obtain ⟨a, b, us, zs, rfl, hA, hB, hz, q1, q2⟩ := h
    refine ⟨_, pss_cons (ps_set (i := 2) scLast.nd rfl (.inl rfl) (pe_call GF hr (by rfl) gF FF.kp bF .nil pass0 (pa_cons (Ka.pe_revT (pv 0)) (pa_cons (Ka.pe_revT (pv 1)) pa_nil))))
      (pss_cons (ps_if (pt_cmpR op_isN (pv 2) pe_non (nomark _)) (pss_one (ps_ret pe_non)) pss_nil)
      (pss_one (ps_ret (pe_callTy call_tuple_of (by rfl) mt (by decide +kernel) (pa_cons
        (pe_lc (own := [("at", 3)]) (g := gName 3) (tt := tYes) rfl scLast.nd (RT.pi_revA (by rfl) mr (pv 2)) (blkOk_by (own := [("at", 3)]) (N := ["u", "v", "turned", "at"]) (sc := defScope sLast) (by decide +kernel)) (fun _ _ _ _ _ => pg_name (i := 3) scLast.nd rfl (Or.inl rfl)) (fun _ _ _ _ _ => pts_nil)
          (fun _ _ _ _ _ => pe_op op_sub (pe_op op_sub (pe_callB (len_at (K := K) rfl) (by rfl) ml PySem.boot_len (pa_cons (pv 1) pa_nil)) pe_int) (pv 3))) pa_nil))))), ?_⟩
    have rev : ∀ l : List Str, (l.map V.str).reverse = l.reverse.map V.str := fun l => List.map_reverse.symm
    refine ⟨.ref a, rfl, a, us.map V.str, rfl, hA, fun p1 n1 => ?_⟩
    have s1 := same_new (o := .tup (us.map V.str).reverse) n1
    refine ⟨.ref b, rfl, b, zs.map V.str, rfl, Same.sqT s1 hB, fun p2 n2 => ?_⟩
    have s2 := s1.trans (same_new (o := .tup (zs.map V.str).reverse) n2)
    refine ⟨p1, p2, us.reverse, zs.reverse, rfl, ?_, ?_, by rw [List.length_reverse]; exact hz, fun hL H' p sm np ep => ?_, fun hL H' sm => ?_⟩
    · rw [← rev]
      exact sqT_new (by rw [upd_ne (ne_of_none upd_same n2), upd_same])
    · rw [← rev]
      exact sqT_new upd_same
    · have sH := s2.trans sm
      refine ⟨.ref p, rfl, rfl, _, rfl, iteF ?_⟩
      refine ⟨.ref p, rfl, p, _, rfl, .inr ⟨sqT_new ep, fun D nD => ?_⟩⟩
      have hF : ∀ j ∈ ff us.reverse zs.reverse, j < zs.length := fun j hj => by
        have := ffN_lt us.reverse zs.reverse zs.reverse.length j hj
        rwa [List.length_reverse] at this
      have hn : (natV (ff us.reverse zs.reverse)).length = (lf us zs).length := by
        rw [natV_len]
        unfold lf
        rw [List.length_map, List.length_reverse]
      have hle : (lf us zs).length ≤ zs.length := by
        rw [← hn, natV_len]
        have := (ffN_len us.reverse zs.reverse zs.reverse.length).1
        rw [List.length_reverse] at this
        unfold ff
        rw [List.length_reverse]
        exact this
      refine lc_it (walk_revT (K := K) (a := p) (xs := natV (ff us.reverse zs.reverse))) (fun i H2 => Same H' H2 ∧ H2 D = some (.lst (natV ((lf us zs).take i)))) ⟨same_new nD, upd_same⟩ (fun i H2 _ h2 => Same.sqT h2.1 (sqT_new ep)) (fun i x H2 H3 hi h2 y => ?_) (fun H2 h2 => ?_)
      · obtain ⟨rfl, hx⟩ := y
        obtain ⟨s3, eD⟩ := h2
        rw [natV_len] at hi hx
        obtain ⟨j, hj, rfl⟩ := get_map hx
        have hjz := hF j (List.mem_of_getElem? hj)
        have hlast : (lf us zs)[i]? = some (zs.length - 1 - j) := by
          unfold lf
          rw [List.getElem?_map, List.getElem?_reverse hi, hj]
          rfl
        have hB' : SqT K H3 b (zs.map V.str) := Same.sqT (sH.trans s3) hB
        refine ⟨rfl, ?_⟩
        refine ⟨.ref b, rfl, b, _, rfl, .inr hB', ⟨_, _, rfl, rfl, .int (j : Nat), rfl, _, _, rfl, rfl, natV ((lf us zs).take i), eD, ?_, fun c u e => ?_, ?_⟩⟩
        · rw [natV_len, List.length_take]
          exact small (by omega)
        · rw [upd_ne (ne_of_none e nD)]
          exact s3 c u e
        · rw [upd_same, take_of_get hlast, List.length_map]
          unfold natV
          rw [List.map_append]
          have e : (zs.length : Int) - 1 - (j : Int) = ((zs.length - 1 - j : Nat) : Int) := by omega
          have e2 : V.int ((zs.length : Int) - 1 - (j : Int)) = V.int ((zs.length - 1 - j : Nat) : Int) := by rw [e]
          show some (HO.lst (_ ++ [V.int ((zs.length : Int) - 1 - (j : Int))])) = _
          rw [e2]
          rfl
      · obtain ⟨s3, eD⟩ := h2
        rw [hn, List.take_length] at eD
        refine ⟨D, _, rfl, .inl ⟨sqL_new eD, fun l nl => ?_⟩⟩
        refine q1 ?_ _ l ((sH.trans s3).trans (same_new nl)) ((sH.trans s3).free nl) upd_same
        rw [← hn, natV_len, hL, List.length_reverse]
    · refine ⟨.non, rfl, rfl, _, rfl, iteT ?_⟩
      refine q2 ?_ H' (s2.trans sm)
      intro e
      refine hL ?_
      unfold lf at e
      rw [List.length_map, List.length_reverse] at e
      rw [e, List.length_reverse]
end
end Kb
namespace Kb
open PySem PySem.Spec PyProof.Rows L2
/-! ### fits: the mathematics of the table -/
section
variable {α : Type} [DecidableEq α]
/-- the places of d in the first n of u -/
def occ (u : List α) (d : α) : Nat → List Nat
  | 0 => []
  | n + 1 => occ u d n ++ if u[n]? = some d then [n] else []
theorem mem_occ (u : List α) (d : α) : ∀ (n j : Nat), j ∈ occ u d n ↔ j < n ∧ u[j]? = some d
  | 0, j => by simp [occ]
  | n + 1, j => by
    rw [occ, List.mem_append, mem_occ u d n j]
    split
    · rename_i h
      rw [List.mem_singleton]
      constructor
      · rintro (⟨h1, h2⟩ | rfl)
        · exact ⟨by omega, h2⟩
        · exact ⟨by omega, h⟩
      · rintro ⟨h1, h2⟩
        by_cases e : j = n
        · exact .inr e
        · exact .inl ⟨by omega, h2⟩
    · rename_i h
      constructor
      · rintro (⟨h1, h2⟩ | h2)
        · exact ⟨by omega, h2⟩
        · cases h2
      · rintro ⟨h1, h2⟩
        by_cases e : j = n
        · exact absurd (e ▸ h2) h
        · exact .inl ⟨by omega, h2⟩
theorem occ_asc (u : List α) (d : α) : ∀ n, (occ u d n).Pairwise (· < ·)
  | 0 => List.Pairwise.nil
  | n + 1 => by
    rw [occ, List.pairwise_append]
    refine ⟨occ_asc u d n, ?_, fun a ha b hb => ?_⟩
    · split
      · exact List.pairwise_singleton _ _
      · exact List.Pairwise.nil
    · have h1 := ((mem_occ u d n a).mp ha).1
      split at hb
      · rw [List.mem_singleton.mp hb]
        exact h1
      · cases hb
theorem occ_len (u : List α) (d : α) : ∀ n, (occ u d n).length ≤ n
  | 0 => Nat.le_refl _
  | n + 1 => by
    have := occ_len u d n
    rw [occ, List.length_append]
    split
    · rw [List.length_singleton]; omega
    · rw [List.length_nil]; omega
/-- the table behind some of v -/
def tab (u v : List α) : List Int := (List.range (u.length + 1)).map fun k => ((Ka.cnt (u.take k) v : Nat) : Int)
theorem tab_len (u v : List α) : (tab u v).length = u.length + 1 := by
  unfold tab
  rw [List.length_map, List.length_range]
theorem tab_get {u v : List α} {k : Nat} (h : k ≤ u.length) : (tab u v)[k]? = some ((Ka.cnt (u.take k) v : Nat) : Int) := by
  unfold tab
  rw [List.getElem?_map, List.getElem?_range (by omega)]
  rfl
/-- the table while d is put behind v: above t it is the new one -/
def mix (u v : List α) (d : α) (t : Nat) : List Int := (List.range (u.length + 1)).map fun k => if t < k then ((Ka.cnt (u.take k) (v ++ [d]) : Nat) : Int) else ((Ka.cnt (u.take k) v : Nat) : Int)
theorem mix_len (u v : List α) (d : α) (t : Nat) : (mix u v d t).length = u.length + 1 := by
  unfold mix
  rw [List.length_map, List.length_range]
theorem mix_get {u v : List α} {d : α} {t k : Nat} (h : k ≤ u.length) : (mix u v d t)[k]? = some (if t < k then ((Ka.cnt (u.take k) (v ++ [d]) : Nat) : Int) else ((Ka.cnt (u.take k) v : Nat) : Int)) := by
  unfold mix
  rw [List.getElem?_map, List.getElem?_range (by omega)]
  rfl
theorem mix_start (u v : List α) (d : α) : mix u v d u.length = tab u v := by
  apply List.ext_getElem?
  intro k
  by_cases h : k ≤ u.length
  · rw [mix_get h, tab_get h, if_neg (by omega)]
  · rw [List.getElem?_eq_none (by rw [mix_len]; omega), List.getElem?_eq_none (by rw [tab_len]; omega)]
/-- a place that is none of d's -/
theorem cnt_other {u v : List α} {d : α} {k : Nat} (h : u[k]? ≠ some d) (hk : k < u.length) : Ka.cnt (u.take (k + 1)) (v ++ [d]) = Ka.cnt (u.take (k + 1)) v := by
  obtain ⟨x, hx⟩ : ∃ x, u[k]? = some x := ⟨u[k], List.getElem?_eq_getElem hk⟩
  rw [take_of_get hx, Ka.cnt_snoc_snoc, if_neg (fun e => h (by rw [hx, e])), Nat.add_zero]
theorem cnt_hit {u v : List α} {d : α} {k : Nat} (h : u[k]? = some d) : Ka.cnt (u.take (k + 1)) (v ++ [d]) = Ka.cnt (u.take (k + 1)) v + Ka.cnt (u.take k) v := by
  rw [take_of_get h, Ka.cnt_snoc_snoc, if_pos rfl]
/-- one turn: the place j, the one before it of those that are left above t -/
theorem mix_step {u v : List α} {d : α} {t j : Nat} (hj : u[j]? = some d) (hjt : j < t) (gap : ∀ k, j < k → k < t → u[k]? ≠ some d) :
    (mix u v d t).set (j + 1) ((((Ka.cnt (u.take (j + 1)) v : Nat) : Int)) + ((Ka.cnt (u.take j) v : Nat) : Int)) = mix u v d j := by
  have hju := lt_of_get hj
  apply List.ext_getElem?
  intro k
  by_cases h : k ≤ u.length
  · rw [mix_get h]
    by_cases e : k = j + 1
    · subst e
      rw [List.getElem?_set_self (by rw [mix_len]; omega), if_pos (Nat.lt_succ_self _), cnt_hit hj]
      rfl
    · rw [List.getElem?_set_ne (Ne.symm e), mix_get h]
      by_cases h1 : k ≤ j
      · rw [if_neg (by omega), if_neg (by omega)]
      · rw [if_pos (show j < k by omega)]
        by_cases h2 : t < k
        · rw [if_pos h2]
        · rw [if_neg h2]
          obtain ⟨m, rfl⟩ : ∃ m, k = m + 1 := ⟨k - 1, by omega⟩
          rw [cnt_other (gap m (by omega) (by omega)) (by omega)]
  · rw [List.getElem?_eq_none (by rw [List.length_set, mix_len]; omega), List.getElem?_eq_none (by rw [mix_len]; omega)]
theorem mix_end {u v : List α} {d : α} {t : Nat} (ht : t ≤ u.length) (low : ∀ k, k < t → u[k]? ≠ some d) : mix u v d t = tab u (v ++ [d]) := by
  apply List.ext_getElem?
  intro k
  by_cases h : k ≤ u.length
  · rw [mix_get h, tab_get h]
    by_cases h1 : t < k
    · rw [if_pos h1]
    · rw [if_neg h1]
      cases k with
      | zero =>
        rw [List.take_zero, Ka.cnt_nil, Ka.cnt_nil]
      | succ m => rw [cnt_other (low m (by omega)) (by omega)]
  · rw [List.getElem?_eq_none (by rw [mix_len]; omega), List.getElem?_eq_none (by rw [tab_len]; omega)]
theorem tab_nil (u : List α) : tab u ([] : List α) = 1 :: List.replicate u.length 0 := by
  apply List.ext_getElem?
  intro k
  by_cases h : k ≤ u.length
  · rw [tab_get h]
    cases k with
    | zero =>
      rw [List.take_zero, Ka.cnt_nil]
      rfl
    | succ m =>
      have hm : m < u.length := by omega
      rw [take_of_get (List.getElem?_eq_getElem hm), Ka.cnt_snoc_nil, List.getElem?_cons_succ, List.getElem?_replicate, if_pos hm]
      rfl
  · rw [List.getElem?_eq_none (by rw [tab_len]; omega), List.getElem?_eq_none (by simp; omega)]
end

/-- the dict of places: each deed's own list -/
structure PL (H0 H : Hp) (pl : Addr) (us : List Str) (i : Nat) (kvs : List (L2.Key × V)) : Prop where
  dict : H pl = some (.dK kvs)
  len : kvs.length ≤ i
  at_ : ∀ d : Str, (valV kvs (.inr d) = none ∧ occ us d i = []) ∨ ∃ l, valV kvs (.inr d) = some (.ref l) ∧ H l = some (.lst (natV (occ us d i))) ∧ H0 l = none
  inj : ∀ (d d' : Str) (l : Addr), valV kvs (.inr d) = some (.ref l) → valV kvs (.inr d') = some (.ref l) → d = d'
theorem PL.mono {H0 H H' : Hp} {pl : Addr} {us : List Str} {i : Nat} {kvs : List (L2.Key × V)} (p : PL H0 H pl us i kvs) (s : Same H H') : PL H0 H' pl us i kvs :=
  ⟨s _ _ p.dict, p.len, fun d => (p.at_ d).imp id fun ⟨l, a, b, c⟩ => ⟨l, a, s _ _ b, c⟩, p.inj⟩
theorem PL.monoBut {H0 H H' : Hp} {pl mm : Addr} {us : List Str} {i : Nat} {kvs : List (L2.Key × V)} (p : PL H0 H pl us i kvs) (lone : ∀ (c : Addr) (o : HO), H c = some o → ((∃ kvs, o = .dK kvs) ∨ ∃ l : List Nat, l.length ≤ i ∧ o = .lst (natV l)) → c ≠ mm)
    (s : ∀ c u, c ≠ mm → H c = some u → H' c = some u) : PL H0 H' pl us i kvs :=
  ⟨s _ _ (lone _ _ p.dict (.inl ⟨_, rfl⟩)) p.dict, p.len, fun d => (p.at_ d).imp id fun ⟨l, a, b, c⟩ => ⟨l, a, s _ _ (lone _ _ b (.inr ⟨_, occ_len us d i, rfl⟩)) b, c⟩, p.inj⟩
theorem occ_same {us : List Str} {z d : Str} {i : Nat} (h : us[i]? = some z) (hne : d ≠ z) : occ us d (i + 1) = occ us d i := by
  rw [occ, if_neg (fun e => by rw [h] at e; exact hne (Option.some.inj e).symm), List.append_nil]
theorem occ_more {us : List Str} {z : Str} {i : Nat} (h : us[i]? = some z) : occ us z (i + 1) = occ us z i ++ [i] := by
  rw [occ, if_pos h]
theorem natV_snoc (l : List Nat) (i : Nat) : natV (l ++ [i]) = natV l ++ [V.int (i : Nat)] := by
  unfold natV
  rw [List.map_append]
  rfl
/-- the list that is there grows -/
theorem PL.grow {H0 H : Hp} {pl l : Addr} {us : List Str} {i : Nat} {kvs : List (L2.Key × V)} {z : Str} (p : PL H0 H pl us i kvs) (hz : us[i]? = some z) (hl : valV kvs (.inr z) = some (.ref l)) :
    H l = some (.lst (natV (occ us z i))) ∧ H0 l = none ∧ PL H0 (upd H l (.lst (natV (occ us z i) ++ [.int (i : Nat)]))) pl us (i + 1) kvs := by
  rcases p.at_ z with ⟨e, _⟩ | ⟨l', e1, e2, e3⟩
  · rw [hl] at e
    cases e
  · rw [hl] at e1
    cases e1
    have npl : pl ≠ l := ne_of p.dict e2 (fun w => nomatch w)
    refine ⟨e2, e3, ⟨by rw [upd_ne npl]; exact p.dict, Nat.le_succ_of_le p.len, fun d => ?_, p.inj⟩⟩
    by_cases hd : d = z
    · subst hd
      exact .inr ⟨l, hl, by rw [upd_same, occ_more hz, natV_snoc], e3⟩
    · rw [occ_same hz hd]
      rcases p.at_ d with h | ⟨m, a, b, c⟩
      · exact .inl h
      · have hne : m ≠ l := fun w => hd (p.inj d z l (by rw [← w]; exact a) hl)
        exact .inr ⟨m, a, by rw [upd_ne hne]; exact b, c⟩
/-- a new list -/
theorem PL.fresh {H0 H : Hp} {pl nl : Addr} {us : List Str} {i : Nat} {kvs : List (L2.Key × V)} {z : Str} (p : PL H0 H pl us i kvs) (hz : us[i]? = some z) (hl : valV kvs (.inr z) = none) (hn : H nl = none) (hn0 : H0 nl = none) (h0 : H0 pl = none) :
    PL H0 (upd (upd (upd H nl (.lst [])) pl (.dK (putK kvs (.inr z) (.ref nl)))) nl (.lst ([] ++ [.int (i : Nat)]))) pl us (i + 1) (putK kvs (.inr z) (.ref nl)) := by
  have npl : pl ≠ nl := ne_of_none p.dict hn
  have hocc : occ us z i = [] := by
    rcases p.at_ z with ⟨_, e⟩ | ⟨l', e1, _⟩
    · exact e
    · rw [hl] at e1
      cases e1
  have val : ∀ d : Str, valV (putK kvs (.inr z) (.ref nl)) (.inr d) = if d = z then some (.ref nl) else valV kvs (.inr d) := fun d => by
    rw [valV_put]
    by_cases e : d = z
    · subst e
      rw [if_pos rfl, if_pos rfl]
    · rw [if_neg (fun w => e (Sum.inr.inj w)), if_neg e]
  have notnl : ∀ (d : Str) (m : Addr), valV kvs (.inr d) = some (.ref m) → m ≠ nl := fun d m hm => by
    rcases p.at_ d with ⟨e, _⟩ | ⟨l', e1, e2, _⟩
    · rw [hm] at e
      cases e
    · rw [hm] at e1
      cases e1
      exact ne_of_none e2 hn
  refine ⟨by rw [upd_ne npl, upd_same], ?_, fun d => ?_, fun d d' l a b => ?_⟩
  · have := length_putK kvs (.inr z : L2.Key) (.ref nl)
    have := p.len
    omega
  · rw [val]
    by_cases hd : d = z
    · subst hd
      rw [if_pos rfl]
      exact .inr ⟨nl, rfl, by rw [upd_same, occ_more hz, hocc, natV_snoc]; rfl, hn0⟩
    · rw [if_neg hd, occ_same hz hd]
      rcases p.at_ d with h | ⟨m, a, b, c⟩
      · exact .inl h
      · have h1 : m ≠ nl := notnl d m a
        have h2 : m ≠ pl := fun w => by
          rw [w, p.dict] at b
          cases b
        exact .inr ⟨m, a, by rw [upd_ne h1, upd_ne h2, upd_ne h1]; exact b, c⟩
  · rw [val] at a b
    by_cases hd : d = z
    · by_cases hd' : d' = z
      · rw [hd, hd']
      · rw [if_pos hd] at a
        rw [if_neg hd'] at b
        cases a
        exact absurd rfl (notnl d' nl b)
    · rw [if_neg hd] at a
      by_cases hd' : d' = z
      · rw [if_pos hd'] at b
        cases b
        exact absurd rfl (notnl d nl a)
      · rw [if_neg hd'] at b
        exact p.inj d d' l a b
/-- the place done last, of m done from the end -/
def thr (L : List Nat) (n m : Nat) : Nat := (L[L.length - m]?).getD n
theorem thr_zero (L : List Nat) (n : Nat) : thr L n 0 = n := by
  unfold thr
  rw [Nat.sub_zero, List.getElem?_eq_none (Nat.le_refl _)]
  rfl
theorem thr_succ {L : List Nat} {n m j : Nat} (hm : m < L.length) (hj : L[L.length - 1 - m]? = some j) : thr L n (m + 1) = j := by
  unfold thr
  rw [show L.length - (m + 1) = L.length - 1 - m by omega, hj]
  rfl
theorem asc_lt {L : List Nat} (h : L.Pairwise (· < ·)) {p q x y : Nat} (hp : L[p]? = some x) (hq : L[q]? = some y) (l : p < q) : x < y := by
  obtain ⟨h1, rfl⟩ := List.getElem?_eq_some_iff.mp hp
  obtain ⟨h2, rfl⟩ := List.getElem?_eq_some_iff.mp hq
  exact List.pairwise_iff_getElem.mp h p q h1 h2 l
theorem thr_gap {L : List Nat} (h : L.Pairwise (· < ·)) {n m j : Nat} (hm : m < L.length) (hj : L[L.length - 1 - m]? = some j) (hn : ∀ k ∈ L, k < n) : j < thr L n m ∧ ∀ k, j < k → k < thr L n m → k ∉ L := by
  cases m with
  | zero =>
    rw [thr_zero]
    refine ⟨hn j (List.mem_of_getElem? hj), fun k h1 h2 hk => ?_⟩
    obtain ⟨p, hp⟩ := List.getElem?_of_mem hk
    have hpl := lt_of_get hp
    by_cases e : p = L.length - 1 - 0
    · rw [e, hj] at hp
      have := Option.some.inj hp
      omega
    · have := asc_lt h hp hj (by omega)
      omega
  | succ m =>
    obtain ⟨x, hx⟩ : ∃ x, L[L.length - (m + 1)]? = some x := ⟨_, List.getElem?_eq_getElem (by omega)⟩
    have e : thr L n (m + 1) = x := by
      unfold thr
      rw [hx]
      rfl
    rw [e]
    refine ⟨asc_lt h hj hx (by omega), fun k h1 h2 hk => ?_⟩
    obtain ⟨p, hp⟩ := List.getElem?_of_mem hk
    by_cases e1 : p ≤ L.length - 1 - (m + 1)
    · by_cases e2 : p = L.length - 1 - (m + 1)
      · rw [e2, hj] at hp
        have := Option.some.inj hp
        omega
      · have := asc_lt h hp hj (by omega)
        omega
    · by_cases e2 : p = L.length - (m + 1)
      · rw [e2, hx] at hp
        have := Option.some.inj hp
        omega
      · have := asc_lt h hx hp (by omega)
        omega
/-- behind all of them -/
theorem thr_end {L : List Nat} (h : L.Pairwise (· < ·)) {n : Nat} (hn : ∀ k ∈ L, k < n) : thr L n L.length ≤ n ∧ ∀ k, k < thr L n L.length → k ∉ L := by
  cases L with
  | nil =>
    rw [List.length_nil, thr_zero]
    exact ⟨Nat.le_refl _, fun k _ hk => by cases hk⟩
  | cons x L =>
    have e : thr (x :: L) n (x :: L).length = x := by
      unfold thr
      rw [Nat.sub_self]
      rfl
    rw [e]
    refine ⟨Nat.le_of_lt (hn x List.mem_cons_self), fun k hk hm => ?_⟩
    rcases List.mem_cons.mp hm with e2 | e2
    · omega
    · have := List.rel_of_pairwise_cons h e2
      omega
section
variable {P : Program} {w : World} {K : PySem.W.Frag} {mg : Str → Option Value} {base : Heap}
theorem scFits : FnScope ["u", "v", "places", "at", "deed", "many"] ["u", "v"] (defScope sFits) := ⟨rfl, rfl, rfl, by decide +kernel, rfl, by decide +kernel, by decide +kernel⟩
def spFits (K : PySem.W.Frag) : Sp := fun vs H Q _ => ∃ (a b : Addr) (us zs : List Str), vs = [.ref a, .ref b] ∧ SqT K H a (us.map V.str) ∧ SqT K H b (zs.map V.str) ∧ us.length ≤ 100000 ∧ ∀ H', Same H H' → Q (.int (Ka.cnt us zs : Nat)) H'
theorem ok_fits {f : Addr} {fd : FuncData} (F : Fun K "fits" "fits" sFits f fd) (me : mg "enumerate" = none) (ml : mg "len" = none) (mr : mg "reversed" = none) : FnOk P w K mg base CX0 1 f fd ["u", "v"] (spFits K) := by
  refine F.ok scFits (fun vs H Q E h => ?_) (fun cdv A outer s H vs Q E hr h => ?_)
  · obtain ⟨a, b, us, zs, rfl, _⟩ := h
    rfl
  · obtain ⟨a, b, us, zs, rfl, hA, hB, hz, q⟩ := h
    refine ⟨_, pss_cons (ps_set (i := 2) scFits.nd rfl (.inl rfl) pe_dnewK)
      (pss_cons (ps_for PassesOwn.never rfl (Ka.pi_enumT (by rfl) me (pa_cons (pv 0) pa_nil)) (pg_tup rfl (pgs_cons (pg_name (i := 3) scFits.nd rfl (.inl rfl)) (pgs_cons (pg_name (i := 4) scFits.nd rfl (.inl rfl)) pgs_nil)))
        (pss_one (ps_expr (pe_bm PySem.F.plainAttrs_list PySem.F.slot_list_append PySem.F.type_list_append mt_append (pe_dsetd (pv 2) (pv 4) (pe_lst pa_nil) ⟨rfl, rfl, rfl, rfl⟩) (pa_cons (pv 3) pa_nil)))))
      (pss_cons (ps_set (i := 5) scFits.nd rfl (.inl rfl) (pe_op op_cat (pe_lst (pa_cons pe_int pa_nil)) (pe_op op_rep (pe_lst (pa_cons pe_int pa_nil)) (pe_callB call_len_seq (by rfl) ml PySem.boot_len (pa_cons (pv 0) pa_nil)))))
      (pss_cons (ps_for PassesOwn.never rfl (pi_tup (pv 1)) (pg_name (i := 4) scFits.nd rfl (.inl rfl))
        (pss_one (ps_for PassesOwn.never rfl (RT.pi_revA (by rfl) mr (pe_dget2 (hu_of hr) (pv 2) (pv 4) (pe_tup pa_nil) ⟨rfl, rfl, rfl, rfl⟩)) (pg_name (i := 3) scFits.nd rfl (.inl rfl))
          (pss_one (ps_augS (pv 5) (pe_op op_add (pv 3) pe_int) Ka.get_list (pe_ix ix_list (pv 5) (pv 3) (fun _ _ => rfl)) ip_add set_list)))))
      (pss_one (ps_ret (pe_ix ix_list (pv 5) (pe_callB call_len_seq (by rfl) ml PySem.boot_len (pa_cons (pv 0) pa_nil)) (fun _ _ => rfl))))))), ?_⟩
    -- places = {}
    refine fun pl npl => ?_
    have s0 := same_new (o := .dK []) npl
    refine ⟨.ref a, rfl, a, us.map V.str, rfl, Same.sqT s0 hA, ?_⟩
    refine Ka.for_enumT (xs := us.map V.str) (fun i σ H' => ∃ d3 d4 kvs, σ = [some (.ref a), some (.ref b), some (.ref pl), d3, d4, none] ∧ Same H H' ∧ PL H H' pl us i kvs)
      ⟨none, none, [], rfl, s0, ⟨upd_same, Nat.le_refl _, fun d => .inl ⟨rfl, rfl⟩, fun d d' l h => by cases h⟩⟩ (fun i σ H' ⟨_, _, _, _, sm, _⟩ => Same.sqT sm hA) ?_ ?_
    · rintro i x T σ H' hx ⟨d3, d4, kvs, rfl, sm, pL⟩ nT
      obtain ⟨z, hzi, rfl⟩ := get_map hx
      have hi := lt_of_get hzi
      have sT := same_new (o := .tup [.int (i : Nat), .str z]) nT
      have pT := pL.mono sT
      refine ⟨T, [.int (i : Nat), .str z], rfl, .inl (.inl upd_same), rfl, _, _, rfl, _, _, rfl, rfl, ?_⟩
      refine ⟨.ref pl, rfl, pl, rfl, .inl ⟨_, .inl pT.dict⟩, .str z, rfl, Nat.zero_le _, fun nl nnl => ?_⟩
      have sN := same_new (o := .lst []) nnl
      have pN := pT.mono sN
      have smN : Same H (upd (upd H' T (.tup [.int (i : Nat), .str z])) nl (.lst [])) := (sm.trans sT).trans sN
      have szl : ∀ n, n ≤ us.length → n < sizeLine := fun n h => small (by omega)
      refine ⟨kvs, .inr z, pN.dict, rfl, szl _ (Nat.le_trans pN.len (Nat.le_of_lt hi)), fun v hv => ?_, fun hv => ?_⟩
      · obtain ⟨l, rfl⟩ : ∃ l, v = .ref l := by
          rcases pN.at_ z with ⟨e, _⟩ | ⟨l, e, _⟩
          · rw [hv] at e
            cases e
          · rw [hv] at e
            exact ⟨l, Option.some.inj e⟩
        obtain ⟨e1, e2, pG⟩ := pN.grow hzi hv
        refine ⟨.inl ⟨rfl, _, sqL_new e1⟩, .int (i : Nat), rfl, l, _, _, rfl, rfl, e1, ?_, ?_⟩
        · rw [natV_len]
          exact szl _ (Nat.le_trans (occ_len us z i) (Nat.le_of_lt hi))
        · refine ⟨_, _, kvs, rfl, fun c u e => ?_, pG⟩
          rw [upd_ne (ne_of_none e e2)]
          exact smN c u e
      · have ndp : nl ≠ pl := (ne_of_none pT.dict nnl).symm
        refine ⟨.inl ⟨rfl, [], sqL_new (by rw [upd_ne ndp, upd_same])⟩, .int (i : Nat), rfl, nl, [], _, rfl, rfl, (by rw [upd_ne ndp, upd_same]), szl 0 (Nat.zero_le _), ?_⟩
        refine ⟨_, _, _, rfl, fun c u e => ?_, pT.fresh hzi hv nnl ((sm.trans sT).free nnl) npl⟩
        rw [upd_ne (ne_of_none e ((sm.trans sT).free nnl)), upd_ne (ne_of_none e npl)]
        exact smN c u e
    · rintro σ H1 ⟨d3, d4, kvs, rfl, sm, pL⟩
      rw [List.length_map] at pL
      have s1000 : ∀ n, n ≤ 1000000 → n ≤ sizeLine := fun n h => smallE h
      refine ⟨s1000 1 (by decide), fun l1 n1 => ⟨s1000 1 (by decide), fun l2 n2 => ?_⟩⟩
      have sa := same_new (o := .lst [.int 1]) n1
      have sb := same_new (o := .lst [.int 0]) n2
      have e1 : upd (upd H1 l1 (.lst [.int 1])) l2 (.lst [.int 0]) l1 = some (.lst [.int 1]) := sb _ _ upd_same
      refine ⟨.ref a, rfl, a, _, rfl, .inr (Same.sqT ((sm.trans sa).trans sb) hA), l2, _, [.int 0], rfl, rfl, upd_same, by rw [List.length_map]; omega, by rw [List.length_map]; omega, by rw [List.length_map]; show 1 * _ ≤ _; rw [Int.toNat_natCast]; exact s1000 _ (by omega), fun l3 n3 => ?_⟩
      have sc := same_new (o := .lst (List.replicate ((us.map V.str).length : Int).toNat [V.int 0]).flatten) n3
      refine ⟨l1, l3, [.int 1], _, rfl, rfl, sc _ _ e1, upd_same, ?_, fun mm nm => ?_⟩
      · rw [List.length_map, Int.toNat_natCast, List.length_flatten, List.map_replicate, List.sum_replicate_nat]
        exact s1000 _ (by simp; omega)
      have sd := same_new (o := .lst ([.int 1] ++ (List.replicate ((us.map V.str).length : Int).toNat [V.int 0]).flatten)) nm
      have sAll := (((sa.trans sb).trans sc).trans sd)
      have etab : [V.int 1] ++ (List.replicate ((us.map V.str).length : Int).toNat [V.int 0]).flatten = intV (tab us ([] : List Str)) := by
        rw [tab_nil, List.length_map, Int.toNat_natCast, List.flatten_replicate_singleton]
        unfold intV
        rw [List.map_cons, List.map_replicate]
        rfl
      rw [etab] at sAll
      rw [etab]
      have nmm : H mm = none := ((((sm.trans sa).trans sb).trans sc)).free nm
      refine ⟨.ref b, rfl, b, rfl, ⟨_, Same.sqT (sm.trans sAll) hB⟩, ?_⟩
      refine for_tup (K := K) (a := b) (xs := zs.map V.str) (fun i σ H' => ∃ d3 d4, σ = [some (.ref a), some (.ref b), some (.ref pl), d3, d4, some (.ref mm)] ∧ Same H H' ∧ PL H H' pl us us.length kvs ∧ H' mm = some (.lst (intV (tab us (zs.take i)))))
        ⟨d3, d4, rfl, sm.trans sAll, pL.mono sAll, upd_same⟩ (fun i σ H' _ ⟨_, _, _, s', _⟩ => Same.sqT s' hB) ?_ ?_
      · rintro i x σ H' hx ⟨e3, e4, rfl, s', p', em⟩
        obtain ⟨z, hzi, rfl⟩ := get_map hx
        have hi := lt_of_get hzi
        refine ⟨.ref pl, rfl, pl, rfl, .inl ⟨kvs, .inl p'.dict⟩, .str z, rfl, Nat.zero_le _, fun t nt => ?_⟩
        have st := same_new (o := .tup []) nt
        have pt := p'.mono st
        have em' := st _ _ em
        have lone : ∀ (c : Addr) (o : HO), upd H' t (.tup []) c = some o → ((∃ kvs, o = .dK kvs) ∨ ∃ l : List Nat, l.length ≤ us.length ∧ o = .lst (natV l)) → c ≠ mm := fun c o h1 h2 w => by
          rw [w, em'] at h1
          rcases h2 with ⟨kvs, rfl⟩ | ⟨l, hl, rfl⟩
          · cases h1
          · have := Option.some.inj h1
            have h1 := congrArg (fun o => match o with | HO.lst xs => xs.length | _ => 0) this
            simp only [natV_len, intV_len, tab_len] at h1
            omega
        have done : ∀ (σ2 : L2.St) (H2 : Hp), (∃ e3 : Option V, σ2 = [some (.ref a), some (.ref b), some (.ref pl), e3, some (.str z), some (.ref mm)]) → (∀ c u, c ≠ mm → upd H' t (.tup []) c = some u → H2 c = some u) → H2 mm = some (.lst (intV (tab us (zs.take i ++ [z])))) →
            ∃ d3 d4, σ2 = [some (.ref a), some (.ref b), some (.ref pl), d3, d4, some (.ref mm)] ∧ Same H H2 ∧ PL H H2 pl us us.length kvs ∧ H2 mm = some (.lst (intV (tab us (zs.take (i + 1))))) := fun σ2 H2 ⟨e3, e⟩ s2 e2 => by
          refine ⟨_, _, e, fun c u w => s2 c u (ne_of_none w nmm) ((s'.trans st) c u w), pt.monoBut lone s2, ?_⟩
          rw [take_of_get hzi]
          exact e2
        have asc := occ_asc us z us.length
        have inL : ∀ k, k ∈ occ us z us.length ↔ k < us.length ∧ us[k]? = some z := fun k => mem_occ us z us.length k
        refine ⟨valV kvs (.inr z), DGet.k (k := Sum.inr z) pt.dict, ?_⟩
        rcases pt.at_ z with ⟨ev, eo⟩ | ⟨l, ev, el, nl⟩
        · rw [ev]
          refine ⟨t, [], rfl, .inr ⟨sqT_new upd_same, ?_⟩⟩
          refine for_it (walk_revT (K := K) (a := t) (xs := [])) (fun _ σ2 H2 => σ2 = [some (.ref a), some (.ref b), some (.ref pl), e3, some (.str z), some (.ref mm)] ∧ H2 = upd H' t (.tup [])) ⟨rfl, rfl⟩ (fun _ σ2 H2 _ h => by rw [h.2]; exact sqT_new upd_same) (fun i x σ2 H2 H3 h => absurd h (Nat.not_lt_zero _)) (fun σ2 H2 h => ?_)
          obtain ⟨rfl, rfl⟩ := h
          refine done _ _ ⟨_, rfl⟩ (fun c u _ e => e) ?_
          rw [← mix_end (Nat.le_refl _) (fun k hk e => ?_), mix_start]
          · exact em'
          · have := (inL k).mpr ⟨hk, e⟩
            rw [eo] at this
            cases this
        · rw [ev]
          have nlmm : mm ≠ l := (lone l _ el (.inr ⟨_, occ_len us z us.length, rfl⟩)).symm
          refine ⟨l, natV (occ us z us.length), rfl, .inl ⟨sqL_new el, ?_⟩⟩
          refine for_it (walk_rev (K := K) (a := l) (xs := natV (occ us z us.length))) (fun m σ2 H2 => (∃ e3, σ2 = [some (.ref a), some (.ref b), some (.ref pl), e3, some (.str z), some (.ref mm)]) ∧ (∀ c u, c ≠ mm → upd H' t (.tup []) c = some u → H2 c = some u) ∧ H2 mm = some (.lst (intV (mix us (zs.take i) z (thr (occ us z us.length) us.length m)))))
            ⟨⟨_, rfl⟩, fun c u _ e => e, by rw [thr_zero, mix_start]; exact em'⟩ (fun m σ2 H2 _ h => sqL_new (h.2.1 l _ nlmm.symm el)) (fun m x σ2 H2 H3 hm h y => ?_) (fun σ2 H2 h => ?_)
          · obtain ⟨⟨d3, rfl⟩, sk, e2⟩ := h
            obtain ⟨rfl, hx⟩ := y
            rw [natV_len] at hm hx
            obtain ⟨j, hj, rfl⟩ := get_map hx
            have hju := (inL j).mp (List.mem_of_getElem? hj)
            have hju1 := hju.1
            obtain ⟨g1, g2⟩ := thr_gap asc hm hj (fun k hk => ((inL k).mp hk).1)
            have gap : ∀ k, j < k → k < thr (occ us z us.length) us.length m → us[k]? ≠ some z := fun k h1 h2 e => g2 k h1 h2 ((inL k).mpr ⟨lt_of_get e, e⟩)
            have get1 := mix_get (u := us) (v := zs.take i) (d := z) (t := thr (occ us z us.length) us.length m) (k := j + 1) (by omega)
            rw [if_neg (by omega)] at get1
            have get0 := mix_get (u := us) (v := zs.take i) (d := z) (t := thr (occ us z us.length) us.length m) (k := j) (by omega)
            rw [if_neg (by omega)] at get0
            refine ⟨.ref mm, rfl, .int (j : Nat), rfl, (j : Nat), 1, rfl, rfl, mm, _, j + 1, _, rfl, rfl, sqL_new e2, by omega, intV_get get1, .ref mm, rfl, .int (j : Nat), rfl, mm, _, _, _, rfl, rfl, sqL_new e2, at_of rfl (intV_get get0), _, _, rfl, rfl, mm, _, _, j + 1, rfl, rfl, e2, ?_, ?_⟩
            · rw [intV_len, mix_len]
              exact Evl.ixN_nat (j := j + 1) (show j + 1 < us.length + 1 by omega)
            · refine ⟨⟨_, rfl⟩, fun c u hc e => by rw [upd_ne hc]; exact sk c u hc e, ?_⟩
              rw [upd_same, thr_succ hm hj, ← mix_step hju.2 g1 gap]
              unfold intV
              rw [List.map_set]
          · obtain ⟨⟨d3, rfl⟩, sk, e2⟩ := h
            rw [natV_len] at e2
            obtain ⟨g1, g2⟩ := thr_end asc (n := us.length) (fun k hk => ((inL k).mp hk).1)
            rw [mix_end g1 (fun k hk e => g2 k hk ((inL k).mpr ⟨lt_of_get e, e⟩))] at e2
            exact done _ _ ⟨_, rfl⟩ sk e2
      · rintro σ H' ⟨e3, e4, rfl, s', p', em⟩
        rw [List.length_map, List.take_length] at em
        refine ⟨.ref mm, rfl, .ref a, rfl, a, _, rfl, .inr (Same.sqT s' hA), mm, _, _, _, rfl, rfl, sqL_new em, at_of (by rw [List.length_map]) (intV_get (tab_get (Nat.le_refl _))), ?_⟩
        rw [List.take_length]
        exact q H' s'
end
end Kb
/-! A call of a def by keywords alone. -/
namespace Ka
open PySem PySem.Spec PyProof.Rows L2
section
variable {X : Cx} {CX : CXT} {k : Nat} {f : Addr} {fd : FuncData} {ps ks : List Str} {sp : Sp} {E : XK} {x : Str} {p pos : Pos} {kws : List Keyword} {tk : TA} {g : List Value → List Value → List Value} {gV : List V → List V → List V}
def tCallK0 (sp : Sp) (gV : List V → List V → List V) (E : XK) (tk : TA) : TE := fun σ H Q => tk σ H fun zs H2 => sp (gV [] zs) H2 Q E
theorem pe_callK0 (F : FnOk X.prog X.w X.K X.mg X.base CX k f fd ps sp) (hr : Room k X.A) (hg : Gl X x) (hm : X.mg x = some (.ref f)) (hk : PySem.W.keepIn X.K (.ref f) = true) (hb : KBinds X.K fd ps ks g gV) (hx : Passes CX X E) (hkw : PK X kws tk)
    (hall : (backToKw pos (keywordEach kws X.env)).all (·.1.isSome) = true := by rfl) (hks : (backToKw pos (keywordEach kws X.env)).filterMap (·.1) = ks := by rfl) (hdb : (x == ("__debug__" : Str)) = false := by decide)
    (hpl : ((backTo pos (starEach [] X.env)).any (·.1) || (backToKw pos (keywordEach kws X.env)).any (·.1.isNone)) = false := by rfl) : PE X (.Call (.Name x p) [] kws pos) (tCallK0 sp gV E tk) := by
  constructor
  intro pins s σ H Q I h
  apply wpAny_Call_Name_kw
  apply ld_glob I hg hm ?_ hdb
  apply PySem.W.callWith_KW0 (h₀ := X.base) I.ok.mod.kin hk hall ?_ hpl
  apply thn (hkw.run pos pins s σ H _ I h)
  rintro ws s2 ⟨zs, H2, I2, rz, q2⟩
  rw [hks]
  exact ⟨I2.kIn, run_fnk F hr hb hx I2 .nil rz q2⟩
end
/-- two parameters, given by name in the other order -/
def swG {α : Type} (us ws : List α) : List α := match us, ws with
  | [], [a, b] => [b, a]
  | _, _ => []
theorem kb_swap {K : PySem.W.Frag} {fd : FuncData} {a b : Str} (h : ∀ x y : Value, bindArgs fd ⟨[], [(b, x), (a, y)]⟩ = pure [(a, y), (b, x)]) : KBinds K fd [a, b] [b, a] swG swG := by
  constructor
  · intro s us ws _ hl
    match us, ws, hl with
    | [], [x, y], _ => exact BindsTo.of_eq (h x y)
    | [], [], hl => exact absurd hl (by simp [swG])
    | [], [_], hl => exact absurd hl (by simp [swG])
    | [], _ :: _ :: _ :: _, hl => exact absurd hl (by simp [swG])
    | _ :: _, _, hl => exact absurd hl (by simp [swG])
  · intro vs us zs ws r rz
    cases r with
    | nil =>
      cases rz with
      | nil => exact .nil
      | cons a r =>
        cases r with
        | nil => exact .nil
        | cons b r =>
          cases r with
          | nil => exact .cons b (.cons a .nil)
          | cons _ _ => exact .nil
    | cons _ _ => exact .nil
/-- one parameter, given by name -/
def snG {α : Type} (us ws : List α) : List α := match us, ws with
  | [], [a] => [a]
  | _, _ => []
theorem kb_one {K : PySem.W.Frag} {fd : FuncData} {a : Str} (h : ∀ x : Value, bindArgs fd ⟨[], [(a, x)]⟩ = pure [(a, x)]) : KBinds K fd [a] [a] snG snG := by
  constructor
  · intro s us ws _ hl
    match us, ws, hl with
    | [], [x], _ => exact BindsTo.of_eq (h x)
    | [], [], hl => exact absurd hl (by simp [snG])
    | [], _ :: _ :: _, hl => exact absurd hl (by simp [snG])
    | _ :: _, _, hl => exact absurd hl (by simp [snG])
  · intro vs us zs ws r rz
    cases r with
    | nil =>
      cases rz with
      | nil => exact .nil
      | cons a r =>
        cases r with
        | nil => exact .cons a .nil
        | cons _ _ => exact .nil
    | cons _ _ => exact .nil
end Ka
namespace Kb
open PySem PySem.Spec PyProof.Rows L2
/-! ### is_letter, is_name -/
/-- a sign from a to z -/
def lowC (c : Nat) : Bool := decide (97 ≤ c) && decide (c ≤ 122)
/-- a name -/
def isName (s : Str) : Bool := decide (1 ≤ s.cps.size) && decide (s.cps.size ≤ 5) && s.cps.toList.all lowC
theorem lt_sign (a b : Nat) : decide ([a] < [b]) = decide (a < b) := by
  by_cases h : a < b
  · rw [decide_eq_true h, decide_eq_true]
    exact List.Lex.rel h
  · rw [decide_eq_false h, decide_eq_false]
    intro w
    cases w with
    | rel w => exact h w
    | cons w => cases w
section
variable {P : Program} {w : World} {K : PySem.W.Frag} {mg : Str → Option Value} {base : Heap}
theorem scLetter : FnScope ["sign"] ["sign"] (defScope sLetter) := ⟨rfl, rfl, rfl, by decide +kernel, rfl, by decide +kernel, by decide +kernel⟩
def spLetter : Sp := fun vs H Q _ => ∃ c : Nat, vs = [.str ⟨#[c]⟩] ∧ Q (.bl (lowC c)) H
theorem ok_letter {f : Addr} {fd : FuncData} (F : Fun K "is_letter" "is_letter" sLetter f fd) : FnOk P w K mg base CX0 1 f fd ["sign"] spLetter := by
  refine F.ok scLetter (fun vs H Q E h => ?_) (fun cdv A outer s H vs Q E hr h => ?_)
  · obtain ⟨c, rfl, _⟩ := h
    rfl
  · obtain ⟨c, rfl, q⟩ := h
    refine ⟨_, pss_one (ps_ret (pe_chain op_le_str op_le_str pe_str (pv 0) pe_str)), ?_⟩
    refine ⟨.str ⟨#[c]⟩, rfl, _, _, rfl, rfl, _, rfl, ?_⟩
    have e1 : (!decide ([c] < (Str.ofString "a").cps.toList)) = decide (97 ≤ c) := by
      rw [show (Str.ofString "a").cps.toList = [97] from by decide +kernel, lt_sign]
      by_cases h : 97 ≤ c
      · rw [decide_eq_true h, decide_eq_false (Nat.not_lt.mpr h)]
        rfl
      · rw [decide_eq_false h, decide_eq_true (Nat.lt_of_not_le h)]
        rfl
    have e2 : (!decide ((Str.ofString "z").cps.toList < [c])) = decide (c ≤ 122) := by
      rw [show (Str.ofString "z").cps.toList = [122] from by decide +kernel, lt_sign]
      by_cases h : c ≤ 122
      · rw [decide_eq_true h, decide_eq_false (Nat.not_lt.mpr h)]
        rfl
      · rw [decide_eq_false h, decide_eq_true (Nat.lt_of_not_le h)]
        rfl
    unfold lowC at q
    rw [← e1, ← e2] at q
    refine ite2 (fun hc => ?_) (fun hc => ?_)
    · refine ⟨_, _, rfl, rfl, ?_⟩
      have hc' : (!decide ([c] < (Str.ofString "a").cps.toList)) = true := hc
      rw [hc', Bool.true_and] at q
      exact q
    · have hc' : (!decide ([c] < (Str.ofString "a").cps.toList)) = false := Bool.eq_false_iff.mpr hc
      rw [hc', Bool.false_and] at q
      exact q
theorem scName : FnScope ["value", "sign"] ["value"] (defScope sName) := ⟨rfl, rfl, rfl, by decide +kernel, rfl, by decide +kernel, by decide +kernel⟩
/-- a value that can be asked for a name: of a known other type, or a text that is short enough -/
def spName (K : PySem.W.Frag) : Sp := fun vs H Q _ => ∃ v : V, vs = [v] ∧ ((∃ t : String, TyX K H v (.type t) ∧ kitB t "str" = some false ∧ Q (.bl false) H) ∨ (∃ s, v = .str s ∧ s.length ≤ sizeLine ∧ ∀ H', Same H H' → Q (.bl (isName s)) H'))
theorem ok_name {f fL : Addr} {fd fdL : FuncData} (F : Fun K "is_name" "is_name" sName f fd) (FL : Fun K "is_letter" "is_letter" sLetter fL fdL) (bL : Binds K fdL ["sign"] []) (gL : mg "is_letter" = some (.ref fL)) {tag : Nat} (gN : mg "LONGEST_NAME" = some (.int 5 tag))
    (mi : mg "isinstance" = none) (ms : mg "str" = none) (ml : mg "len" = none) (ma : mg "all" = none) : FnOk P w K mg base CX0 2 f fd ["value"] (spName K) := by
  have GL : FnOk P w K mg base CX0 1 fL fdL ["sign"] spLetter := ok_letter FL
  refine F.ok scName (fun vs H Q E h => ?_) (fun cdv A outer s H vs Q E hr h => ?_)
  · obtain ⟨v, rfl, _⟩ := h
    rfl
  · obtain ⟨v, rfl, q⟩ := h
    refine ⟨_, pss_cons (ps_if (PW.pt (pw_or (pt_not (pt_val (pe_callB call_isi (by rfl) mi (by decide +kernel) (pa_cons (pv 0) (pa_cons (pe_bltn (v := .ty "str") (by rfl) ms (by decide +kernel) rfl) pa_nil))))) (pw_or1 (pt_not (pt_chain op_le op_le pe_int (pe_callB call_len (by rfl) ml PySem.boot_len (pa_cons (pv 0) pa_nil)) (pe_glob (v := .int 5) rfl gN ⟨_, rfl⟩))))))
      (pss_one (ps_ret pe_bl)) pss_nil)
      (pss_one (ps_ret (pe_callB (cr_all rfl) (by rfl) ma (by decide +kernel) (pa_cons
        (pe_lc (own := [("sign", 1)]) (g := gName 1) (tt := tYes) rfl scName.nd (pi_str (pv 0)) (blkOk_by (own := [("sign", 1)]) (N := ["value", "sign"]) (sc := defScope sName) (by decide +kernel)) (fun _ _ _ _ _ => pg_name (i := 1) scName.nd rfl (Or.inl rfl)) (fun _ _ _ _ _ => pts_nil)
          (fun _ _ _ _ _ => pe_call GL hr (by rfl) gL FL.kp bL .nil pass0 (pa_cons (pv 1) pa_nil))) pa_nil)))), ?_⟩
    rcases q with ⟨t, ty, hb, q⟩ | ⟨z, rfl, hz, q⟩
    · refine ⟨v, rfl, v, .ty "str", .type t, .type "str", false, rfl, .ty "str", ty, kit_ty hb, ?_⟩
      refine ⟨false, rfl, ?_⟩
      exact iteT (iteT q)
    · refine ⟨.str z, rfl, .str z, .ty "str", .type "str", .type "str", true, rfl, .ty "str", .base (.str z), kit_ty (by decide +kernel), true, rfl, iteF ?_⟩
      refine ⟨.str z, rfl, .str z, _, rfl, ⟨hz, rfl⟩, ?_⟩
      refine ⟨_, _, rfl, rfl, _, rfl, ?_⟩
      have no : isName z = false → Q (.bl false) H := fun e => by
        rw [e] at q
        exact q H (fun _ _ h => h)
      refine ite2 (fun c1 => ?_) (fun c1 => ?_)
      · have c1 := of_decide_eq_true c1
        refine ⟨_, _, rfl, rfl, _, rfl, ite2 (fun c2 => ?_) (fun c2 => ?_)⟩
        · refine no ?_
          have c3 : ¬ ((z.length : Nat) : Int) ≤ 5 := of_decide_eq_false (by simpa using c2)
          have c4 : ¬ z.cps.size ≤ 5 := fun h => c3 (by show ((z.cps.size : Nat) : Int) ≤ 5; omega)
          unfold isName
          rw [decide_eq_false c4, Bool.and_false, Bool.false_and]
        · have c3 : ((z.length : Nat) : Int) ≤ 5 := by simpa using c2
          have c4 : z.cps.size ≤ 5 := by have : ((z.cps.size : Nat) : Int) ≤ 5 := c3; omega
          have c5 : 1 ≤ z.cps.size := by have : 1 ≤ ((z.cps.size : Nat) : Int) := c1; omega
          have en : isName z = z.cps.toList.all lowC := by
            unfold isName
            rw [decide_eq_true c5, decide_eq_true c4]
            rfl
          refine ⟨.str z, rfl, z, rfl, fun D nD => ?_⟩
          refine lc_it walk_str (fun i H2 => Same H H2 ∧ H2 D = some (.lst ((((z.cps.toList.map lowC).take i)).map V.bl))) ⟨same_new nD, upd_same⟩ (fun _ _ _ _ => True.intro) (fun i x H2 H3 hi h2 y => ?_) (fun H2 h2 => ?_)
          · obtain ⟨rfl, c, hc, rfl⟩ := y
            obtain ⟨sm, eD⟩ := h2
            refine ⟨rfl, ?_⟩
            refine ⟨.str ⟨#[c]⟩, rfl, c, rfl, _, eD, ?_, fun b o e => ?_, ?_⟩
            · rw [List.length_map]
              refine small (Nat.le_trans (List.length_take_le _ _) ?_)
              omega
            · rw [upd_ne (ne_of_none e nD)]
              exact sm b o e
            · have hg : (z.cps.toList.map lowC)[i]? = some (lowC c) := by
                rw [List.getElem?_map, Array.getElem?_toList, hc]
                rfl
              rw [upd_same, take_of_get hg, List.map_append]
              rfl
          · obtain ⟨sm, eD⟩ := h2
            have el : (z.cps.toList.map lowC).take z.cps.size = z.cps.toList.map lowC := List.take_of_length_le (by rw [List.length_map, Array.length_toList]; exact Nat.le_refl _)
            rw [el] at eD
            refine ⟨D, _, rfl, sqL_new eD, ?_⟩
            have ea : (z.cps.toList.map lowC).all id = isName z := by
              rw [en, List.all_map]
              rfl
            rw [ea]
            exact q H2 sm
      · have c1 : ¬ (1 : Int) ≤ ((z.length : Nat) : Int) := fun h => c1 (decide_eq_true h)
        refine ⟨_, rfl, iteT (no ?_)⟩
        have c4 : ¬ 1 ≤ z.cps.size := fun h => c1 (by show (1 : Int) ≤ ((z.cps.size : Nat) : Int); omega)
        unfold isName
        rw [decide_eq_false c4]
        rfl
end
end Kb
namespace Kb
open PySem PySem.Spec PyProof.Rows L2
/-! ### InvalidRow, check_row -/
/-- a value that is a name -/
def okV : V → Bool
  | .str s => isName s
  | _ => false
/-- a value that can be asked for a name, in each greater heap -/
def Asked (K : PySem.W.Frag) (H : Hp) (v : V) : Prop := (∃ s, v = .str s ∧ s.length ≤ sizeLine) ∨ (okV v = false ∧ ∃ t : String, kitB t "str" = some false ∧ ∀ H', Same H H' → TyX K H' v (.type t))
theorem Asked.mono {K : PySem.W.Frag} {H H' : Hp} {v : V} (a : Asked K H v) (s : Same H H') : Asked K H' v := by
  rcases a with h | ⟨h, t, k, ty⟩
  · exact .inl h
  · exact .inr ⟨h, t, k, fun H2 s2 => ty H2 (s.trans s2)⟩
section
variable {P : Program} {w : World} {K : PySem.W.Frag} {mg : Str → Option Value} {base : Heap}
/-- what the written part says of the class -/
structure RowC (K : PySem.W.Frag) (mg : Str → Option Value) (C fI : Addr) (fd : FuncData) : Prop where
  oex : OexC K C
  iC : PySem.W.findIn K (.ref C) "__init__" = some (some (.ref fI))
  tI : PySem.W.typeIn K (.ref fI) = some (.type "function")
  no : PySem.W.findIn K (.ref C) "at" = some none
  gC : mg "InvalidRow" = some (.ref C)
  F : Fun K "__init__" "InvalidRow.__init__" sInit fI fd
  b : Binds K fd ["self", "at"] []
theorem scInit : FnScope ["self", "at"] ["self", "at"] (defScope sInit) := ⟨rfl, rfl, rfl, by decide +kernel, rfl, by decide +kernel, by decide +kernel⟩
def spInit (C : Addr) : Sp := fun vs H Q _ => ∃ (a : Addr) (v : V), vs = [.ref a, v] ∧ H a = some (exo a C none) ∧ ∀ dx, H dx = none → dx ≠ a → Q .non (upd (upd H dx (exd dx [("at", v)])) a (exo a C (some dx)))
theorem ok_init {C f : Addr} {fd : FuncData} (R : RowC K mg C f fd) : FnOk P w K mg base CX0 1 f fd ["self", "at"] (spInit C) := by
  refine R.F.ok scInit (fun vs H Q E h => ?_) (fun cdv A outer s H vs Q E hr h => ?_)
  · obtain ⟨a, v, rfl, _⟩ := h
    rfl
  · obtain ⟨a, v, rfl, e, q⟩ := h
    refine ⟨_, pss_one (ps_ost (pv 0) (pv 1)), ?_⟩
    exact ⟨v, rfl, .ref a, rfl, a, C, rfl, R.oex, R.no, .inl ⟨e, fun dx n1 n2 => q dx n1 n2⟩⟩
theorem scCheck : FnScope ["row", "at", "deed"] ["row"] (defScope sCheck) := ⟨rfl, rfl, rfl, by decide +kernel, rfl, by decide +kernel, by decide +kernel⟩
/-- the error InvalidRow(z) -/
def Refuse (C : Addr) (E : XK) (H : Hp) (z : Int) : Prop := ∀ H' d, Same H H' → H d = none → H' d = some (.xd [("at", .int z)]) → E (.ref C) (some d) H'
theorem refuse_mk {C : Addr} {E : XK} {H H1 : Hp} {z : Int} (h : Refuse C E H z) (s : Same H H1) : [V.int z].length ≤ 1000 ∧ ∀ a, H1 a = none → spInit C (.ref a :: ([.int z] ++ [])) (upd H1 a (exo a C none))
    (fun v H2 => v = .non ∧ ∃ (d : Addr) (fs : List (Str × V)), H2 a = some (exo a C (some d)) ∧ H2 d = some (exd d fs) ∧ H1 d = none ∧ E (.ref C) (some d) (upd (del H2 a) d (.xd fs))) (fun _ _ _ => False) := by
  refine ⟨by show 1 ≤ 1000; decide, fun a na => ⟨a, .int z, rfl, upd_same, fun dx n1 n2 => ?_⟩⟩
  have n1' : H1 dx = none := by
    rw [upd_ne n2] at n1
    exact n1
  refine ⟨rfl, dx, [("at", .int z)], upd_same, ?_, n1', h _ dx (fun c o e => ?_) (s.free n1') upd_same⟩
  · rw [upd_ne n2, upd_same]
  · have ca : c ≠ a := ne_of_none (s _ _ e) na
    have cd : c ≠ dx := ne_of_none (s _ _ e) n1'
    rw [upd_ne cd, del_ne ca, upd_ne ca, upd_ne cd, upd_ne ca]
    exact s _ _ e
def spCheck (K : PySem.W.Frag) (C : Addr) : Sp := fun vs H Q E => ∃ v : V, vs = [v] ∧ ((∃ t : String, TyX K H v (.type t) ∧ kitB t "tuple" = some false ∧ Refuse C E H (-1)) ∨
  (∃ (a : Addr) (xs : List V), v = .ref a ∧ TyX K H (.ref a) (.type "tuple") ∧ SqT K H a xs ∧ (∀ x ∈ xs, Asked K H x) ∧
    (xs.length ≤ 400 → (∀ x ∈ xs, okV x = true) → ∀ H', Same H H' → Q .non H') ∧
    ∀ (i : Nat) (x : V), xs[i]? = some x → (∀ (j : Nat) (y : V), j < i → xs[j]? = some y → okV y = true) → i ≤ 400 → (i = 400 ∨ okV x = false) → Refuse C E H (i : Nat)))
theorem ok_check {C fI f fN fL : Addr} {fdI fd fdN fdL : FuncData} (F : Fun K "check_row" "check_row" sCheck f fd) (R : RowC K mg C fI fdI) (FN : Fun K "is_name" "is_name" sName fN fdN) (bN : Binds K fdN ["value"] []) (gN : mg "is_name" = some (.ref fN))
    (FL : Fun K "is_letter" "is_letter" sLetter fL fdL) (bL : Binds K fdL ["sign"] []) (gL : mg "is_letter" = some (.ref fL)) {tag tag2 : Nat} (gLN : mg "LONGEST_NAME" = some (.int 5 tag)) (gLR : mg "LONGEST_ROW" = some (.int 400 tag2))
    (mi : mg "isinstance" = none) (ms : mg "str" = none) (ml : mg "len" = none) (ma : mg "all" = none) (mt : mg "tuple" = none) (me : mg "enumerate" = none) : FnOk P w K mg base (L2.CX P w) 3 f fd ["row"] (spCheck K C) := by
  have GI : FnOk P w K mg base CX0 1 fI fdI ["self", "at"] (spInit C) := ok_init R
  have GN : FnOk P w K mg base CX0 2 fN fdN ["value"] (spName K) := ok_name FN FL bL gL gLN mi ms ml ma
  refine F.okX scCheck (fun vs H Q E h => ?_) (fun cdv A outer s H vs Q E hr h => ?_)
  · obtain ⟨v, rfl, _⟩ := h
    rfl
  · obtain ⟨v, rfl, h⟩ := h
    refine ⟨_, pss_cons (ps_if (pt_not (pt_val (pe_callB call_isi (by rfl) mi (by decide +kernel) (pa_cons (pv 0) (pa_cons (pe_bltn (v := .ty "tuple") (by rfl) mt (by decide +kernel) rfl) pa_nil)))))
        (pss_one (ps_raise rfl (takes_of rfl rfl rfl rfl) (pmk_oex R.oex R.iC R.tI GI hr R.b .nil pass0 (by rfl) R.gC (pa_cons (pe_un un_neg pe_int) pa_nil)))) pss_nil)
      (pss_one (ps_for (passes_of rfl) rfl (Ka.pi_enumT (by rfl) me (pa_cons (pv 0) pa_nil)) (pg_tup rfl (pgs_cons (pg_name (i := 1) scCheck.nd rfl (.inl rfl)) (pgs_cons (pg_name (i := 2) scCheck.nd rfl (.inl rfl)) pgs_nil)))
        (pss_one (ps_if (PW.pt (pw_or (pt_cmpR op_ge (pv 1) (pe_glob (v := .int 400) rfl gLR ⟨_, rfl⟩) (nomark _)) (pw_or1 (pt_not (pt_val (pe_call GN hr (by rfl) gN FN.kp bN .nil pass0 (pa_cons (pv 2) pa_nil)))))))
          (pss_one (ps_raise rfl (takes_of rfl rfl rfl rfl) (pmk_oex R.oex R.iC R.tI GI hr R.b .nil pass0 (by rfl) R.gC (pa_cons (pv 1) pa_nil)))) pss_nil)))), ?_⟩
    rcases h with ⟨t, ty, hk, hr⟩ | ⟨a, xs, rfl, ty, hA, ask, good, bad⟩
    · refine ⟨v, rfl, v, .ty "tuple", .type t, .type "tuple", false, rfl, .ty "tuple", ty, kit_ty hk, false, rfl, iteT ?_⟩
      exact ⟨1, rfl, refuse_mk hr (fun _ _ e => e)⟩
    · refine ⟨.ref a, rfl, .ref a, .ty "tuple", .type "tuple", .type "tuple", true, rfl, .ty "tuple", ty, kit_ty (by decide +kernel), true, rfl, iteF ?_⟩
      refine ⟨.ref a, rfl, a, xs, rfl, hA, ?_⟩
      refine Ka.for_enumT (xs := xs) (fun i σ H' => ∃ d1 d2, σ = [some (.ref a), d1, d2] ∧ Same H H' ∧ i ≤ 400 ∧ ∀ (j : Nat) (y : V), j < i → xs[j]? = some y → okV y = true)
        ⟨none, none, rfl, fun _ _ e => e, Nat.zero_le _, fun j y h => absurd h (Nat.not_lt_zero _)⟩ (fun i σ H' ⟨_, _, _, sm, _⟩ => Same.sqT sm hA) ?_ ?_
      · rintro i x T σ H' hx ⟨d1, d2, rfl, sm, h400, ok⟩ nT
        have sT := sm.trans (same_new (o := .tup [.int (i : Nat), x]) nT)
        refine ⟨T, [.int (i : Nat), x], rfl, .inl (.inl upd_same), rfl, _, _, rfl, _, _, rfl, rfl, ?_⟩
        refine ⟨.int (i : Nat), rfl, _, _, rfl, rfl, _, rfl, ite2 (fun c => ?_) (fun c => ?_)⟩
        · have c := of_decide_eq_true c
          have e : i = 400 := by omega
          refine iteT ⟨.int (i : Nat), rfl, refuse_mk (bad i x hx ok h400 (.inl e)) sT⟩
        · have c : ¬ (400 : Int) ≤ (i : Int) := fun h => c (decide_eq_true h)
          refine ⟨x, rfl, x, rfl, ?_⟩
          have turn : okV x = true → ∀ H2 : Hp, Same H H2 → ∃ e1 e2, [some (V.ref a), some (.int (i : Nat)), some x] = [some (.ref a), e1, e2] ∧ Same H H2 ∧ i + 1 ≤ 400 ∧ ∀ (j : Nat) (y : V), j < i + 1 → xs[j]? = some y → okV y = true := fun hk H2 s2 =>
            ⟨_, _, rfl, s2, by omega, fun j y hj hy => by
              by_cases e : j = i
              · subst e
                rw [hx] at hy
                rw [← Option.some.inj hy]
                exact hk
              · exact ok j y (by omega) hy⟩
          rcases (ask x (List.mem_of_getElem? hx)).mono sT with ⟨z, rfl, hz⟩ | ⟨hk, t, k, tx⟩
          · refine .inr ⟨z, rfl, hz, fun H2 s2 => ?_⟩
            cases ez : isName z with
            | true => exact ⟨true, rfl, iteF (turn ez H2 (sT.trans s2))⟩
            | false => exact ⟨false, rfl, iteT ⟨.int (i : Nat), rfl, refuse_mk (bad i _ hx ok h400 (.inr ez)) (sT.trans s2)⟩⟩
          · refine .inl ⟨t, tx _ (fun _ _ e => e), k, false, rfl, iteT ⟨.int (i : Nat), rfl, refuse_mk (bad i _ hx ok h400 (.inr hk)) sT⟩⟩
      · rintro σ H' ⟨d1, d2, rfl, sm, h400, ok⟩
        exact good h400 (fun x hx => by
          obtain ⟨j, hj⟩ := List.getElem?_of_mem hx
          exact ok j x (lt_of_get hj) hj) H' sm
end
end Kb
namespace Kb
open PySem PySem.Spec PyProof.Rows L2 PySem.W
/-! ### the order of rows -/
theorem le_total : TotalLe Ka.rowLe := sortLe_total (listOrd itemOrd) false fun b => keyToks (Ka.keyOf b)
theorem toks_inj : ∀ {a b : List Str}, keyToksAll (a.map PyData.str) = keyToksAll (b.map PyData.str) → a = b
  | [], [], _ => rfl
  | [], y :: b, h => by
    rw [List.map_nil, List.map_cons, keyToksAll, keyToksAll] at h
    simp at h
  | x :: a, [], h => by
    rw [List.map_nil, List.map_cons, keyToksAll, keyToksAll] at h
    simp at h
  | x :: a, y :: b, h => by
    rw [List.map_cons, List.map_cons, keyToksAll, keyToksAll, keyToks, keyToks] at h
    simp only [List.cons_append, List.nil_append, List.cons.injEq, Sum.inr.injEq, true_and] at h
    obtain ⟨h1, h2⟩ := h
    have e : x = y := by
      obtain ⟨x⟩ := x
      obtain ⟨y⟩ := y
      exact congrArg Str.mk (Array.toList_inj.mp h1)
    rw [e, toks_inj h2]
theorem le_anti {a b : List Str} (h1 : Ka.rowLe a b = true) (h2 : Ka.rowLe b a = true) : a = b := by
  have h1' : (!(listOrd itemOrd).blt (keyToks (Ka.keyOf b)) (keyToks (Ka.keyOf a))) = true := h1
  have h2' : (!(listOrd itemOrd).blt (keyToks (Ka.keyOf a)) (keyToks (Ka.keyOf b))) = true := h2
  rw [Bool.not_eq_true'] at h1' h2'
  have e := (listOrd itemOrd).total _ _ h2' h1'
  unfold Ka.keyOf Ka.rowD at e
  simp only [keyToks, keyToksAll, List.cons_append, List.nil_append, List.cons.injEq, true_and, Sum.inl.injEq] at e
  exact toks_inj (List.append_cancel_right e.2)
theorem le_len {a b : List Str} (h : a.length < b.length) : Ka.rowLe b a = false := by
  show (!dataLt (Ka.keyOf a) (Ka.keyOf b)) = false
  unfold Ka.keyOf
  rw [dataLt_pair (by simp [alike]) (by simp [alike, Ka.rowD, Ka.alike_strs]), dataLt_int]
  have hne : ¬ ((a.length : Int) = (b.length : Int)) := by omega
  have hlt : (a.length : Int) < (b.length : Int) := by omega
  simp [PyData.eqv, hne, hlt]
/-- in order, without duplicates: there is one such list -/
theorem ord_one {α : Type} {le : α → α → Bool} (anti : ∀ a b, le a b = true → le b a = true → a = b) : ∀ {l m : List α}, l.Pairwise (fun a b => le a b = true) → m.Pairwise (fun a b => le a b = true) → l.Nodup → m.Nodup → (∀ x, x ∈ l ↔ x ∈ m) → l = m
  | [], [], _, _, _, _, _ => rfl
  | [], y :: m, _, _, _, _, h => absurd ((h y).mpr List.mem_cons_self) (by simp)
  | x :: l, [], _, _, _, _, h => absurd ((h x).mp List.mem_cons_self) (by simp)
  | x :: l, y :: m, h1, h2, n1, n2, h => by
    rw [List.pairwise_cons] at h1 h2
    rw [List.nodup_cons] at n1 n2
    have e : x = y := by
      rcases List.mem_cons.mp ((h x).mp List.mem_cons_self) with e | hx
      · exact e
      · rcases List.mem_cons.mp ((h y).mpr List.mem_cons_self) with e | hy
        · exact e.symm
        · exact anti _ _ (h1.1 y hy) (h2.1 x hx)
    subst e
    have e2 : l = m := ord_one anti h1.2 h2.2 n1.2 n2.2 fun z => by
      have hz := h z
      rw [List.mem_cons, List.mem_cons] at hz
      constructor
      · intro w
        rcases hz.mp (.inr w) with e | q
        · exact absurd (e ▸ w) n1.1
        · exact q
      · intro w
        rcases hz.mpr (.inr w) with e | q
        · exact absurd (e ▸ w) n2.1
        · exact q
    rw [e2]
/-- without the later ones of each -/
def nub {α : Type} [DecidableEq α] (l : List α) : List α := l.foldl (fun acc x => if x ∈ acc then acc else acc ++ [x]) []
theorem nub_snoc {α : Type} [DecidableEq α] (l : List α) (x : α) : nub (l ++ [x]) = if x ∈ nub l then nub l else nub l ++ [x] := by
  unfold nub
  rw [List.foldl_append]
  rfl
theorem mem_nub {α : Type} [DecidableEq α] {x : α} (l : List α) : x ∈ nub l ↔ x ∈ l := by
  refine Ka.snoc_ind (P := fun l => x ∈ nub l ↔ x ∈ l) ?_ ?_ l
  · exact Iff.rfl
  · intro l y ih
    rw [nub_snoc, List.mem_append, List.mem_singleton]
    split
    · rename_i h
      constructor
      · exact fun w => .inl (ih.mp w)
      · rintro (w | rfl)
        · exact ih.mpr w
        · exact h
    · rw [List.mem_append, List.mem_singleton, ih]
theorem nub_nodup {α : Type} [DecidableEq α] (l : List α) : (nub l).Nodup := by
  refine Ka.snoc_ind (P := fun l => (nub l).Nodup) ?_ ?_ l
  · exact List.nodup_nil
  · intro l y ih
    rw [nub_snoc]
    split
    · exact ih
    · rename_i h
      rw [List.nodup_append]
      refine ⟨ih, by simp, fun a ha b hb => ?_⟩
      rw [List.mem_singleton.mp hb]
      intro e
      exact h (e ▸ ha)
/-- the rows in order, without duplicates -/
def ordR (l : List (List Str)) : List (List Str) := (nub l).mergeSort Ka.rowLe
theorem mem_ordR {x : List Str} {l : List (List Str)} : x ∈ ordR l ↔ x ∈ l := by
  unfold ordR
  rw [List.mem_mergeSort, mem_nub]
theorem ordR_ord (l : List (List Str)) : (ordR l).Pairwise (fun a b => Ka.rowLe a b = true) := sort_pairwise le_total _
theorem ordR_nodup (l : List (List Str)) : (ordR l).Nodup := (List.mergeSort_perm _ _).nodup_iff.mpr (nub_nodup l)
theorem ordR_is {l m : List (List Str)} (h1 : m.Pairwise (fun a b => Ka.rowLe a b = true)) (h2 : m.Nodup) (h3 : ∀ x, x ∈ m ↔ x ∈ l) : m = ordR l :=
  ord_one (fun _ _ => le_anti) h1 (ordR_ord l) h2 (ordR_nodup l) fun x => by rw [h3, mem_ordR]
theorem nub_ord {l : List (List Str)} (h : l.Pairwise (fun a b => Ka.rowLe a b = true)) : (nub l).Pairwise (fun a b => Ka.rowLe a b = true) := by
  revert h
  refine Ka.snoc_ind (P := fun l => l.Pairwise (fun a b => Ka.rowLe a b = true) → (nub l).Pairwise (fun a b => Ka.rowLe a b = true)) ?_ ?_ l
  · exact fun h => h
  · intro l y ih h
    rw [List.pairwise_append] at h
    rw [nub_snoc]
    split
    · exact ih h.1
    · rw [List.pairwise_append]
      exact ⟨ih h.1, List.pairwise_singleton _ _, fun a ha b hb => h.2.2 a ((mem_nub l).mp ha) b hb⟩
/-- sorted, then each once: the same -/
theorem nub_sort (l : List (List Str)) : nub (l.mergeSort Ka.rowLe) = ordR l :=
  ordR_is (nub_ord (sort_pairwise le_total _)) (nub_nodup _) fun x => by rw [mem_nub, List.mem_mergeSort]
/-! ### within, as lists -/
theorem sub_iff {α : Type} [DecidableEq α] : ∀ {u z : List α}, sub u z = true ↔ u.Sublist z
  | [], z => by
    rw [sub]
    exact ⟨fun _ => List.nil_sublist _, fun _ => rfl⟩
  | d :: u, [] => by
    rw [sub]
    exact ⟨fun h => (Bool.noConfusion h), fun h => by cases h⟩
  | d :: u, e :: z => by
    rw [sub]
    split
    · rename_i h
      subst h
      rw [List.cons_sublist_cons]
      exact sub_iff
    · rename_i h
      rw [sub_iff]
      constructor
      · exact fun w => List.Sublist.cons _ w
      · intro w
        cases w with
        | cons _ w => exact w
        | cons_cons _ w => exact absurd rfl h
theorem sub_refl {α : Type} [DecidableEq α] (u : List α) : sub u u = true := sub_iff.mpr (List.Sublist.refl u)
theorem sub_trans {α : Type} [DecidableEq α] {u v w : List α} (h1 : sub u v = true) (h2 : sub v w = true) : sub u w = true := sub_iff.mpr ((sub_iff.mp h1).trans (sub_iff.mp h2))
theorem sub_len {α : Type} [DecidableEq α] {u v : List α} (h : sub u v = true) (hn : u ≠ v) : u.length < v.length := by
  have h1 := sub_iff.mp h
  have h2 := h1.length_le
  by_cases e : u.length = v.length
  · exact absurd (h1.eq_of_length e) hn
  · omega
/-- lies within no other one -/
def great (L : List (List Str)) (r : List Str) : Bool := L.all fun o => decide (o = r) || !sub r o
def topR (l : List (List Str)) : List (List Str) := (ordR l).filter (great (ordR l))
theorem great_iff {L : List (List Str)} {r : List Str} : great L r = true ↔ ∀ o ∈ L, o ≠ r → sub r o = false := by
  unfold great
  rw [List.all_eq_true]
  constructor
  · intro h o ho hn
    have := h o ho
    rw [decide_eq_false hn, Bool.false_or] at this
    simpa using this
  · intro h o ho
    by_cases e : o = r
    · rw [decide_eq_true e]; rfl
    · rw [h o ho e, Bool.not_false, Bool.or_true]
/-- each row lies within a great one -/
theorem some_great (L : List (List Str)) (M : Nat) (hM : ∀ o ∈ L, o.length ≤ M) : ∀ (n : Nat) (r : List Str), M - r.length ≤ n → r ∈ L → ∃ g ∈ L, great L g = true ∧ sub r g = true
  | n, r, hn, hr => by
    by_cases h : great L r = true
    · exact ⟨r, hr, h, sub_refl r⟩
    · have : ∃ o ∈ L, o ≠ r ∧ sub r o = true := by
        apply Classical.byContradiction
        intro w
        refine h (great_iff.mpr fun o ho hne => ?_)
        cases e : sub r o with
        | false => rfl
        | true => exact absurd ⟨o, ho, hne, e⟩ w
      obtain ⟨o, ho, hne, hs⟩ := this
      have hl := sub_len hs (Ne.symm hne)
      have hM' := hM o ho
      cases n with
      | zero => omega
      | succ n =>
        obtain ⟨g, hg, h1, h2⟩ := some_great L M hM n o (by omega) ho
        exact ⟨g, hg, h1, sub_trans hs h2⟩
theorem all_le : ∀ L : List (List Str), ∃ M, ∀ o ∈ L, o.length ≤ M
  | [] => ⟨0, fun o h => by cases h⟩
  | x :: L => by
    obtain ⟨M, hM⟩ := all_le L
    refine ⟨x.length + M, fun o h => ?_⟩
    rcases List.mem_cons.mp h with rfl | h
    · omega
    · have := hM o h
      omega
/-- the turn of greatest_rows: behind i rows from the end -/
theorem great_turn {l : List (List Str)} {i : Nat} {r : List Str} (hi : i < (ordR l).length) (hr : (ordR l)[(ordR l).length - 1 - i]? = some r) :
    (((ordR l).drop ((ordR l).length - i)).filter (great (ordR l))).any (fun g => sub r g) = !great (ordR l) r := by
  have hrm : r ∈ ordR l := List.mem_of_getElem? hr
  have hdrop : (ordR l).drop ((ordR l).length - 1 - i) = r :: (ordR l).drop ((ordR l).length - i) := by
    rw [drop_of_get hr]
    congr 2
    omega
  have hnd : r ∉ (ordR l).drop ((ordR l).length - i) := by
    have := (ordR_nodup l).sublist (List.drop_sublist ((ordR l).length - 1 - i) _)
    rw [hdrop, List.nodup_cons] at this
    exact this.1
  cases hg : great (ordR l) r with
  | true =>
    rw [Bool.not_true, List.any_eq_false]
    intro g hgm
    rw [List.mem_filter] at hgm
    have hne : g ≠ r := fun e => hnd (e ▸ hgm.1)
    have := great_iff.mp hg g (List.mem_of_mem_drop hgm.1) hne
    rw [this]
    exact Bool.false_ne_true
  | false =>
    rw [Bool.not_false, List.any_eq_true]
    obtain ⟨M, hM⟩ := all_le (ordR l)
    obtain ⟨g, hgm, h1, h2⟩ := some_great (ordR l) M hM _ r (Nat.le_refl _) hrm
    have hne : g ≠ r := fun e => by
      rw [e] at h1
      rw [h1] at hg
      cases hg
    have hl := sub_len h2 (Ne.symm hne)
    refine ⟨g, List.mem_filter.mpr ⟨?_, h1⟩, h2⟩
    -- g stands behind r, being longer
    have hsplit : ordR l = (ordR l).take ((ordR l).length - 1 - i) ++ r :: (ordR l).drop ((ordR l).length - i) := by
      rw [← hdrop, List.take_append_drop]
    have hmem := hgm
    rw [hsplit, List.mem_append, List.mem_cons] at hmem
    rcases hmem with h | h | h
    · have hp := ordR_ord l
      rw [hsplit, List.pairwise_append] at hp
      have := hp.2.2 g h r List.mem_cons_self
      rw [le_len hl] at this
      cases this
    · exact absurd h hne
    · exact h
end Kb
namespace Kb
open PySem PySem.Spec PyProof.Rows L2
/-! ### two ways to walk -/
theorem pi_or {X : Cx} {tg e : Expr} {t u : TI} (h1 : PI X tg e t) (h2 : PI X tg e u) : PI X tg e (fun σ H R => t σ H R ∨ u σ H R) :=
  ⟨fun pins s σ H R I h => h.elim (fun w => h1.run pins s σ H R I w) fun w => h2.run pins s σ H R I w⟩
/-- a dict comprehension over a walk -/
theorem dc_it {J : It} {n : Nat} {G : Hp → Prop} {Y : Nat → Hp → V → Hp → Prop} (w : Walk J n G Y) {g : TG} {tk tv : TE} {vs : List Nat} {σ : L2.St} {H1 : Hp} {D : Addr} {Qd : Hp → Prop} (Pv : Nat → Hp → Prop) (h0 : Pv 0 (upd H1 D (.dT []))) (hG : ∀ i H, i ≤ n → Pv i H → G H)
    (hs : ∀ i x H H', i < n → Pv i H → Y i H x H' → g x (wipe σ vs) H' fun σ2 H2 => wipe σ2 vs = wipe σ vs ∧ tk σ2 H2 fun y H4 => tv σ2 H4 fun z H5 => ∃ kvs k b, y = .ref b ∧ H5 b = some (.tup (k.map kV)) ∧ H5 D = some (.dT kvs) ∧ kvs.length < sizeLine ∧ Pv (i + 1) (upd H5 D (.dT (putK kvs k z))))
    (hd : ∀ H, Pv n H → Qd H) : ∃ W : Nat → Nat → Hp → Prop, (∃ m, W 0 m (upd H1 D (.dT []))) ∧ ∀ i m H, W i m H →
      (J.stop i H ∧ Qd H) ∨ (J.go i H ∧ ∃ Nx : Hp → Prop, (∀ H', Nx H' → ∃ m', m' < m ∧ W (i + 1) m' H') ∧ ∀ x H', J.yld i H x H' → g x (wipe σ vs) H' fun σ2 H2 => wipe σ2 vs = wipe σ vs ∧
        tk σ2 H2 fun y H4 => tv σ2 H4 fun z H5 => ∃ kvs k b, y = .ref b ∧ H5 b = some (.tup (k.map kV)) ∧ H5 D = some (.dT kvs) ∧ kvs.length < sizeLine ∧ Nx (upd H5 D (.dT (putK kvs k z)))) := by
  refine ⟨fun i m H => m = n - i ∧ i ≤ n ∧ Pv i H, ⟨n, rfl, Nat.zero_le _, h0⟩, fun i m H ⟨em, hi, p⟩ => ?_⟩
  by_cases hlt : i < n
  · refine .inr ⟨w.goes i H hlt (hG i H hi p), Pv (i + 1), fun H' p' => ⟨n - (i + 1), by omega, rfl, hlt, p'⟩, fun x H' y => ?_⟩
    exact hs i x H H' hlt p (w.yields i H x H' hlt (hG i H hi p) y)
  · obtain rfl : i = n := by omega
    exact .inl ⟨w.stops H (hG i H hi p), hd H p⟩
/-! ### in_order -/
/-- rows of texts at their addresses -/
def Rows (H : Hp) (rs : List Ka.Row) : Prop := ∀ r ∈ rs, H r.1 = some (.tup (r.2.map V.str))
theorem Rows.mono {H H' : Hp} {rs : List Ka.Row} (h : Rows H rs) (s : Same H H') : Rows H' rs := fun r hr => s _ _ (h r hr)
def adV (rs : List Ka.Row) : List V := rs.map fun r => V.ref r.1
/-- the dict of the first i rows -/
def kvsN (ls : List (List Str)) : List (List L2.Key × V) := ls.map fun r => (r.map Sum.inr, V.bl true)
theorem inr_inj : ∀ {a b : List Str}, (a.map (Sum.inr : Str → L2.Key)) = b.map Sum.inr ↔ a = b
  | [], [] => by simp
  | [], _ :: _ => by simp
  | _ :: _, [] => by simp
  | x :: a, y :: b => by
    rw [List.map_cons, List.map_cons, List.cons.injEq, List.cons.injEq, inr_inj (a := a) (b := b)]
    constructor
    · rintro ⟨h1, h2⟩
      exact ⟨Sum.inr.inj h1, h2⟩
    · rintro ⟨rfl, h2⟩
      exact ⟨rfl, h2⟩
theorem kvs_put (ls : List (List Str)) (r : List Str) : putK (kvsN (nub ls)) (r.map Sum.inr) (.bl true) = kvsN (nub (ls ++ [r])) := by
  rw [nub_snoc]
  unfold putK
  have e : ((kvsN (nub ls)).any fun kv => decide (kv.1 = r.map Sum.inr)) = decide (r ∈ nub ls) := by
    unfold kvsN
    rw [List.any_map]
    by_cases h : r ∈ nub ls
    · rw [decide_eq_true h, List.any_eq_true]
      exact ⟨r, h, decide_eq_true rfl⟩
    · rw [decide_eq_false h, List.any_eq_false]
      intro x hx hc
      have hc := of_decide_eq_true hc
      exact h (inr_inj.mp hc ▸ hx)
  rw [e]
  by_cases h : r ∈ nub ls
  · rw [decide_eq_true h, if_pos rfl, if_pos h]
    unfold kvsN
    rw [List.map_map]
    apply List.map_congr_left
    intro x hx
    show (if x.map Sum.inr = r.map Sum.inr then ((x.map Sum.inr : List L2.Key), V.bl true) else (x.map Sum.inr, V.bl true)) = _
    split <;> rfl
  · rw [decide_eq_false h, if_neg Bool.false_ne_true, if_neg h]
    unfold kvsN
    rw [List.map_append]
    rfl
theorem kV_rows (r : List Str) : (r.map (Sum.inr : Str → L2.Key)).map kV = r.map V.str := by
  rw [List.map_map]
  rfl
theorem nub_len {α : Type} [DecidableEq α] (l : List α) : (nub l).length ≤ l.length := by
  refine Ka.snoc_ind (P := fun l => (nub l).length ≤ l.length) (Nat.le_refl _) (fun l x ih => ?_) l
  rw [nub_snoc, List.length_append, List.length_singleton]
  split
  · omega
  · rw [List.length_append, List.length_singleton]
    omega
/-- {row: True for row in rows} over a walk -/
theorem dc_rows {J : It} {G : Hp → Prop} {H : Hp} {rs : List Ka.Row} {x0 : V} {Q : VK} (w : Walk J (adV rs).length G (YAt (adV rs))) (hG : ∀ H', Same H H' → G H') (hR : Rows H rs) (hz : rs.length ≤ 1000)
    (q : ∀ D H2, Same H H2 → H D = none → H2 D = some (.dT (kvsN (nub (rs.map (·.2))))) → Q (.ref D) H2) : Ka.tDcT (fun _ H R => R J H) (gName 1) (tVar 1) (tC (.bl true)) [1] [some x0, none] H Q := by
  refine fun D nD => dc_it w (fun i H2 => Same H H2 ∧ H2 D = some (.dT (kvsN (nub ((rs.map (·.2)).take i))))) ⟨same_new nD, upd_same⟩ (fun i H2 _ h => hG H2 h.1) (fun i x H2 H3 hi h y => ?_) (fun H2 h => ?_)
  · obtain ⟨rfl, hx⟩ := y
    obtain ⟨sm, eD⟩ := h
    obtain ⟨r, hr, rfl⟩ := get_map hx
    have er := sm _ _ (hR r (List.mem_of_getElem? hr))
    refine ⟨rfl, .ref r.1, rfl, _, r.2.map Sum.inr, r.1, rfl, ?_, eD, ?_, fun c o e => ?_, ?_⟩
    · rw [kV_rows]
      exact er
    · unfold kvsN
      rw [List.length_map]
      refine small (Nat.le_trans (nub_len _) (Nat.le_trans (List.length_take_le _ _) ?_))
      unfold adV at hi
      rw [List.length_map] at hi
      omega
    · rw [upd_ne (ne_of_none e nD)]
      exact sm c o e
    · have hg : (rs.map (·.2))[i]? = some r.2 := by
        rw [List.getElem?_map, hr]
        rfl
      rw [upd_same, kvs_put, take_of_get hg]
  · refine q D H2 h.1 nD ?_
    have e : (rs.map (·.2)).take (adV rs).length = rs.map (·.2) := List.take_of_length_le (by unfold adV; rw [List.length_map, List.length_map]; exact Nat.le_refl _)
    have h2 := h.2
    rw [e] at h2
    exact h2
section
variable {P : Program} {w : World} {K : PySem.W.Frag} {mg : Str → Option Value} {base : Heap}
theorem scInO : FnScope ["rows", "row"] ["rows"] (defScope sInOrder) := ⟨rfl, rfl, rfl, by decide +kernel, rfl, by decide +kernel, by decide +kernel⟩
def spInO (K : PySem.W.Frag) : Sp := fun vs H Q _ => ∃ (a : Addr) (rs : List Ka.Row), vs = [.ref a] ∧ (SqL K H a (adV rs) ∨ SqT K H a (adV rs)) ∧ Rows H rs ∧ rs.length ≤ 1000 ∧
  ∀ (H' : Hp) (p : Addr) (ts : List Ka.Row), Same H H' → H p = none → H' p = some (.tup (adV ts)) → ts.map (·.2) = ordR (rs.map (·.2)) → Rows H' ts → Q (.ref p) H'
theorem inO_end {H H2 : Hp} {D fO : Addr} {rs : List Ka.Row} {Q : VK} (s2 : Same H H2) (eD : H2 D = some (.dT (kvsN (nub (rs.map (·.2))))))
    (q : ∀ (H' : Hp) (p : Addr) (ts : List Ka.Row), Same H H' → H p = none → H' p = some (.tup (adV ts)) → ts.map (·.2) = ordR (rs.map (·.2)) → Rows H' ts → Q (.ref p) H') :
    Ka.rSortK K fO [.ref D] [.ref fO] H2 fun v H3 => ∃ p ys, [v] = [V.ref p] ∧ ((SqL K H3 p ys ∧ ∀ l, H3 l = none → Q (.ref l) (upd H3 l (.tup ys))) ∨ SqT K H3 p ys ∧ Q (.ref p) H3) := by
  refine ⟨rfl, .inr ⟨D, _, nub (rs.map (·.2)), rfl, eD, ?_, fun ts p h1 h2 np => ?_⟩⟩
  · unfold kvsN
    rw [List.map_map]
    rfl
  · refine ⟨p, adV ts, rfl, .inl ⟨sqL_new upd_same, fun l nl => ?_⟩⟩
    have s3 := same_new (o := .lst (adV ts)) np
    have s4 := same_new (o := .tup (adV ts)) nl
    have sA := (s2.trans s3).trans s4
    exact q _ l ts sA ((s2.trans s3).free nl) upd_same h1 (fun r hr => (s3.trans s4) _ _ (h2 r hr))
theorem ok_inO {f fO : Addr} {fd fdO : FuncData} (F : Fun K "in_order" "in_order" sInOrder f fd) (FO : Fun K "row_order" "row_order" sOrder fO fdO) (gO : mg "row_order" = some (.ref fO)) (ml : mg "len" = none) (mt : mg "tuple" = none) (ms : mg "sorted" = none) : FnOk P w K mg base CX0 1 f fd ["rows"] (spInO K) := by
  refine F.ok scInO (fun vs H Q E h => ?_) (fun cdv A outer s H vs Q E hr h => ?_)
  · obtain ⟨a, rs, rfl, _⟩ := h
    rfl
  · obtain ⟨a, rs, rfl, hA, hR, hz, q⟩ := h
    refine ⟨_, pss_one (ps_ret (pe_callTy call_tuple_of (by rfl) mt (by decide +kernel) (pa_cons
      (pe_callBK (Ka.cr_sortRows (f := fO) rfl hr.units (fun pins s σ H I => ?_)) (by rfl) ms (by decide +kernel)
        (pa_cons (Ka.pe_dcT (own := [("row", 1)]) (g := gName 1) rfl ?_ scInO.nd (pi_or (pi_list (pv 0)) (pi_tup (pv 0))) (blkOk_by (own := [("row", 1)]) (N := ["rows", "row"]) (sc := defScope sInOrder) (by decide +kernel)) (fun _ _ _ _ _ => pg_name (i := 1) scInO.nd rfl (Or.inl rfl)) (fun _ _ _ _ _ => pv 1) (fun _ _ _ _ _ => pe_bl)) pa_nil)
        (pk_cons (pe_glob (v := .ref fO) rfl gO rfl) pk_nil)) pa_nil))), ?_⟩
    · obtain ⟨oc, od, kV, doc, pm, an, cdv2, ct, osl, rfl, lk, hcd⟩ := FO.ex
      exact Ka.keyAt_def (x := "row") (scope := defScope sOrder) (params := defArgs sOrder) I hr lk hcd ml (fun v => rfl) rfl rfl rfl (by decide +kernel) (by rfl) (by rfl) (by decide)
    · exact hu_of hr
    · rcases hA with hA | hA
      · refine .inl ⟨.ref a, rfl, a, rfl, ⟨_, hA⟩, ?_⟩
        exact dc_rows (x0 := .ref a) (Q := fun v H1 => Ka.rSortK K fO [v] [.ref fO] H1 fun v2 H3 => ∃ p ys, [v2] = [V.ref p] ∧ ((SqL K H3 p ys ∧ ∀ l, H3 l = none → Q (.ref l) (upd H3 l (.tup ys))) ∨ SqT K H3 p ys ∧ Q (.ref p) H3)) walk_list (fun H' sm => sm.seq hA) hR hz fun D H2 s2 nD eD => inO_end s2 eD q
      · refine .inr ⟨.ref a, rfl, a, rfl, ⟨_, hA⟩, ?_⟩
        exact dc_rows (x0 := .ref a) (Q := fun v H1 => Ka.rSortK K fO [v] [.ref fO] H1 fun v2 H3 => ∃ p ys, [v2] = [V.ref p] ∧ ((SqL K H3 p ys ∧ ∀ l, H3 l = none → Q (.ref l) (upd H3 l (.tup ys))) ∨ SqT K H3 p ys ∧ Q (.ref p) H3)) walk_tup (fun H' sm => Same.sqT sm hA) hR hz fun D H2 s2 nD eD => inO_end s2 eD q
end
end Kb
namespace Kb
open PySem PySem.Spec PyProof.Rows L2
/-! ### greatest_rows -/
section
variable {P : Program} {w : World} {K : PySem.W.Frag} {mg : Str → Option Value} {base : Heap}
theorem scGreat : FnScope ["rows", "kept", "row", "longer"] ["rows"] (defScope sGreat) := ⟨rfl, rfl, rfl, by decide +kernel, rfl, by decide +kernel, by decide +kernel⟩
def spGreat (K : PySem.W.Frag) : Sp := fun vs H Q _ => ∃ (a : Addr) (rs : List Ka.Row), vs = [.ref a] ∧ (SqL K H a (adV rs) ∨ SqT K H a (adV rs)) ∧ Rows H rs ∧ rs.length ≤ 1000 ∧
  ∀ (H' : Hp) (p : Addr) (ts : List Ka.Row), Same H H' → H p = none → H' p = some (.tup (adV ts)) → ts.map (·.2) = topR (rs.map (·.2)) → Rows H' ts → Q (.ref p) H'
theorem ok_great {f fI fO fW : Addr} {fd fdI fdO fdW : FuncData} (F : Fun K "greatest_rows" "greatest_rows" sGreat f fd) (FI : Fun K "in_order" "in_order" sInOrder fI fdI) (bI : Binds K fdI ["rows"] []) (gI : mg "in_order" = some (.ref fI)) (FO : Fun K "row_order" "row_order" sOrder fO fdO) (gO : mg "row_order" = some (.ref fO))
    (FW : Fun K "within" "within" sWithin fW fdW) (bW : Binds K fdW ["u", "v"] []) (gW : mg "within" = some (.ref fW)) (ml : mg "len" = none) (mt : mg "tuple" = none) (ms : mg "sorted" = none) (mr : mg "reversed" = none) (ma : mg "any" = none) (mi : mg "iter" = none) : FnOk P w K mg base CX0 2 f fd ["rows"] (spGreat K) := by
  have GI : FnOk P w K mg base CX0 1 fI fdI ["rows"] (spInO K) := ok_inO FI FO gO ml mt ms
  have GW : FnOk P w K mg base CX0 1 fW fdW ["u", "v"] (spWithin K) := ok_within FW mi
  refine F.ok scGreat (fun vs H Q E h => ?_) (fun cdv A outer s H vs Q E hr h => ?_)
  · obtain ⟨a, rs, rfl, _⟩ := h
    rfl
  · obtain ⟨a, rs, rfl, hA, hR, hz, q⟩ := h
    refine ⟨_, pss_cons (ps_set (i := 1) scGreat.nd rfl (.inl rfl) (pe_lst pa_nil))
      (pss_cons (ps_for PassesOwn.never rfl (RT.pi_revA (by rfl) mr (pe_call GI hr (by rfl) gI FI.kp bI .nil pass0 (pa_cons (pv 0) pa_nil))) (pg_name (i := 2) scGreat.nd rfl (.inr rfl))
        (pss_one (ps_if (pt_not (pt_val (pe_callB (cr_any rfl) (by rfl) ma (by decide +kernel) (pa_cons
          (pe_lc (own := [("longer", 3)]) (g := gName 3) (tt := tYes) rfl scGreat.nd (pi_list (pv 1)) (blkOk_by (own := [("longer", 3)]) (N := ["rows", "kept", "row", "longer"]) (sc := defScope sGreat) (by decide +kernel)) (fun _ _ _ _ _ => pg_name (i := 3) scGreat.nd rfl (Or.inl rfl)) (fun _ _ _ _ _ => pts_nil)
            (fun _ _ _ _ _ => pe_call GW hr (by rfl) gW FW.kp bW .nil pass0 (pa_cons (pv 2) (pa_cons (pv 3) pa_nil)))) pa_nil))))
          (pss_one (ps_expr (pe_bm PySem.F.plainAttrs_list PySem.F.slot_list_append PySem.F.type_list_append mt_append (pv 1) (pa_cons (pv 2) pa_nil)))) pss_nil)))
      (pss_one (ps_ret (RT.pe_tupRev rfl (by rfl) mt (by rfl) mr (pv 1))))), ?_⟩
    refine ⟨Nat.zero_le _, fun o no => ?_⟩
    have s0 := same_new (o := .lst []) no
    refine ⟨.ref a, rfl, a, rs, rfl, hA.imp (fun h => s0.seq h) (fun h => Same.sqT s0 h), hR.mono s0, hz, fun H1 p ts s1 np ep et hT => ?_⟩
    have eo1 : H1 o = some (.lst []) := s1 _ _ upd_same
    have hno : ∀ r ∈ ts, r.1 ≠ o := fun r hr w => by
      have := hT r hr
      rw [w, eo1] at this
      cases this
    have hpo : p ≠ o := fun w => by
      rw [w, eo1] at ep
      cases ep
    have hzt : ts.length ≤ rs.length := by
      have e1 := congrArg List.length et
      rw [List.length_map] at e1
      rw [e1]
      unfold ordR
      rw [List.length_mergeSort]
      have := nub_len (rs.map (·.2))
      rw [List.length_map] at this
      exact this
    have eL : (adV ts).length = ts.length := List.length_map _
    have eT : ts.length = (ordR (rs.map (·.2))).length := by rw [← et, List.length_map]
    refine ⟨p, adV ts, rfl, .inr ⟨sqT_new ep, ?_⟩⟩
    refine for_it (walk_revT (K := K) (a := p) (xs := adV ts)) (fun n σ H' => ∃ d2 ks, σ = [some (.ref a), some (.ref o), d2, none] ∧ (∀ c u, c ≠ o → H1 c = some u → H' c = some u) ∧ H' o = some (.lst (adV ks)) ∧ (∀ r ∈ ks, r ∈ ts) ∧
        ks.map (·.2) = (((ordR (rs.map (·.2))).drop ((ordR (rs.map (·.2))).length - n)).filter (great (ordR (rs.map (·.2))))).reverse)
      ⟨none, [], rfl, fun c u _ e => e, eo1, (fun r hr => by cases hr), by rw [Nat.sub_zero, List.drop_length]; rfl⟩ (fun n σ H' _ ⟨_, _, _, sk, _⟩ => sqT_new (sk p _ hpo ep)) (fun n x σ H' H3 hn h y => ?_) (fun σ H' h => ?_)
    · obtain ⟨rfl, hx⟩ := y
      obtain ⟨d2, ks, rfl, sk, eo, hks, ek⟩ := h
      rw [eL] at hn hx
      obtain ⟨r, hr, rfl⟩ := get_map hx
      have hrm := List.mem_of_getElem? hr
      have eR : ∀ g ∈ ts, H3 g.1 = some (.tup (g.2.map V.str)) := fun g hg => sk _ _ (hno g hg) (hT g hg)
      have hr2 : (ordR (rs.map (·.2)))[(ordR (rs.map (·.2))).length - 1 - n]? = some r.2 := by
        rw [← eT, ← et, List.getElem?_map, hr]
        rfl
      have hdrop : (ordR (rs.map (·.2))).drop ((ordR (rs.map (·.2))).length - (n + 1)) = r.2 :: (ordR (rs.map (·.2))).drop ((ordR (rs.map (·.2))).length - n) := by
        rw [show (ordR (rs.map (·.2))).length - (n + 1) = (ordR (rs.map (·.2))).length - 1 - n by omega, drop_of_get hr2]
        congr 2
        omega
      have hkl : ks.length ≤ 1000 := by
        have e1 := congrArg List.length ek
        rw [List.length_map, List.length_reverse] at e1
        have e2 := List.length_filter_le (great (ordR (rs.map (·.2)))) ((ordR (rs.map (·.2))).drop ((ordR (rs.map (·.2))).length - n))
        rw [List.length_drop] at e2
        omega
      refine ⟨.ref o, rfl, o, rfl, ⟨_, sqL_new eo⟩, fun D nD => ?_⟩
      refine lc_list (K := K) (a := o) (xs := adV ks) (fun j H2 => Same H3 H2 ∧ H2 D = some (.lst ((ks.take j).map fun g => V.bl (sub r.2 g.2)))) ⟨same_new nD, upd_same⟩ (fun j H2 _ h2 => sqL_new (h2.1 _ _ eo)) (fun j x H2 hj h2 => ?_) (fun H2 h2 => ?_)
      · obtain ⟨g, hg, rfl⟩ := get_map hj
        obtain ⟨s2, eD⟩ := h2
        have hgm := hks g (List.mem_of_getElem? hg)
        refine ⟨rfl, ?_⟩
        refine ⟨.ref r.1, rfl, .ref g.1, rfl, r.1, g.1, r.2, g.2, rfl, sqT_new (s2 _ _ (eR r hrm)), sqT_new (s2 _ _ (eR g hgm)), fun H4 s4 => ?_⟩
        refine ⟨_, s4 _ _ eD, ?_, fun c u e => ?_, ?_⟩
        · rw [List.length_map]
          exact small (Nat.le_trans (List.length_take_le _ _) (by have := lt_of_get hg; omega))
        · rw [upd_ne (ne_of_none e nD)]
          exact s4 _ _ (s2 _ _ e)
        · rw [upd_same, take_of_get hg, List.map_append]
          rfl
      · obtain ⟨s2, eD⟩ := h2
        have e1 : ks.take (adV ks).length = ks := List.take_of_length_le (by unfold adV; rw [List.length_map]; exact Nat.le_refl _)
        rw [e1] at eD
        have eD' : H2 D = some (.lst ((ks.map fun g => sub r.2 g.2).map V.bl)) := by
          rw [eD, List.map_map]
          rfl
        have any : (ks.map fun g => sub r.2 g.2).any id = !great (ordR (rs.map (·.2))) r.2 := by
          rw [← great_turn (by omega) hr2, List.any_map]
          have e2 : ks.any (id ∘ fun g => sub r.2 g.2) = (ks.map (·.2)).any fun g => sub r.2 g := by
            rw [List.any_map]
            rfl
          rw [e2, ek, List.any_reverse]
        refine ⟨D, _, rfl, sqL_new eD', ?_⟩
        rw [any]
        cases eg : great (ordR (rs.map (·.2))) r.2 with
        | false =>
          refine ⟨_, rfl, iteF ⟨_, ks, rfl, fun c u hc e => s2 _ _ (sk c u hc e), s2 _ _ eo, hks, ?_⟩⟩
          rw [hdrop, List.filter_cons_of_neg (by rw [eg]; exact Bool.false_ne_true)]
          exact ek
        | true =>
          refine ⟨_, rfl, iteT ?_⟩
          refine ⟨.ref o, rfl, .inl ⟨rfl, _, sqL_new (s2 _ _ eo)⟩, .ref r.1, rfl, o, _, _, rfl, rfl, s2 _ _ eo, ?_, ?_⟩
          · unfold adV
            rw [List.length_map]
            exact small (by omega)
          · refine ⟨_, ks ++ [r], rfl, fun c u hc e => by rw [upd_ne hc]; exact s2 _ _ (sk c u hc e), ?_, fun g hg => ?_, ?_⟩
            · rw [upd_same]
              unfold adV
              rw [List.map_append]
              rfl
            · rcases List.mem_append.mp hg with h | h
              · exact hks g h
              · rw [List.mem_singleton.mp h]
                exact hrm
            · rw [hdrop, List.filter_cons_of_pos eg, List.reverse_cons, List.map_append, ek]
              rfl
    · obtain ⟨d2, ks, rfl, sk, eo, hks, ek⟩ := h
      rw [eL, eT, Nat.sub_self, List.drop_zero] at ek
      refine ⟨.ref o, rfl, o, _, rfl, sqL_new eo, fun t nt => ?_⟩
      have st := same_new (o := .tup (adV ks).reverse) nt
      have sH : Same H H' := fun c u e => sk c u (ne_of_none e no) (s1 _ _ (s0 _ _ e))
      refine q _ t ks.reverse (sH.trans st) (sH.free nt) ?_ ?_ ?_
      · rw [upd_same]
        unfold adV
        rw [List.map_reverse]
      · rw [List.map_reverse, ek, List.reverse_reverse]
        rfl
      · intro g hg
        have hg := hks g (List.mem_reverse.mp hg)
        exact st _ _ (sk _ _ (hno g hg) (hT g hg))
end
end Kb
namespace Kb
open PySem PySem.Spec PyProof.Rows L2
/-! ### the source of draws -/
/-- three whole numbers -/
def Box (H : Hp) (x : Addr) : Prop := ∃ b0 b1 b2 : Int, H x = some (.lst [.int b0, .int b1, .int b2])
/-- all but x stands -/
def But (x : Addr) (H H' : Hp) : Prop := ∀ c u, c ≠ x → H c = some u → H' c = some u
theorem But.refl {x : Addr} {H : Hp} : But x H H := fun _ _ _ e => e
theorem But.trans {x : Addr} {H H' H'' : Hp} (a : But x H H') (b : But x H' H'') : But x H H'' := fun c u h e => b c u h (a c u h e)
theorem But.of {x : Addr} {H H' : Hp} (s : Same H H') : But x H H' := fun c u _ e => s c u e
theorem But.upd {x : Addr} {H : Hp} {o : HO} : But x H (upd H x o) := fun c u h e => by
  rw [upd_ne h]
  exact e
theorem Box.mono {x : Addr} {H H' : Hp} (b : Box H x) (s : Same H H') : Box H' x := let ⟨b0, b1, b2, e⟩ := b; ⟨b0, b1, b2, s _ _ e⟩
theorem mod_nat (i : Int) {n : Nat} (h : 0 < n) : ∃ r : Nat, r < n ∧ i % (n : Int) = (r : Int) := by
  have h1 := Int.emod_nonneg i (show (n : Int) ≠ 0 by omega)
  have h2 := Int.emod_lt_of_pos i (show 0 < (n : Int) by omega)
  exact ⟨(i % (n : Int)).toNat, by omega, by omega⟩
theorem small_mul {k : Int} (h1 : -1000000000000 < k) (h2 : k < 1000000000000) : -(2 ^ 64) < k ∧ k < 2 ^ 64 := by omega
section
variable {P : Program} {w : World} {K : PySem.W.Frag} {mg : Str → Option Value} {base : Heap}
theorem scTake : FnScope ["box", "many", "digit", "raw"] ["box", "many"] (defScope sTake) := ⟨rfl, rfl, rfl, by decide +kernel, rfl, by decide +kernel, by decide +kernel⟩
def spTake : Sp := fun vs H Q _ => ∃ (x : Addr) (n : Nat), vs = [.ref x, .int (n : Nat)] ∧ Box H x ∧ 0 < n ∧ n < 1000000 ∧ ∀ (r : Nat) H', r < n → But x H H' → Box H' x → Q (.int (r : Nat)) H'
theorem ok_take {f : Addr} {fd : FuncData} (F : Fun K "_law_take" "_law_take" sTake f fd) (mi : mg "int" = none) : FnOk P w K mg base CX0 1 f fd ["box", "many"] spTake := by
  refine F.ok scTake (fun vs H Q E h => ?_) (fun cdv A outer s H vs Q E hr h => ?_)
  · obtain ⟨x, n, rfl, _⟩ := h
    rfl
  · obtain ⟨x, n, rfl, ⟨b0, b1, b2, hx⟩, hn, hn2, q⟩ := h
    refine ⟨_, pss_cons (ps_if (pt_cmpR op_gt (pe_ix ix_list (pv 0) pe_int (fun _ _ => rfl)) pe_int (nomark _))
        (pss_cons (ps_set (i := 2) scTake.nd rfl (.inl rfl) (pe_op op_mod (pe_callTy call_int1 (by rfl) mi (by decide +kernel) (pa_cons (pe_ix ix_list (pv 0) pe_int (fun _ _ => rfl)) pa_nil)) (pv 1)))
          (pss_cons (ps_asg (pe_op op_fdivN (pe_ix ix_list (pv 0) pe_int (fun _ _ => rfl)) (pv 1)) (pg_sub (pv 0) pe_int set_list)) (pss_one (ps_ret (pv 2))))) pss_nil)
      (pss_cons (ps_asg (pe_op op_add (pe_ix ix_list (pv 0) pe_int (fun _ _ => rfl)) pe_int) (pg_sub (pv 0) pe_int set_list))
      (pss_cons (ps_set (i := 3) scTake.nd rfl (.inl rfl) (pe_op op_mod (pe_callTy call_int1 (by rfl) mi (by decide +kernel) (pa_cons (pe_op op_add (pe_op op_mul (pe_op op_add (pe_ix ix_list (pv 0) pe_int (fun _ _ => rfl)) (pe_op op_mul pe_int (pe_ix ix_list (pv 0) pe_int (fun _ _ => rfl)))) pe_int) pe_int) pa_nil)) pe_int))
      (pss_cons (ps_asg (pe_op op_add (pe_op op_mod (pe_callTy call_int1 (by rfl) mi (by decide +kernel) (pa_cons (pe_op op_add (pe_op op_mul (pv 3) pe_int) pe_int) pa_nil)) pe_int) pe_int) (pg_sub (pv 0) pe_int set_list))
      (pss_one (ps_ret (pe_op op_mod (pe_callTy call_int1 (by rfl) mi (by decide +kernel) (pa_cons (pe_op op_fdivN (pe_op op_add (pe_op op_mul (pv 3) pe_int) (pe_ix ix_list (pv 0) pe_int (fun _ _ => rfl))) pe_int) pa_nil)) (pv 1))))))), ?_⟩
    refine ⟨.ref x, rfl, x, _, 0, .int b0, rfl, rfl, sqL_new hx, rfl, b0, 0, rfl, rfl, _, rfl, ite2 (fun c => ?_) (fun c => ?_)⟩
    · obtain ⟨r, hr1, hr2⟩ := mod_nat b0 hn
      refine ⟨.ref x, rfl, x, _, 0, .int b0, rfl, rfl, sqL_new hx, rfl, .inl ⟨b0, rfl, .int (n : Nat), rfl, b0, (n : Nat), rfl, rfl, (by omega), ?_⟩⟩
      refine ⟨.ref x, rfl, x, _, 0, .int b0, rfl, rfl, sqL_new hx, rfl, .int (n : Nat), rfl, b0, (n : Nat), rfl, rfl, ⟨by omega, by omega⟩, .ref x, rfl, x, _, 0, 0, rfl, rfl, hx, rfl, ?_⟩
      refine ⟨_, rfl, ?_⟩
      show Q (.int (b0 % (n : Int))) _
      rw [hr2]
      exact q r _ hr1 But.upd ⟨_, _, _, upd_same⟩
    · refine ⟨.ref x, rfl, x, _, 2, .int b2, rfl, rfl, sqL_new hx, rfl, _, _, rfl, rfl, .ref x, rfl, x, _, 2, 2, rfl, rfl, hx, rfl, ?_⟩
      generalize hH1 : upd H x _ = H1
      have hx1 : H1 x = some (.lst [.int b0, .int b1, .int (b2 + 1)]) := by rw [← hH1, upd_same]; rfl
      have k1 : But x H H1 := by rw [← hH1]; exact But.upd
      refine ⟨.ref x, rfl, x, _, 1, .int b1, rfl, rfl, sqL_new hx1, rfl, .ref x, rfl, x, _, 2, .int (b2 + 1), rfl, rfl, sqL_new hx1, rfl, 99991, b2 + 1, rfl, rfl, .inl (by decide), b1, _, rfl, rfl, _, 69621, rfl, rfl, .inr (by decide), _, 53, rfl, rfl, .inl ⟨_, rfl, _, 2147483563, rfl, rfl, (by show (0 : Int) < 2147483563; decide), ?_⟩⟩
      refine ⟨_, rfl, _, 40692, rfl, rfl, .inr (by decide), _, 27011, rfl, rfl, .inl ⟨_, rfl, _, 2147483629, rfl, rfl, (by show (0 : Int) < 2147483629; decide), _, 1, rfl, rfl, .ref x, rfl, x, _, 1, 1, rfl, rfl, hx1, rfl, ?_⟩⟩
      generalize hH2 : upd H1 x _ = H2
      obtain ⟨c1, hx2⟩ : ∃ c1 : Int, H2 x = some (.lst [.int b0, .int c1, .int (b2 + 1)]) := ⟨_, by rw [← hH2, upd_same]; rfl⟩
      have k2 : But x H1 H2 := by rw [← hH2]; exact But.upd
      refine ⟨_, rfl, _, 2147483647, rfl, rfl, .inr (by decide), .ref x, rfl, x, _, 1, .int c1, rfl, rfl, sqL_new hx2, rfl, _, c1, rfl, rfl, _, 8191, rfl, rfl, ⟨by decide, by decide⟩, .inl ⟨_, rfl, .int (n : Nat), rfl, _, (n : Nat), rfl, rfl, (by omega), ?_⟩⟩
      obtain ⟨r, hr1, hr2⟩ := mod_nat _ hn
      refine (congrArg (fun z => Q (V.int z) H2) hr2).mpr ?_
      exact q r _ hr1 (k1.trans k2) ⟨_, _, _, hx2⟩
end
end Kb
namespace Kb
open PySem PySem.Spec PyProof.Rows L2
section
variable {P : Program} {w : World} {K : PySem.W.Frag} {mg : Str → Option Value} {base : Heap}
theorem scBox : FnScope ["script", "k", "cell"] ["script", "k"] (defScope sBox) := ⟨rfl, rfl, rfl, by decide +kernel, rfl, by decide +kernel, by decide +kernel⟩
def spBox (K : PySem.W.Frag) : Sp := fun vs H Q _ => ∃ (a : Addr) (k : Nat) (ns : List Int), vs = [.ref a, .int (k : Nat)] ∧ SqL K H a (intV ns) ∧ k ≤ 3 ∧ ∀ H' p, Same H H' → H p = none → Box H' p → Q (.ref p) H'
theorem ok_box {f : Addr} {fd : FuncData} (F : Fun K "_law_box" "_law_box" sBox f fd) (mi : mg "int" = none) (ml : mg "len" = none) (ma : mg "abs" = none) : FnOk P w K mg base CX0 1 f fd ["script", "k"] (spBox K) := by
  refine F.ok scBox (fun vs H Q E h => ?_) (fun cdv A outer s H vs Q E hr h => ?_)
  · obtain ⟨a, k, ns, rfl, _⟩ := h
    rfl
  · obtain ⟨a, k, ns, rfl, hA, hk, q⟩ := h
    refine ⟨_, pss_cons (ps_set (i := 2) scBox.nd rfl (.inl rfl) (pe_op op_add (pe_op op_mul pe_int (pv 1)) pe_int))
      (pss_cons (ps_if (pt_cmpR op_lt (pv 1) (pe_callB call_len_seq (by rfl) ml PySem.boot_len (pa_cons (pv 0) pa_nil)) (nomark _))
        (pss_one (ps_set (i := 2) scBox.nd rfl (.inl rfl) (pe_callB call_abs (by rfl) ma (by decide +kernel) (pa_cons (pe_ix ix_list (pv 0) (pv 1) (fun _ _ => rfl)) pa_nil))))
        (pss_one (ps_if (pt_cmpR op_gt (pe_callB call_len_seq (by rfl) ml PySem.boot_len (pa_cons (pv 0) pa_nil)) pe_int (nomark _))
          (pss_one (ps_set (i := 2) scBox.nd rfl (.inl rfl) (pe_op op_add (pv 2) (pe_op op_mul (pe_op op_mod (pe_callTy call_int1 (by rfl) mi (by decide +kernel) (pa_cons (pe_callB call_abs (by rfl) ma (by decide +kernel) (pa_cons
              (pe_ix ix_list (pv 0) (pe_op op_mod (pe_callTy call_int1 (by rfl) mi (by decide +kernel) (pa_cons (pv 1) pa_nil)) (pe_callB call_len_seq (by rfl) ml PySem.boot_len (pa_cons (pv 0) pa_nil))) (fun _ _ => rfl)) pa_nil)) pa_nil)) pe_int) pe_int)))) pss_nil)))
      (pss_one (ps_ret (pe_lst (pa_cons (pe_ix ix_list (pe_lst (pa_cons pe_int (pa_cons (pv 2) pa_nil))) (pe_callTy call_int1 (by rfl) mi (by decide +kernel) (pa_cons (pe_cmpR op_ge (pv 2) (pe_op op_pow pe_int pe_int) (nomark _)) pa_nil)) (fun _ _ => rfl))
        (pa_cons (pe_op op_add (pe_op op_mod (pe_callTy call_int1 (by rfl) mi (by decide +kernel) (pa_cons (pe_op op_add (pe_op op_add (pe_op op_mul (pe_op op_mod (pe_callTy call_int1 (by rfl) mi (by decide +kernel) (pa_cons (pv 2) pa_nil)) pe_int) pe_int) (pe_op op_mul pe_int (pv 1))) pe_int) pa_nil)) pe_int) pe_int) (pa_cons pe_int pa_nil))))))), ?_⟩
    have s1000 : ∀ n, n ≤ 1000000 → n ≤ sizeLine := fun n h => smallE h
    refine ⟨.int (k : Nat), rfl, 7919, (k : Nat), rfl, rfl, .inl (by decide), _, 41543, rfl, rfl, ?_⟩
    refine ⟨.int (k : Nat), rfl, .ref a, rfl, a, _, rfl, .inl hA, _, _, rfl, rfl, _, rfl, ?_⟩
    generalize hX : tRet _ _ = X
    have fin : ∀ c : Int, X [some (.ref a), some (.int (k : Nat)), some (.int c)] H := fun c => by
      rw [← hX]
      refine ⟨.int c, rfl, s1000 2 (by decide), fun l nl => ?_⟩
      have s1 := same_new (o := .lst [.int 0, .int c]) nl
      refine ⟨.int c, rfl, 10, 18, rfl, rfl, ⟨by decide, by decide, by decide⟩, _, _, rfl, rfl, .inr ⟨_, rfl, ?_⟩⟩
      have hat : ∃ e : Int, atI [V.int 0, V.int c] (if decide ((10 : Int) ^ (18 : Int).toNat ≤ c) = true then 1 else 0) = some (.int e) := by
        by_cases h : decide ((10 : Int) ^ (18 : Int).toNat ≤ c) = true
        · rw [if_pos h]
          exact ⟨c, rfl⟩
        · rw [if_neg h]
          exact ⟨0, rfl⟩
      obtain ⟨e, he⟩ := hat
      refine ⟨l, _, _, .int e, rfl, rfl, sqL_new upd_same, he, ?_⟩
      refine ⟨.int c, rfl, .inl ⟨c, rfl, c, 2147483629, rfl, rfl, (by show (0 : Int) < 2147483629; decide), _, 48271, rfl, rfl, .inr (by decide), .int (k : Nat), rfl, 41543, _, rfl, rfl, .inl (by decide), _, _, rfl, rfl, _, 977, rfl, rfl, .inl ⟨_, rfl, _, 2147483629, rfl, rfl, (by show (0 : Int) < 2147483629; decide), _, 1, rfl, rfl, ?_⟩⟩⟩
      refine ⟨s1000 3 (by decide), fun l2 nl2 => ?_⟩
      exact q _ l2 (s1.trans (same_new nl2)) (s1.free nl2) ⟨_, _, _, upd_same⟩
    refine ite2 (fun c => ?_) (fun c => ?_)
    · have c := of_decide_eq_true c
      rw [intV_len] at c
      have hg : ns[k]? = some (ns[k]'(by omega)) := List.getElem?_eq_getElem (by omega)
      exact ⟨.ref a, rfl, .int (k : Nat), rfl, a, _, _, _, rfl, rfl, hA, atI_nat (intV_get hg), _, rfl, fin _⟩
    · refine ⟨.ref a, rfl, a, _, rfl, .inl hA, _, 0, rfl, rfl, _, rfl, ite2 (fun c2 => ?_) (fun c2 => ?_)⟩
      · have c2 := of_decide_eq_true c2
        rw [intV_len] at c2
        obtain ⟨r, hr1, hr2⟩ := mod_nat (k : Int) (n := ns.length) (by omega)
        have hg : ns[r]? = some (ns[r]'(by omega)) := List.getElem?_eq_getElem (by omega)
        refine ⟨_, rfl, .ref a, rfl, .int (k : Nat), rfl, .inl ⟨_, rfl, .ref a, rfl, a, _, rfl, .inl hA, _, _, rfl, rfl, ?_, ?_⟩⟩
        · show (0 : Int) < (((intV ns).length : Nat) : Int)
          rw [intV_len]
          exact c2
        · refine ⟨a, _, _, _, rfl, rfl, hA, at_of (by rw [intV_len]; exact hr2) (intV_get hg), _, rfl, .inl ⟨_, rfl, _, 2147483629, rfl, rfl, (by show (0 : Int) < 2147483629; decide), _, 60719, rfl, rfl, .inr (by decide), _, _, rfl, rfl, fin _⟩⟩
      · exact fin _
end
end Kb
namespace Kb
open PySem PySem.Spec PyProof.Rows L2
theorem But.free {x p : Addr} {H H1 : Hp} (k : But x H H1) (b : Box H1 x) (h : H1 p = none) : H p = none := by
  cases e : H p with
  | none => rfl
  | some u =>
    by_cases w : p = x
    · obtain ⟨b0, b1, b2, hb⟩ := b
      rw [← w, h] at hb
      cases hb
    · rw [k p u w e] at h
      cases h
theorem Box.ne {x p : Addr} {H : Hp} (b : Box H x) (h : H p = none) : p ≠ x := fun w => by
  obtain ⟨b0, b1, b2, hb⟩ := b
  rw [← w, h] at hb
  cases hb
theorem Box.upd {x p : Addr} {H : Hp} {o : HO} (b : Box H x) (h : p ≠ x) : Box (upd H p o) x := by
  obtain ⟨b0, b1, b2, hb⟩ := b
  exact ⟨b0, b1, b2, by rw [upd_ne (Ne.symm h)]; exact hb⟩
section
variable {P : Program} {w : World} {K : PySem.W.Frag} {mg : Str → Option Value} {base : Heap}
theorem scPick : FnScope ["box", "some"] ["box", "some"] (defScope sPick) := ⟨rfl, rfl, rfl, by decide +kernel, rfl, by decide +kernel, by decide +kernel⟩
def spPick : Sp := fun vs H Q _ => ∃ (x a : Addr) (xs : List V), vs = [.ref x, .ref a] ∧ Box H x ∧ a ≠ x ∧ H a = some (.lst xs) ∧ 0 < xs.length ∧ xs.length < 1000000 ∧ ∀ (i : Nat) (v : V) H', xs[i]? = some v → But x H H' → Box H' x → Q v H'
theorem ok_pick {f fT : Addr} {fd fdT : FuncData} (F : Fun K "_law_pick" "_law_pick" sPick f fd) (FT : Fun K "_law_take" "_law_take" sTake fT fdT) (bT : Binds K fdT ["box", "many"] []) (gT : mg "_law_take" = some (.ref fT)) (mi : mg "int" = none) (ml : mg "len" = none) : FnOk P w K mg base CX0 2 f fd ["box", "some"] spPick := by
  have GT : FnOk P w K mg base CX0 1 fT fdT ["box", "many"] spTake := ok_take FT mi
  refine F.ok scPick (fun vs H Q E h => ?_) (fun cdv A outer s H vs Q E hr h => ?_)
  · obtain ⟨x, a, xs, rfl, _⟩ := h
    rfl
  · obtain ⟨x, a, xs, rfl, hx, hax, ha, h0, h1, q⟩ := h
    refine ⟨_, pss_one (ps_ret (pe_ix ix_list (pv 1) (pe_call GT hr (by rfl) gT FT.kp bT .nil pass0 (pa_cons (pv 0) (pa_cons (pe_callB call_len_seq (by rfl) ml PySem.boot_len (pa_cons (pv 1) pa_nil)) pa_nil))) (fun _ _ => rfl))), ?_⟩
    refine ⟨.ref a, rfl, .ref x, rfl, .ref a, rfl, a, xs, rfl, .inl (sqL_new ha), x, xs.length, rfl, hx, h0, h1, fun r H' hr k b => ?_⟩
    have hg : xs[r]? = some (xs[r]'hr) := List.getElem?_eq_getElem hr
    exact ⟨a, xs, _, _, rfl, rfl, sqL_new (k _ _ hax ha), atI_nat hg, q r _ H' hg k b⟩
theorem scLet : FnScope ["box"] ["box"] (defScope sLet) := ⟨rfl, rfl, rfl, by decide +kernel, rfl, by decide +kernel, by decide +kernel⟩
def spLet : Sp := fun vs H Q _ => ∃ x : Addr, vs = [.ref x] ∧ Box H x ∧ ∀ (c : Nat) H', lowC c = true → But x H H' → Box H' x → Q (.str ⟨#[c]⟩) H'
theorem abc_low : ∀ r : Fin 26, ∃ c, (Str.ofString "abcdefghijklmnopqrstuvwxyz").cps.toList[r.1]? = some c ∧ lowC c = true := by
  have h : ∀ r : Fin 26, ((Str.ofString "abcdefghijklmnopqrstuvwxyz").cps.toList[r.1]?.map lowC) = some true := by decide +kernel
  intro r
  have := h r
  cases e : (Str.ofString "abcdefghijklmnopqrstuvwxyz").cps.toList[r.1]? with
  | none =>
    rw [e] at this
    cases this
  | some c =>
    rw [e] at this
    exact ⟨c, rfl, Option.some.inj this⟩
theorem ok_let {f fT : Addr} {fd fdT : FuncData} (F : Fun K "_law_letter" "_law_letter" sLet f fd) (FT : Fun K "_law_take" "_law_take" sTake fT fdT) (bT : Binds K fdT ["box", "many"] []) (gT : mg "_law_take" = some (.ref fT)) (mi : mg "int" = none) : FnOk P w K mg base CX0 2 f fd ["box"] spLet := by
  have GT : FnOk P w K mg base CX0 1 fT fdT ["box", "many"] spTake := ok_take FT mi
  refine F.ok scLet (fun vs H Q E h => ?_) (fun cdv A outer s H vs Q E hr h => ?_)
  · obtain ⟨x, rfl, _⟩ := h
    rfl
  · obtain ⟨x, rfl, hx, q⟩ := h
    refine ⟨_, pss_one (ps_ret (pe_ix ix_str pe_str (pe_call GT hr (by rfl) gT FT.kp bT .nil pass0 (pa_cons (pv 0) (pa_cons pe_int pa_nil))) (fun _ _ => rfl))), ?_⟩
    refine ⟨.ref x, rfl, x, 26, rfl, hx, by decide, by decide, fun r H' hr k b => ?_⟩
    obtain ⟨c, hc, hl⟩ := abc_low ⟨r, hr⟩
    exact ⟨_, _, c, rfl, rfl, (by decide +kernel), atI_nat hc, q c H' hl k b⟩
theorem scRow : FnScope ["box", "names", "most", "turn"] ["box", "names", "most"] (defScope sRow) := ⟨rfl, rfl, rfl, by decide +kernel, rfl, by decide +kernel, by decide +kernel⟩
def spRow : Sp := fun vs H Q _ => ∃ (x a : Addr) (m : Nat) (ns : List Str), vs = [.ref x, .ref a, .int (m : Nat)] ∧ Box H x ∧ a ≠ x ∧ H a = some (.lst (ns.map V.str)) ∧ 0 < ns.length ∧ ns.length ≤ 1000 ∧ m ≤ 100 ∧
  ∀ (p : Addr) (zs : List Str) H', zs.length ≤ m → (∀ z ∈ zs, z ∈ ns) → But x H H' → Box H' x → H p = none → H' p = some (.tup (zs.map V.str)) → Q (.ref p) H'
theorem ok_row {f fT fP : Addr} {fd fdT fdP : FuncData} (F : Fun K "_law_row" "_law_row" sRow f fd) (FT : Fun K "_law_take" "_law_take" sTake fT fdT) (bT : Binds K fdT ["box", "many"] []) (gT : mg "_law_take" = some (.ref fT)) (FP : Fun K "_law_pick" "_law_pick" sPick fP fdP) (bP : Binds K fdP ["box", "some"] []) (gP : mg "_law_pick" = some (.ref fP))
    (mi : mg "int" = none) (ml : mg "len" = none) (mt : mg "tuple" = none) (mg_ : mg "range" = none) : FnOk P w K mg base CX0 3 f fd ["box", "names", "most"] spRow := by
  have GT : FnOk P w K mg base CX0 1 fT fdT ["box", "many"] spTake := ok_take FT mi
  have GP : FnOk P w K mg base CX0 2 fP fdP ["box", "some"] spPick := ok_pick FP FT bT gT mi ml
  refine F.ok scRow (fun vs H Q E h => ?_) (fun cdv A outer s H vs Q E hr h => ?_)
  · obtain ⟨x, a, m, ns, rfl, _⟩ := h
    rfl
  · obtain ⟨x, a, m, ns, rfl, hx, hax, ha, h0, h1, hm, q⟩ := h
    refine ⟨_, pss_one (ps_ret (pe_callTy call_tuple_of (by rfl) mt (by decide +kernel) (pa_cons
      (pe_lc (own := [("turn", 3)]) (g := gName 3) (tt := tYes) rfl scRow.nd (pi_range1 (by rfl) mg_ (pa_cons (pe_call GT (hr.mono (by decide)) (by rfl) gT FT.kp bT .nil pass0 (pa_cons (pv 0) (pa_cons (pe_op op_add (pv 2) pe_int) pa_nil))) pa_nil)) (blkOk_by (own := [("turn", 3)]) (N := ["box", "names", "most", "turn"]) (sc := defScope sRow) (by decide +kernel)) (fun _ _ _ _ _ => pg_name (i := 3) scRow.nd rfl (Or.inl rfl)) (fun _ _ _ _ _ => pts_nil)
        (fun _ _ _ _ _ => pe_call GP hr (by rfl) gP FP.kp bP .nil pass0 (pa_cons (pv 0) (pa_cons (pv 1) pa_nil)))) pa_nil))), ?_⟩
    refine ⟨.ref x, rfl, .int (m : Nat), rfl, (m : Nat), 1, rfl, rfl, x, m + 1, rfl, hx, Nat.succ_pos _, by omega, fun r H1 hr k1 b1 => ?_⟩
    refine ⟨(r : Nat), rfl, by omega, by omega, fun D nD => ?_⟩
    have hDx := b1.ne nD
    have hnD : H D = none := k1.free b1 nD
    refine lc_it (walk_range (lo := 0) (n := r)) (fun i H2 => But x H H2 ∧ Box H2 x ∧ ∃ zs : List Str, zs.length = i ∧ (∀ z ∈ zs, z ∈ ns) ∧ H2 D = some (.lst (zs.map V.str)))
      ⟨k1.trans (But.of (same_new nD)), b1.upd hDx, [], rfl, (fun z hz => by cases hz), upd_same⟩ (fun _ _ _ _ => True.intro) (fun i y H2 H3 hi h2 yy => ?_) (fun H2 h2 => ?_)
    · obtain ⟨rfl, rfl⟩ := yy
      obtain ⟨k2, b2, zs, hl, hz, eD⟩ := h2
      refine ⟨rfl, ?_⟩
      refine ⟨.ref x, rfl, .ref a, rfl, x, a, _, rfl, b2, hax, k2 _ _ hax ha, by rw [List.length_map]; exact h0, by rw [List.length_map]; omega, fun j v H4 hv k4 b4 => ?_⟩
      obtain ⟨z, hzz, rfl⟩ := get_map hv
      refine ⟨_, k4 _ _ hDx eD, by rw [List.length_map]; exact small (by omega), fun c u hc e => ?_, b4.upd hDx, zs ++ [z], by rw [List.length_append, hl]; rfl, fun y hy => ?_, by rw [upd_same, List.map_append]; rfl⟩
      · rw [upd_ne (ne_of_none e hnD)]
        exact k4 _ _ hc (k2 _ _ hc e)
      · rcases List.mem_append.mp hy with h | h
        · exact hz y h
        · rw [List.mem_singleton.mp h]
          exact List.mem_of_getElem? hzz
    · obtain ⟨k2, b2, zs, hl, hz, eD⟩ := h2
      refine ⟨D, _, rfl, .inl ⟨sqL_new eD, fun l nl => ?_⟩⟩
      exact q l zs _ (by omega) hz (k2.trans (But.of (same_new nl))) (b2.mono (same_new nl)) (k2.free b2 nl) upd_same
theorem scStruck : FnScope ["box", "row", "deed"] ["box", "row"] (defScope sStruck) := ⟨rfl, rfl, rfl, by decide +kernel, rfl, by decide +kernel, by decide +kernel⟩
def spStruck (K : PySem.W.Frag) : Sp := fun vs H Q _ => ∃ (x a : Addr) (us : List Str), vs = [.ref x, .ref a] ∧ Box H x ∧ H a = some (.tup (us.map V.str)) ∧ us.length ≤ 100000 ∧
  ∀ (p : Addr) (zs : List Str) H', zs.Sublist us → But x H H' → Box H' x → H p = none → H' p = some (.tup (zs.map V.str)) → Q (.ref p) H'
theorem ok_struck {f fT : Addr} {fd fdT : FuncData} (F : Fun K "_law_struck" "_law_struck" sStruck f fd) (FT : Fun K "_law_take" "_law_take" sTake fT fdT) (bT : Binds K fdT ["box", "many"] []) (gT : mg "_law_take" = some (.ref fT)) 
    (mi : mg "int" = none) (mt : mg "tuple" = none) : FnOk P w K mg base CX0 2 f fd ["box", "row"] (spStruck K) := by
  have GT : FnOk P w K mg base CX0 1 fT fdT ["box", "many"] spTake := ok_take FT mi
  refine F.ok scStruck (fun vs H Q E h => ?_) (fun cdv A outer s H vs Q E hr h => ?_)
  · obtain ⟨x, a, us, rfl, _⟩ := h
    rfl
  · obtain ⟨x, a, us, rfl, hx, ha, h1, q⟩ := h
    refine ⟨_, pss_one (ps_ret (pe_callTy call_tuple_of (by rfl) mt (by decide +kernel) (pa_cons
      (pe_lc (own := [("deed", 2)]) (g := gName 2) rfl scStruck.nd (pi_tup (pv 1)) (blkOk_by (own := [("deed", 2)]) (N := ["box", "row", "deed"]) (sc := defScope sStruck) (by decide +kernel)) (fun _ _ _ _ _ => pg_name (i := 2) scStruck.nd rfl (Or.inl rfl)) (fun _ _ _ _ _ => pts_one (pt_cmpR op_eq (pe_call GT hr (by rfl) gT FT.kp bT .nil pass0 (pa_cons (pv 0) (pa_cons pe_int pa_nil))) pe_int (nomark _)))
        (fun _ _ _ _ _ => pv 2)) pa_nil))), ?_⟩
    refine ⟨.ref a, rfl, a, rfl, ⟨_, sqT_new ha⟩, fun D nD => ?_⟩
    have hDx := hx.ne nD
    have hax : a ≠ x := fun w => by
      obtain ⟨b0, b1, b2, hb⟩ := hx
      rw [← w, ha] at hb
      cases hb
    refine lc_it (walk_tup (K := K) (a := a) (xs := us.map V.str)) (fun i H2 => But x H H2 ∧ Box H2 x ∧ ∃ zs : List Str, zs.Sublist (us.take i) ∧ H2 D = some (.lst (zs.map V.str)))
      ⟨But.of (same_new nD), hx.upd hDx, [], List.nil_sublist _, upd_same⟩ (fun i H2 _ h2 => sqT_new (h2.1 _ _ hax ha)) (fun i z H2 H3 hi h2 y => ?_) (fun H2 h2 => ?_)
    · obtain ⟨rfl, hz⟩ := y
      obtain ⟨k2, b2, zs, hs, eD⟩ := h2
      obtain ⟨d, hd, rfl⟩ := get_map hz
      have hle := hs.length_le
      have hlt := List.length_take_le i us
      have hdl := lt_of_get hd
      refine ⟨rfl, ?_⟩
      refine ⟨.ref x, rfl, x, 2, rfl, b2, by decide, by decide, fun r H4 hr k4 b4 => ⟨rfl, _, rfl, ite2 (fun c => ?_) (fun c => ?_)⟩⟩
      · refine ⟨_, rfl, _, k4 _ _ hDx eD, by rw [List.length_map]; exact small (by omega), fun c u hc e => ?_, b4.upd hDx, zs ++ [d], ?_, by rw [upd_same, List.map_append]; rfl⟩
        · rw [upd_ne (ne_of_none e nD)]
          exact k4 _ _ hc (k2 _ _ hc e)
        · rw [take_of_get hd]
          exact hs.append (List.Sublist.refl _)
      · exact ⟨k2.trans k4, b4, zs, hs.trans (List.take_sublist_take_left (Nat.le_succ i)), k4 _ _ hDx eD⟩
    · obtain ⟨k2, b2, zs, hs, eD⟩ := h2
      have e : us.take (us.map V.str).length = us := List.take_of_length_le (by rw [List.length_map]; exact Nat.le_refl _)
      rw [e] at hs
      refine ⟨D, _, rfl, .inl ⟨sqL_new eD, fun l nl => ?_⟩⟩
      exact q l zs _ hs (k2.trans (But.of (same_new nl))) (b2.mono (same_new nl)) (k2.free b2 nl) upd_same
end
end Kb
namespace Kb
open PySem PySem.Spec PyProof.Rows L2
/-! ### values as data: places, rows, lists of them -/
def natD (g : List Nat) : PyData := .tuple (g.map fun (i : Nat) => .int (i : Int))
/-- the lists of codes are the same: the texts are -/
theorem str_beq (x y : Str) : (x == y) = decide (x = y) := by
  by_cases h : x = y
  · subst h
    simp
  · rw [decide_eq_false h]
    exact beq_eq_false_iff_ne.mpr h
theorem eqvAll_map {α : Type} [DecidableEq α] {f : α → PyData} (h : ∀ a b, PyData.eqv (f a) (f b) = decide (a = b)) : ∀ l m : List α, PyData.eqvAll (l.map f) (m.map f) = decide (l = m)
  | [], [] => by simp [PyData.eqvAll]
  | [], _ :: _ => by simp [PyData.eqvAll]
  | _ :: _, [] => by simp [PyData.eqvAll]
  | x :: l, y :: m => by
    rw [List.map_cons, List.map_cons, PyData.eqvAll, h, eqvAll_map h l m]
    by_cases h1 : x = y <;> by_cases h2 : l = m <;> simp [h1, h2]
theorem eq_int (a b : Nat) : PyData.eqv (.int (a : Int)) (.int (b : Int)) = decide (a = b) := by
  rw [PyData.eqv]
  by_cases h : a = b
  · subst h
    simp
  · rw [decide_eq_false h]
    exact beq_eq_false_iff_ne.mpr (by omega)
theorem eq_str (a b : Str) : PyData.eqv (.str a) (.str b) = decide (a = b) := by
  rw [PyData.eqv, str_beq]
theorem eqN (g g' : List Nat) : PyData.eqv (natD g) (natD g') = decide (g = g') := by
  unfold natD
  rw [PyData.eqv, eqvAll_map (f := fun (i : Nat) => PyData.int (i : Int)) eq_int]
theorem eqR (r r' : List Str) : PyData.eqv (Ka.rowD r) (Ka.rowD r') = decide (r = r') := by
  unfold Ka.rowD
  rw [PyData.eqv, eqvAll_map eq_str]
theorem eqRows (l m : List (List Str)) : PyData.eqvAll (l.map Ka.rowD) (m.map Ka.rowD) = decide (l = m) := eqvAll_map eqR l m
theorem dep_le {α : Type} {f : α → PyData} {n : Nat} (h : ∀ a, (f a).depth ≤ n) : ∀ l : List α, PyData.depthAll (l.map f) ≤ n
  | [] => by simp [PyData.depthAll]
  | x :: l => by
    have h1 := h x
    have h2 := dep_le h l
    rw [List.map_cons]
    simp only [PyData.depthAll]
    omega
theorem lay_all {α : Type} {f : α → PyData} : ∀ l : List α, (∀ a ∈ l, (f a).canLay0 = true) → PyData.canLayAll0 (l.map f) = true
  | [], _ => by simp [PyData.canLayAll0]
  | x :: l, h => by
    rw [List.map_cons, PyData.canLayAll0, h x List.mem_cons_self, lay_all l fun a ha => h a (List.mem_cons_of_mem _ ha)]
    rfl
theorem shaped_of {d : PyData} (h1 : d.canLay0 = true) (h2 : d.depth ≤ 64) : SeqAt.shaped d = true := by
  unfold SeqAt.shaped
  rw [h1, decide_eq_true h2]
  rfl
theorem depN (g : List Nat) : (natD g).depth ≤ 2 := by
  unfold natD
  have := dep_le (f := fun (i : Nat) => PyData.int (i : Int)) (n := 1) (fun a => by simp [PyData.depth]) g
  simp only [PyData.depth]
  omega
theorem layN (g : List Nat) : (natD g).canLay0 = true := by
  unfold natD
  rw [PyData.canLay0]
  exact lay_all g fun a _ => by rw [PyData.canLay0]
theorem shN (g : List Nat) : SeqAt.shaped (natD g) = true := shaped_of (layN g) (Nat.le_trans (depN g) (by decide))
theorem depR (r : List Str) : (Ka.rowD r).depth ≤ 2 := by
  unfold Ka.rowD
  have := dep_le (f := PyData.str) (n := 1) (fun a => by simp [PyData.depth]) r
  simp only [PyData.depth]
  omega
theorem name_ok {z : Str} (h : isName z = true) : PyData.strOk z = true := by
  unfold isName at h
  rw [Bool.and_eq_true] at h
  unfold PyData.strOk
  rw [← Array.all_toList, List.all_eq_true]
  intro c hc
  have := List.all_eq_true.mp h.2 c hc
  unfold lowC at this
  rw [Bool.and_eq_true] at this
  have := of_decide_eq_true this.2
  exact decide_eq_true (by omega)
theorem layR {r : List Str} (h : ∀ z ∈ r, isName z = true) : (Ka.rowD r).canLay0 = true := by
  unfold Ka.rowD
  rw [PyData.canLay0]
  exact lay_all r fun a ha => by rw [PyData.canLay0]; exact name_ok (h a ha)
theorem shR {r : List Str} (h : ∀ z ∈ r, isName z = true) : SeqAt.shaped (Ka.rowD r) = true := shaped_of (layR h) (Nat.le_trans (depR r) (by decide))
theorem shRows {l : List (List Str)} (h : ∀ r ∈ l, ∀ z ∈ r, isName z = true) : SeqAt.shaped (.list (l.map Ka.rowD)) = true ∧ SeqAt.shaped (.tuple (l.map Ka.rowD)) = true := by
  have h1 := dep_le (f := Ka.rowD) (n := 2) depR l
  have h2 := lay_all (f := Ka.rowD) l fun r hr => layR (h r hr)
  exact ⟨shaped_of (by rw [PyData.canLay0]; exact h2) (by simp only [PyData.depth]; omega), shaped_of (by rw [PyData.canLay0]; exact h2) (by simp only [PyData.depth]; omega)⟩
section
variable {K : PySem.W.Frag} {H : Hp}
theorem dpNs : ∀ g : List Nat, DpAll K H (natV g) (g.map fun (i : Nat) => .int (i : Int))
  | [] => .nil
  | i :: g => .cons (.int _) (dpNs g)
theorem dpN {p : Addr} {g : List Nat} (h : H p = some (.tup (natV g))) : Dp K H (.ref p) (natD g) := .tup (sqT_new h) (dpNs g)
theorem dpRs : ∀ r : List Str, DpAll K H (r.map V.str) (r.map .str)
  | [] => .nil
  | i :: g => .cons (.str _) (dpRs g)
theorem dpR {p : Addr} {r : List Str} (h : H p = some (.tup (r.map V.str))) : Dp K H (.ref p) (Ka.rowD r) := .tup (sqT_new h) (dpRs r)
theorem dpRows : ∀ {rs : List Ka.Row}, Rows H rs → DpAll K H (adV rs) ((rs.map (·.2)).map Ka.rowD)
  | [], _ => .nil
  | r :: rs, h => .cons (dpR (h r List.mem_cons_self)) (dpRows fun q hq => h q (List.mem_cons_of_mem _ hq))
end
end Kb
namespace Kb
open PySem PySem.Spec PyProof.Rows L2
/-! ### all fits, one by one -/
theorem cnt_le {α : Type} [DecidableEq α] (v : List α) : ∀ u : List α, Ka.cnt u v ≤ 2 ^ v.length := by
  refine Ka.snoc_ind (P := fun v : List α => ∀ u : List α, Ka.cnt u v ≤ 2 ^ v.length) (fun u => ?_) (fun v d ih u => ?_) v
  · refine Ka.snoc_ind (P := fun u : List α => Ka.cnt u [] ≤ 2 ^ 0) (by rw [Ka.cnt_nil]; decide) (fun u x _ => ?_) u
    rw [Ka.cnt_snoc_nil]
    exact Nat.zero_le _
  · rw [List.length_append, List.length_singleton, Nat.pow_succ]
    refine Ka.snoc_ind (P := fun u : List α => Ka.cnt u (v ++ [d]) ≤ 2 ^ v.length * 2) ?_ (fun u x _ => ?_) u
    · rw [Ka.cnt_nil]
      have := Nat.one_le_two_pow (n := v.length)
      omega
    · rw [Ka.cnt_snoc_snoc]
      have h1 := ih (u ++ [x])
      have h2 := ih u
      split <;> omega
/-- fits at their addresses -/
abbrev Fit := Addr × List Nat
def FitsAt (H : Hp) (fs : List Fit) : Prop := ∀ f ∈ fs, H f.1 = some (.tup (natV f.2))
def adF (fs : List Fit) : List V := fs.map fun f => V.ref f.1
theorem FitsAt.mono {H H' : Hp} {fs : List Fit} (h : FitsAt H fs) (s : Same H H') : FitsAt H' fs := fun f hf => s _ _ (h f hf)
theorem FitsAt.but {H H' : Hp} {m : Addr} {fs : List Fit} {xs : List V} (h : FitsAt H fs) (hm : H m = some (.lst xs)) (k : But m H H') : FitsAt H' fs := fun f hf => k _ _ (ne_of (h f hf) hm fun w => nomatch w) (h f hf)
theorem FitsAt.snoc {H : Hp} {fs : List Fit} {p : Addr} {g : List Nat} (h : FitsAt H fs) (hp : H p = some (.tup (natV g))) : FitsAt H (fs ++ [(p, g)]) := fun f hf => by
  rcases List.mem_append.mp hf with hf | hf
  · exact h f hf
  · rw [List.mem_singleton.mp hf]
    exact hp
theorem adF_snoc (fs : List Fit) (p : Addr) (g : List Nat) : adF (fs ++ [(p, g)]) = adF fs ++ [V.ref p] := by
  unfold adF
  rw [List.map_append]
  rfl
/-- the places below k by which a fit is lengthened -/
def nextsTo (v : List Str) (x : Str) (fit : List Nat) (k : Nat) : List Nat := (List.range k).filter fun i => decide (v[i]? = some x) && Ka.okAfter fit i
theorem nextsTo_all (v : List Str) (x : Str) (fit : List Nat) : nextsTo v x fit v.length = Ka.nexts v x fit := rfl
theorem nextsTo_succ (v : List Str) (x : Str) (fit : List Nat) (k : Nat) : nextsTo v x fit (k + 1) = nextsTo v x fit k ++ if (decide (v[k]? = some x) && Ka.okAfter fit k) = true then [k] else [] := by
  unfold nextsTo
  rw [List.range_succ, List.filter_append, List.filter_cons, List.filter_nil]
theorem nextsTo_len (v : List Str) (x : Str) (fit : List Nat) (k : Nat) : (nextsTo v x fit k).length ≤ k := by
  unfold nextsTo
  have := List.length_filter_le (fun i => decide (v[i]? = some x) && Ka.okAfter fit i) (List.range k)
  rw [List.length_range] at this
  exact this
theorem grow_snoc (v : List Str) (x : Str) (l : List (List Nat)) (fit : List Nat) : Ka.growAll v x (l ++ [fit]) = Ka.growAll v x l ++ (Ka.nexts v x fit).map fun i => fit ++ [i] := by
  unfold Ka.growAll
  rw [List.flatMap_append]
  simp
theorem grow_len (v : List Str) (x : Str) (l m : List (List Nat)) : (Ka.growAll v x l).length ≤ (Ka.growAll v x (l ++ m)).length := by
  unfold Ka.growAll
  rw [List.flatMap_append, List.length_append]
  omega
theorem okAfter_at {fit : List Nat} {i l : Nat} (h : fit[fit.length - 1]? = some l) : Ka.okAfter fit i = decide (l < i) := by
  unfold Ka.okAfter
  rw [List.getLast?_eq_getElem?, h]
theorem natV_snoc' (l : List Nat) (i : Nat) : natV (l ++ [i]) = natV l ++ [V.int (i : Nat)] := by
  unfold natV
  rw [List.map_append]
  rfl
section
variable {P : Program} {w : World} {K : PySem.W.Frag} {mg : Str → Option Value} {base : Heap}
theorem scAll : FnScope ["u", "v", "found", "deed", "more", "fit", "at"] ["u", "v"] (defScope sAll) := ⟨rfl, rfl, rfl, by decide +kernel, rfl, by decide +kernel, by decide +kernel⟩
def spAll (K : PySem.W.Frag) : Sp := fun vs H Q _ => ∃ (a b : Addr) (us zs : List Str), vs = [.ref a, .ref b] ∧ SqT K H a (us.map V.str) ∧ SqT K H b (zs.map V.str) ∧ us.length ≤ 1000 ∧ zs.length ≤ 18 ∧
  ∀ H' p fs, Same H H' → H p = none → H' p = some (.lst (adF fs)) → FitsAt H' fs → fs.map (·.2) = Ka.allFits us zs → Q (.ref p) H'
theorem ok_all {f : Addr} {fd : FuncData} (F : Fun K "_law_all_fits" "_law_all_fits" sAll f fd) (ml : mg "len" = none) (mr : mg "range" = none) : FnOk P w K mg base CX0 1 f fd ["u", "v"] (spAll K) := by
  refine F.ok scAll (fun vs H Q E h => ?_) (fun cdv A outer s H vs Q E hr h => ?_)
  · obtain ⟨a, b, us, zs, rfl, _⟩ := h
    rfl
  · obtain ⟨a, b, us, zs, rfl, hA, hB, hzu, hz, q⟩ := h
    refine ⟨_, pss_cons (ps_set (i := 2) scAll.nd rfl (.inl rfl) (pe_lst (pa_cons (pe_tup pa_nil) pa_nil)))
      (pss_cons (ps_for PassesOwn.never rfl (pi_tup (pv 0)) (pg_name (i := 3) scAll.nd rfl (.inl rfl))
        (pss_cons (ps_set (i := 4) scAll.nd rfl (.inl rfl) (pe_lst pa_nil))
        (pss_cons (ps_for PassesOwn.never rfl (pi_list (pv 2)) (pg_name (i := 5) scAll.nd rfl (.inl rfl))
          (pss_one (ps_for PassesOwn.never rfl (pi_range1 (by rfl) mr (pa_cons (pe_callB call_len_seq (by rfl) ml PySem.boot_len (pa_cons (pv 1) pa_nil)) pa_nil)) (pg_name (i := 6) scAll.nd rfl (.inl rfl))
            (pss_one (ps_if (PW.pt (pw_and (pt_cmpR op_eq (pe_ix ix_tup (pv 1) (pv 6) (fun _ _ => rfl)) (pv 3) (nomark _))
                (pw_and1 (PW.pt (pw_or (pt_cmpR (op_eqD hr.units) (pv 5) (pe_tup pa_nil) (nomark _)) (pw_or1 (pt_cmpR op_lt (pe_ix ix_tup (pv 5) (pe_op op_sub (pe_callB call_len_seq (by rfl) ml PySem.boot_len (pa_cons (pv 5) pa_nil)) pe_int) (fun _ _ => rfl)) (pv 6) (nomark _))))))))
              (pss_one (ps_expr (pe_bm PySem.F.plainAttrs_list PySem.F.slot_list_append PySem.F.type_list_append mt_append (pv 4) (pa_cons (pe_op op_catA (pv 5) (pe_tup (pa_cons (pv 6) pa_nil))) pa_nil)))) pss_nil)))))
        (pss_one (ps_set (i := 2) scAll.nd rfl (.inl rfl) (pv 4))))))
      (pss_one (ps_ret (pv 2)))), ?_⟩
    have s1000 : ∀ n, n ≤ 1000000 → n ≤ sizeLine := fun n h => smallE h
    have bound : ∀ u : List Str, (Ka.allFits u zs).length ≤ 262144 := fun u => by
      have h1 := cnt_le zs u
      have h2 : 2 ^ zs.length ≤ 2 ^ 18 := Nat.pow_le_pow_right (by decide) hz
      unfold Ka.cnt at h1
      omega
    refine ⟨s1000 0 (by decide), fun t0 nt0 => ⟨s1000 1 (by decide), fun o0 no0 => ?_⟩⟩
    have sA := same_new (o := .tup []) nt0
    have sB := sA.trans (same_new (o := .lst [.ref t0]) no0)
    have et0 : upd (upd H t0 (.tup [])) o0 (.lst [.ref t0]) t0 = some (.tup []) := same_new no0 _ _ upd_same
    refine ⟨.ref a, rfl, a, rfl, ⟨_, Same.sqT sB hA⟩, for_tup (K := K) (a := a) (xs := us.map V.str) (fun i σ H' => ∃ d3 d4 d5 d6 o fs, σ = [some (.ref a), some (.ref b), some (.ref o), d3, d4, d5, d6] ∧ Same H H' ∧ H o = none ∧ H' o = some (.lst (adF fs)) ∧ FitsAt H' fs ∧ fs.map (·.2) = Ka.allFits (us.take i) zs)
      ⟨none, none, none, none, o0, [(t0, [])], rfl, sB, sA.free no0, upd_same, (fun f hf => by rw [List.mem_singleton.mp hf]; exact et0), rfl⟩ (fun i σ H' _ ⟨_, _, _, _, _, _, _, sm, _⟩ => Same.sqT sm hA) ?_ ?_⟩
    · rintro i x σ H' hx ⟨d3, d4, d5, d6, o, fs, rfl, sm, no, eo, hF, ef⟩
      obtain ⟨d, hd, rfl⟩ := get_map hx
      have eAll : Ka.growAll zs d (fs.map (·.2)) = Ka.allFits (us.take (i + 1)) zs := by
        rw [take_of_get hd, Ka.allFits_snoc, ef]
      refine ⟨s1000 0 (by decide), fun m nm => ?_⟩
      have s1 := same_new (o := .lst []) nm
      generalize hH1 : upd H' m (.lst []) = H1 at s1
      have em1 : H1 m = some (.lst []) := by rw [← hH1, upd_same]
      have eo1 := s1 _ _ eo
      have hom : o ≠ m := ne_of_none eo nm
      have nmH : H m = none := sm.free nm
      have hF1 := hF.mono s1
      refine ⟨.ref o, rfl, o, rfl, ⟨_, sqL_new eo1⟩, for_list (K := K) (a := o) (xs := adF fs) (fun j σ H2 => ∃ d5 d6 gs, σ = [some (.ref a), some (.ref b), some (.ref o), some (.str d), some (.ref m), d5, d6] ∧ But m H1 H2 ∧ H2 m = some (.lst (adF gs)) ∧ FitsAt H2 gs ∧ gs.map (·.2) = Ka.growAll zs d ((fs.map (·.2)).take j))
        ⟨d5, d6, [], rfl, But.refl, em1, (fun f hf => by cases hf), rfl⟩ (fun j σ H2 _ ⟨_, _, _, _, k, _⟩ => sqL_new (k _ _ hom eo1)) ?_ ?_⟩
      · rintro j x σ H2 hx ⟨d5, d6, gs0, rfl, k2, em2, hG2, eg2⟩
        obtain ⟨ft, hft, rfl⟩ := get_map hx
        have hftm := List.mem_of_getElem? hft
        have eft1 : H1 ft.1 = some (.tup (natV ft.2)) := hF1 ft hftm
        have hftne : ft.1 ≠ m := ne_of eft1 em1 fun w => nomatch w
        have hfg : (fs.map (·.2))[j]? = some ft.2 := by
          rw [List.getElem?_map, hft]
          rfl
        have keepB : ∀ H3, But m H1 H3 → SqT K H3 b (zs.map V.str) := fun H3 k => by
          rcases hB with (h | ⟨u, h⟩) | h
          · exact .inl (.inl (k _ _ (ne_of_none h nmH) (s1 _ _ (sm _ _ h))))
          · exact .inl (.inr ⟨u, k _ _ (ne_of_none h nmH) (s1 _ _ (sm _ _ h))⟩)
          · exact .inr h
        refine ⟨.ref b, rfl, b, _, rfl, .inr (keepB _ k2), _, rfl, by omega, by rw [List.length_map]; omega, ?_⟩
        refine for_range (lo := 0) (n := (zs.map V.str).length) (fun n σ H3 => ∃ d6 gs, σ = [some (.ref a), some (.ref b), some (.ref o), some (.str d), some (.ref m), some (.ref ft.1), d6] ∧ But m H1 H3 ∧ H3 m = some (.lst (adF gs)) ∧ FitsAt H3 gs ∧
            gs.map (·.2) = Ka.growAll zs d ((fs.map (·.2)).take j) ++ (nextsTo zs d ft.2 n).map fun i => ft.2 ++ [i])
          ⟨d6, gs0, rfl, k2, em2, hG2, by rw [eg2]; simp [nextsTo]⟩ ?_ ?_
        · rintro n σ H3 hn ⟨d6, gs, rfl, k3, em3, hG3, eg3⟩
          rw [List.length_map] at hn
          rw [Int.zero_add]
          have hzg : zs[n]? = some zs[n] := List.getElem?_eq_getElem hn
          have hv : (zs.map V.str)[n]? = some (.str zs[n]) := by
            rw [List.getElem?_map, hzg]
            rfl
          have eft3 : H3 ft.1 = some (.tup (natV ft.2)) := k3 _ _ hftne eft1
          have stay : ∀ H4, But m H3 H4 → H4 m = some (.lst (adF gs)) → (decide (zs[n]? = some d) && Ka.okAfter ft.2 n) = false → ∃ d6 gs, [some (V.ref a), some (.ref b), some (.ref o), some (.str d), some (.ref m), some (.ref ft.1), some (.int (n : Nat))] = [some (.ref a), some (.ref b), some (.ref o), some (.str d), some (.ref m), some (.ref ft.1), d6] ∧ But m H1 H4 ∧ H4 m = some (.lst (adF gs)) ∧ FitsAt H4 gs ∧
              gs.map (·.2) = Ka.growAll zs d ((fs.map (·.2)).take j) ++ (nextsTo zs d ft.2 (n + 1)).map fun i => ft.2 ++ [i] := fun H4 k4 e4 no => by
            refine ⟨_, gs, rfl, k3.trans k4, e4, hG3.but em3 k4, ?_⟩
            rw [nextsTo_succ, no, if_neg Bool.false_ne_true, List.append_nil]
            exact eg3
          have glen : (adF gs).length < sizeLine := by
            unfold adF
            have e1 := congrArg List.length eg3
            rw [List.length_map, List.length_append, List.length_map] at e1
            have e2 := nextsTo_len zs d ft.2 n
            have e3 := grow_len zs d ((fs.map (·.2)).take j) ((fs.map (·.2)).drop j)
            rw [List.take_append_drop, eAll] at e3
            have e4 := bound (us.take (i + 1))
            rw [List.length_map]
            exact small (by omega)
          have add : ∀ H4 p, But m H3 H4 → H4 m = some (.lst (adF gs)) → H4 p = some (.tup (natV (ft.2 ++ [n]))) → (decide (zs[n]? = some d) && Ka.okAfter ft.2 n) = true → ∃ d6 gs', [some (V.ref a), some (.ref b), some (.ref o), some (.str d), some (.ref m), some (.ref ft.1), some (.int (n : Nat))] = [some (.ref a), some (.ref b), some (.ref o), some (.str d), some (.ref m), some (.ref ft.1), d6] ∧ But m H1 (upd H4 m (.lst (adF gs ++ [.ref p]))) ∧ upd H4 m (.lst (adF gs ++ [.ref p])) m = some (.lst (adF gs')) ∧ FitsAt (upd H4 m (.lst (adF gs ++ [.ref p]))) gs' ∧
              gs'.map (·.2) = Ka.growAll zs d ((fs.map (·.2)).take j) ++ (nextsTo zs d ft.2 (n + 1)).map fun i => ft.2 ++ [i] := fun H4 p k4 e4 ep yes => by
            refine ⟨_, gs ++ [(p, ft.2 ++ [n])], rfl, (k3.trans k4).trans But.upd, by rw [upd_same, adF_snoc], ?_, ?_⟩
            · exact ((hG3.but em3 k4).snoc ep).but e4 But.upd
            · rw [List.map_append, eg3, nextsTo_succ, if_pos yes, List.map_append, List.append_assoc]
              rfl
          refine ⟨.ref b, rfl, .int (n : Nat), rfl, b, _, _, _, rfl, rfl, keepB _ k3, atI_nat hv, .str d, rfl, rfl, _, rfl, ite2 (fun c => ?_) (fun c => ?_)⟩
          · have ed : zs[n] = d := V.str.inj (of_decide_eq_true c)
            have hzd : decide (zs[n]? = some d) = true := decide_eq_true (by rw [hzg, ed])
            rw [hzd, Bool.true_and] at stay add
            -- the new place is put behind
            have put : ∀ H4, But m H3 H4 → H4 m = some (.lst (adF gs)) → Ka.okAfter ft.2 n = true → ∀ R : V → Hp → Prop, (∀ H5 p, But m H3 H5 → H5 m = some (.lst (adF gs)) → H5 p = some (.tup (natV (ft.2 ++ [n]))) → R (.ref p) H5) →
                1 ≤ sizeLine ∧ ∀ p, H4 p = none → rCatA K (.ref ft.1) (.ref p) (upd H4 p (.tup [.int (n : Nat)])) R := fun H4 k4 e4 yes R hR => by
              refine ⟨s1000 1 (by decide), fun p np => ?_⟩
              have k5 : But m H3 (upd H4 p (.tup [.int (n : Nat)])) := k4.trans (But.of (same_new np))
              have e5 := same_new (o := .tup [.int (n : Nat)]) np _ _ e4
              refine ⟨ft.1, p, natV ft.2, [.int (n : Nat)], rfl, rfl, sqT_new (k5 _ _ hftne eft3), sqT_new upd_same, ?_, fun e => ?_, (fun _ e => by cases e), fun ne _ p2 np2 => ?_⟩
              · rw [natV_len]
                have hl : ft.2.length ≤ 1000 := by
                  have h1 : ft.2 ∈ Ka.allFits (us.take i) zs := by
                    rw [← ef]
                    exact List.mem_map_of_mem hftm
                  have h2 := ((Ka.mem_allFits zs _ _).mp h1).len
                  rw [h2]
                  exact Nat.le_trans (List.length_take_le' _ _) hzu
                exact s1000 _ (by rw [List.length_singleton]; omega)
              · refine hR _ p k5 e5 ?_
                have e0 : ft.2 = [] := by
                  unfold natV at e
                  exact List.map_eq_nil_iff.mp e
                rw [e0]
                exact upd_same
              · refine hR _ p2 (k5.trans (But.of (same_new np2))) (same_new np2 _ _ e5) ?_
                rw [upd_same, natV_snoc']
            refine ⟨.ref ft.1, rfl, s1000 0 (by decide), fun t nt => ?_⟩
            have st := same_new (o := .tup []) nt
            refine ⟨natD ft.2, natD [], dpN (st _ _ eft3), dpN upd_same, shN _, shN _, ?_⟩
            rw [eqN]
            refine ⟨_, rfl, ite2 (fun c2 => ?_) (fun c2 => ?_)⟩
            · have e0 : ft.2 = [] := of_decide_eq_true c2
              have yes : Ka.okAfter ft.2 n = true := by rw [e0]; rfl
              refine iteT ⟨.ref m, rfl, .inl ⟨rfl, _, sqL_new (st _ _ em3)⟩, .ref ft.1, rfl, .int (n : Nat), rfl, ?_⟩
              refine put _ (But.of st) (st _ _ em3) yes _ fun H5 p k5 e5 ep => ?_
              exact ⟨m, _, _, rfl, rfl, e5, glen, add H5 p k5 e5 ep yes⟩
            · have hne : ft.2 ≠ [] := fun e => c2 (decide_eq_true e)
              have hpos : 0 < ft.2.length := by
                cases h : ft.2 with
                | nil => exact absurd h hne
                | cons _ _ => exact Nat.succ_pos _
              have hg : ft.2[ft.2.length - 1]? = some ft.2[ft.2.length - 1] := List.getElem?_eq_getElem (by omega)
              have hok := okAfter_at (i := n) hg
              refine ⟨.ref ft.1, rfl, .ref ft.1, rfl, ft.1, _, rfl, .inr (sqT_new (st _ _ eft3)), _, _, rfl, rfl, ft.1, _, _, _, rfl, rfl, sqT_new (st _ _ eft3), at_of (by rw [natV_len]; show ((ft.2.length : Nat) : Int) - 1 = _; omega) (natV_get hg), .int (n : Nat), rfl, _, _, rfl, rfl, _, rfl, ite2 (fun c3 => ?_) (fun c3 => ?_)⟩
              · have c3 := of_decide_eq_true c3
                have yes : Ka.okAfter ft.2 n = true := by
                  rw [hok]
                  exact decide_eq_true (by omega)
                refine ⟨.ref m, rfl, .inl ⟨rfl, _, sqL_new (st _ _ em3)⟩, .ref ft.1, rfl, .int (n : Nat), rfl, ?_⟩
                refine put _ (But.of st) (st _ _ em3) yes _ fun H5 p k5 e5 ep => ?_
                exact ⟨m, _, _, rfl, rfl, e5, glen, add H5 p k5 e5 ep yes⟩
              · refine stay _ (But.of st) (st _ _ em3) ?_
                rw [hok]
                exact decide_eq_false fun h => c3 (decide_eq_true (by omega))
          · refine stay _ But.refl em3 ?_
            rw [decide_eq_false (fun e => c (decide_eq_true (by rw [hzg] at e; rw [Option.some.inj e]))), Bool.false_and]
        · rintro σ H3 ⟨d6, gs, rfl, k3, em3, hG3, eg3⟩
          refine ⟨_, d6, gs, rfl, k3, em3, hG3, ?_⟩
          rw [eg3, take_of_get hfg, grow_snoc, ← nextsTo_all, List.length_map]
      · rintro σ H2 ⟨d5, d6, gs, rfl, k2, em2, hG2, eg2⟩
        have e0 : (adF fs).length = (fs.map (·.2)).length := by unfold adF; rw [List.length_map, List.length_map]
        rw [e0, List.take_length, eAll] at eg2
        exact ⟨.ref m, rfl, _, _, _, _, m, gs, rfl, fun c u e => k2 c u (ne_of_none e nmH) (s1 _ _ (sm _ _ e)), nmH, em2, hG2, eg2⟩
    · rintro σ H' ⟨d3, d4, d5, d6, o, fs, rfl, sm, no, eo, hF, ef⟩
      rw [List.length_map, List.take_length] at ef
      exact ⟨.ref o, rfl, q H' o fs sm no eo hF ef⟩
end
end Kb
namespace Kb
/-! ### first fits and last fits among all fits -/
section
variable {α : Type} [DecidableEq α]
theorem cons_sub {x d : α} {a b : List α} : (x :: a).Sublist (d :: b) ↔ (x :: a).Sublist b ∨ x = d ∧ a.Sublist b := by
  constructor
  · intro h
    cases h with
    | cons _ h => exact .inl h
    | cons_cons _ h => exact .inr ⟨rfl, h⟩
  · rintro (h | ⟨rfl, h⟩)
    · exact List.Sublist.cons _ h
    · exact List.cons_sublist_cons.mpr h
theorem cnt_pos (v : List α) : ∀ u : List α, 0 < Ka.cnt u v ↔ u.Sublist v := by
  refine Ka.snoc_ind (P := fun v : List α => ∀ u : List α, 0 < Ka.cnt u v ↔ u.Sublist v) (fun u => ?_) (fun v d ih u => ?_) v
  · refine Ka.snoc_ind (P := fun u : List α => 0 < Ka.cnt u [] ↔ u.Sublist []) (by rw [Ka.cnt_nil]; simp) (fun u x _ => ?_) u
    rw [Ka.cnt_snoc_nil]
    simp
  · refine Ka.snoc_ind (P := fun u : List α => 0 < Ka.cnt u (v ++ [d]) ↔ u.Sublist (v ++ [d])) (by rw [Ka.cnt_nil]; simp) (fun u x _ => ?_) u
    rw [Ka.cnt_snoc_snoc, ← List.reverse_sublist, List.reverse_append, List.reverse_append]
    show _ ↔ (x :: u.reverse).Sublist (d :: v.reverse)
    rw [cons_sub]
    have h1 := ih (u ++ [x])
    rw [← List.reverse_sublist, List.reverse_append] at h1
    have h2 := ih u
    rw [← List.reverse_sublist] at h2
    show 0 < _ + _ ↔ (([x].reverse ++ u.reverse).Sublist v.reverse ∨ x = d ∧ u.reverse.Sublist v.reverse)
    rw [← h1, ← h2]
    by_cases e : d = x
    · subst e
      simp
      omega
    · have e' : ¬ x = d := fun h => e h.symm
      simp [e, e']
theorem fits_sub (u v : List α) : Ka.allFits u v ≠ [] ↔ sub u v = true := by
  rw [sub_iff, ← cnt_pos]
  unfold Ka.cnt
  exact List.length_pos_iff.symm
theorem ffN_mono (u v : List α) : ∀ {i j : Nat}, i ≤ j → (ffN u v i).length ≤ (ffN u v j).length
  | i, 0, h => by
    rw [Nat.le_zero.mp h]
    exact Nat.le_refl _
  | i, j + 1, h => by
    by_cases e : i = j + 1
    · rw [e]
      exact Nat.le_refl _
    · have := ffN_mono u v (show i ≤ j by omega)
      rw [ffN]
      split
      · rw [List.length_append]
        omega
      · exact this
/-- what a place found tells -/
theorem ffN_at (u v : List α) : ∀ {i k b : Nat}, (ffN u v i)[k]? = some b → b < i ∧ (ffN u v b).length = k ∧ v[b]? = u[k]? ∧ v[b]? ≠ none
  | 0, k, b, h => by simp [ffN] at h
  | i + 1, k, b, h => by
    rw [ffN] at h
    split at h
    · rename_i c
      rw [Ka.snoc_get] at h
      split at h
      · obtain ⟨h1, h2⟩ := ffN_at u v h
        exact ⟨by omega, h2⟩
      · split at h
        · rename_i e
          cases h
          rw [e]
          exact ⟨Nat.lt_succ_self _, rfl, c.2.symm, c.1⟩
        · cases h
    · obtain ⟨h1, h2⟩ := ffN_at u v h
      exact ⟨by omega, h2⟩
/-- the greedy one is never behind -/
theorem ffN_ahead {u v : List α} {g : List Nat} (hg : Ka.IsFit u v g) : ∀ (i k a : Nat), g[k]? = some a → a < i → k < (ffN u v i).length
  | 0, k, a, _, h => absurd h (Nat.not_lt_zero _)
  | i + 1, k, a, hk, h => by
    have up : (ffN u v i).length ≤ (ffN u v (i + 1)).length := ffN_mono u v (Nat.le_succ i)
    by_cases e : a < i
    · have := ffN_ahead hg i k a hk e
      omega
    · have ea : a = i := by omega
      subst ea
      have hit := hg.hit k a hk
      have hku : k < u.length := by
        rw [← hg.len]
        exact lt_of_get hk
      have hle : k ≤ (ffN u v a).length := by
        cases k with
        | zero => exact Nat.zero_le _
        | succ k =>
          have hkg : k < g.length := by
            have := lt_of_get hk
            omega
          have h1 : g[k]? = some g[k] := List.getElem?_eq_getElem hkg
          have h2 := hg.asc k (k + 1) _ a (Nat.lt_succ_self k) h1 hk
          have h3 := ffN_ahead hg a k _ h1 h2
          omega
      by_cases ek : k < (ffN u v a).length
      · omega
      · have ek : k = (ffN u v a).length := by omega
        have hne : v[a]? ≠ none := by
          rw [hit, List.getElem?_eq_getElem hku]
          exact fun h => by cases h
        rw [ffN, if_pos ⟨hne, by rw [← ek]; exact hit.symm⟩, List.length_append, List.length_singleton]
        omega
theorem ff_full {u v : List α} {g : List Nat} (hg : Ka.IsFit u v g) : (ff u v).length = u.length := by
  have h1 := (ffN_len u v v.length).2
  unfold ff
  by_cases h : (ffN u v v.length).length = u.length
  · exact h
  · have hlt : (ffN u v v.length).length < g.length := by
      rw [hg.len]
      omega
    have h2 : g[(ffN u v v.length).length]? = some g[(ffN u v v.length).length] := List.getElem?_eq_getElem hlt
    have h3 := hg.hit _ _ h2
    have h4 : g[(ffN u v v.length).length] < v.length := by
      cases e : v[g[(ffN u v v.length).length]]? with
      | none =>
        rw [e, List.getElem?_eq_getElem (by rw [hg.len] at hlt; exact hlt)] at h3
        cases h3
      | some x => exact lt_of_get e
    have := ffN_ahead hg v.length _ _ h2 h4
    omega
theorem ff_fit {u v : List α} (h : (ff u v).length = u.length) : Ka.IsFit u v (ff u v) := by
  refine ⟨h, fun i j a b hij ha hb => ?_, fun i a ha => (ffN_at u v ha).2.2.1⟩
  have h1 := (ffN_at u v ha).2.1
  have h2 := (ffN_at u v hb).2.1
  by_cases e : a < b
  · exact e
  · have := ffN_mono u v (show b ≤ a by omega)
    omega
theorem ff_least {u v : List α} {g : List Nat} (hg : Ka.IsFit u v g) {k a b : Nat} (hb : (ff u v)[k]? = some b) (ha : g[k]? = some a) : b ≤ a := by
  have h1 := (ffN_at u v hb).2.1
  by_cases e : b ≤ a
  · exact e
  · have := ffN_ahead hg b k a ha (by omega)
    omega
/-- the same places, told from the end -/
def rv (n : Nat) (g : List Nat) : List Nat := g.reverse.map fun i => n - 1 - i
theorem rv_get {n : Nat} {g : List Nat} {k a : Nat} (h : (rv n g)[k]? = some a) : ∃ b, g[g.length - 1 - k]? = some b ∧ a = n - 1 - b ∧ k < g.length := by
  unfold rv at h
  obtain ⟨b, hb, rfl⟩ := get_map' h
  have hk := lt_of_get hb
  rw [List.length_reverse] at hk
  rw [List.getElem?_reverse hk] at hb
  exact ⟨b, hb, rfl, hk⟩
where
  get_map' {l : List Nat} {f : Nat → Nat} {i y : Nat} (h : (l.map f)[i]? = some y) : ∃ x, l[i]? = some x ∧ y = f x := by
    rw [List.getElem?_map] at h
    cases e : l[i]? with
    | none =>
      rw [e] at h
      cases h
    | some x =>
      rw [e] at h
      exact ⟨x, rfl, (Option.some.inj h).symm⟩
theorem fit_lt {u v : List α} {g : List Nat} (hg : Ka.IsFit u v g) {k a : Nat} (h : g[k]? = some a) : a < v.length := by
  have h3 := hg.hit _ _ h
  have hk := lt_of_get h
  rw [hg.len] at hk
  cases e : v[a]? with
  | none =>
    rw [e, List.getElem?_eq_getElem hk] at h3
    cases h3
  | some x => exact lt_of_get e
theorem rv_fit {u v : List α} {g : List Nat} (hg : Ka.IsFit u v g) : Ka.IsFit u.reverse v.reverse (rv v.length g) := by
  refine ⟨by unfold rv; rw [List.length_map, List.length_reverse, List.length_reverse, hg.len], fun i j a b hij ha hb => ?_, fun i a ha => ?_⟩
  · obtain ⟨x, hx, rfl, hi⟩ := rv_get ha
    obtain ⟨y, hy, rfl, hj⟩ := rv_get hb
    have h1 := hg.asc _ _ y x (show g.length - 1 - j < g.length - 1 - i by omega) hy hx
    have h2 := fit_lt hg hx
    omega
  · obtain ⟨x, hx, rfl, hi⟩ := rv_get ha
    have h2 := fit_lt hg hx
    have h3 := hg.hit _ _ hx
    rw [List.getElem?_reverse (by omega), List.getElem?_reverse (by rw [← hg.len]; omega), ← hg.len, ← h3]
    congr 1
    omega
theorem lf_rv (u v : List α) : lf u v = rv v.length (ff u.reverse v.reverse) := rfl
theorem lf_full {u v : List α} {g : List Nat} (hg : Ka.IsFit u v g) : (lf u v).length = u.length := by
  have := ff_full (rv_fit hg)
  rw [lf_rv]
  unfold rv
  rw [List.length_map, List.length_reverse, this, List.length_reverse]
theorem lf_fit {u v : List α} (h : (lf u v).length = u.length) : Ka.IsFit u v (lf u v) := by
  rw [lf_rv] at h ⊢
  unfold rv at h
  rw [List.length_map, List.length_reverse] at h
  have := rv_fit (ff_fit (u := u.reverse) (v := v.reverse) (by rw [h, List.length_reverse]))
  rw [List.reverse_reverse, List.reverse_reverse, List.length_reverse] at this
  exact this
theorem lf_most {u v : List α} {g : List Nat} (hg : Ka.IsFit u v g) {k a b : Nat} (hb : (lf u v)[k]? = some b) (ha : g[k]? = some a) : a ≤ b := by
  rw [lf_rv] at hb
  obtain ⟨x, hx, rfl, hk⟩ := rv_get hb
  have hfull := ff_full (rv_fit hg)
  rw [List.length_reverse] at hfull
  have hkg : k < g.length := lt_of_get ha
  have hlen : (ff u.reverse v.reverse).length = g.length := by rw [hfull, hg.len]
  rw [hlen] at hx
  have hm : g.length - 1 - (g.length - 1 - k) = k := by omega
  have h1 : (rv v.length g)[g.length - 1 - k]? = some (v.length - 1 - a) := by
    unfold rv
    rw [List.getElem?_map, List.getElem?_reverse (by omega), hm, ha]
    rfl
  have h2 := ff_least (rv_fit hg) hx h1
  have h3 := fit_lt hg ha
  omega
end
end Kb
namespace Kb
open PySem PySem.Spec PyProof.Rows L2
section
variable {P : Program} {w : World} {K : PySem.W.Frag} {mg : Str → Option Value} {base : Heap}
abbrev nRight : List Str := ["u", "v", "found", "told", "many", "first", "last", "low", "high", "fit", "at"]
theorem scRight : FnScope nRight ["u", "v"] (defScope sRight) := ⟨rfl, rfl, rfl, by decide +kernel, rfl, by decide +kernel, by decide +kernel⟩
def spRight (K : PySem.W.Frag) : Sp := fun vs H Q _ => ∃ (a b : Addr) (us zs : List Str), vs = [.ref a, .ref b] ∧ SqT K H a (us.map V.str) ∧ SqT K H b (zs.map V.str) ∧ us.length ≤ 1000 ∧ zs.length ≤ 18 ∧ ∀ H', Same H H' → Q (.bl true) H'
/-- the five functions that it asks -/
structure FiveFn (K : PySem.W.Frag) (mg : Str → Option Value) (fA fW fF fG fL : Addr) (dA dW dF dG dL : FuncData) : Prop where
  A : Fun K "_law_all_fits" "_law_all_fits" sAll fA dA
  W : Fun K "within" "within" sWithin fW dW
  F : Fun K "fits" "fits" sFits fF dF
  G : Fun K "first_fit" "first_fit" sFirst fG dG
  L : Fun K "last_fit" "last_fit" sLast fL dL
  bA : Binds K dA ["u", "v"] []
  bW : Binds K dW ["u", "v"] []
  bF : Binds K dF ["u", "v"] []
  bG : Binds K dG ["u", "v"] []
  bL : Binds K dL ["u", "v"] []
  gA : mg "_law_all_fits" = some (.ref fA)
  gW : mg "within" = some (.ref fW)
  gF : mg "fits" = some (.ref fF)
  gG : mg "first_fit" = some (.ref fG)
  gL : mg "last_fit" = some (.ref fL)
/-- the names of the language that no text hides -/
structure Nones (mg : Str → Option Value) : Prop where
  len : mg "len" = none
  range : mg "range" = none
  iter : mg "iter" = none
  enumerate : mg "enumerate" = none
  reversed : mg "reversed" = none
  tuple : mg "tuple" = none
  list : mg "list" = none
  sorted : mg "sorted" = none
  any : mg "any" = none
  all : mg "all" = none
  int : mg "int" = none
  str : mg "str" = none
  bool : mg "bool" = none
  abs : mg "abs" = none
  min : mg "min" = none
  max : mg "max" = none
  sum : mg "sum" = none
  isinstance : mg "isinstance" = none
  valueError : mg "ValueError" = none
theorem dpFs {K : PySem.W.Frag} {H : Hp} : ∀ {fs : List Fit}, FitsAt H fs → DpAll K H (adF fs) ((fs.map (·.2)).map natD)
  | [], _ => .nil
  | f :: fs, h => .cons (dpN (h f List.mem_cons_self)) (dpFs fun g hg => h g (List.mem_cons_of_mem _ hg))
theorem shFs (l : List (List Nat)) : SeqAt.shaped (.list (l.map natD)) = true := by
  have h1 := dep_le (f := natD) (n := 2) depN l
  have h2 := lay_all (f := natD) l fun r _ => layN r
  exact shaped_of (by rw [PyData.canLay0]; exact h2) (by simp only [PyData.depth]; omega)
theorem eqFs (l m : List (List Nat)) : PyData.eqv (.list (l.map natD)) (.list (m.map natD)) = decide (l = m) := by
  rw [PyData.eqv]
  exact eqvAll_map eqN l m
/-- range(n), its turns told -/
theorem walk_r0 {n : Nat} : Walk (Itr 0 n) n (fun _ => True) (fun i H x H' => H' = H ∧ x = .int (i : Nat)) := walk_range.mono (fun _ h => h) fun i H x H' _ _ y => ⟨y.1, by
  rw [y.2]
  show V.int (0 + (i : Int)) = _
  rw [Int.zero_add]⟩
/-- the least places so far -/
structure Low (L : List (List Nat)) (m : Nat) (done : List (List Nat)) (ls : List Nat) : Prop where
  len : ls.length = m
  is : ∀ k a : Nat, ls[k]? = some a → ∃ g ∈ L, g[k]? = some a
  le : ∀ k a : Nat, ls[k]? = some a → ∀ g ∈ done, ∀ b, g[k]? = some b → a ≤ b
structure High (L : List (List Nat)) (m : Nat) (done : List (List Nat)) (ls : List Nat) : Prop where
  len : ls.length = m
  is : ∀ k a : Nat, ls[k]? = some a → ∃ g ∈ L, g[k]? = some a
  le : ∀ k a : Nat, ls[k]? = some a → ∀ g ∈ done, ∀ b, g[k]? = some b → b ≤ a
def minL (ls g : List Nat) : List Nat := List.zipWith (fun (a b : Nat) => if (b : Int) < (a : Int) then b else a) ls g
def maxL (ls g : List Nat) : List Nat := List.zipWith (fun (a b : Nat) => if (b : Int) > (a : Int) then b else a) ls g
theorem zip_get {f : Nat → Nat → Nat} {l g : List Nat} {k a : Nat} (h : (List.zipWith f l g)[k]? = some a) : ∃ x y, l[k]? = some x ∧ g[k]? = some y ∧ a = f x y := by
  rw [List.getElem?_zipWith] at h
  cases e1 : l[k]? with
  | none =>
    rw [e1] at h
    cases h
  | some x =>
    cases e2 : g[k]? with
    | none =>
      rw [e1, e2] at h
      cases h
    | some y =>
      rw [e1, e2] at h
      exact ⟨x, y, rfl, rfl, (Option.some.inj h).symm⟩
theorem Low.more {L : List (List Nat)} {m : Nat} {done : List (List Nat)} {ls g : List Nat} (h : Low L m done ls) (hg : g ∈ L) (hl : g.length = m) : Low L m (done ++ [g]) (minL ls g) := by
  refine ⟨by unfold minL; rw [List.length_zipWith, h.len, hl, Nat.min_self], fun k a ha => ?_, fun k a ha q hq b hb => ?_⟩
  · obtain ⟨x, y, h1, h2, rfl⟩ := zip_get ha
    by_cases c : (y : Int) < (x : Int)
    · rw [if_pos c]
      exact ⟨g, hg, h2⟩
    · rw [if_neg c]
      exact h.is k x h1
  · obtain ⟨x, y, h1, h2, rfl⟩ := zip_get ha
    rcases List.mem_append.mp hq with hq | hq
    · have := h.le k x h1 q hq b hb
      by_cases c : (y : Int) < (x : Int)
      · rw [if_pos c]
        omega
      · rw [if_neg c]
        exact this
    · rw [List.mem_singleton.mp hq, h2] at hb
      cases hb
      by_cases c : (b : Int) < (x : Int)
      · rw [if_pos c]
        exact Nat.le_refl _
      · rw [if_neg c]
        omega
theorem High.more {L : List (List Nat)} {m : Nat} {done : List (List Nat)} {ls g : List Nat} (h : High L m done ls) (hg : g ∈ L) (hl : g.length = m) : High L m (done ++ [g]) (maxL ls g) := by
  refine ⟨by unfold maxL; rw [List.length_zipWith, h.len, hl, Nat.min_self], fun k a ha => ?_, fun k a ha q hq b hb => ?_⟩
  · obtain ⟨x, y, h1, h2, rfl⟩ := zip_get ha
    by_cases c : (y : Int) > (x : Int)
    · rw [if_pos c]
      exact ⟨g, hg, h2⟩
    · rw [if_neg c]
      exact h.is k x h1
  · obtain ⟨x, y, h1, h2, rfl⟩ := zip_get ha
    rcases List.mem_append.mp hq with hq | hq
    · have := h.le k x h1 q hq b hb
      by_cases c : (y : Int) > (x : Int)
      · rw [if_pos c]
        omega
      · rw [if_neg c]
        exact this
    · rw [List.mem_singleton.mp hq, h2] at hb
      cases hb
      by_cases c : (b : Int) > (x : Int)
      · rw [if_pos c]
        exact Nat.le_refl _
      · rw [if_neg c]
        omega
theorem low_ff {us zs : List Str} {ls : List Nat} (h : Low (Ka.allFits us zs) us.length (Ka.allFits us zs) ls) (hf : (ff us zs).length = us.length) : ls = ff us zs := by
  apply List.ext_getElem?
  intro k
  by_cases hk : k < us.length
  · have h1 : ls[k]? = some (ls[k]'(by rw [h.len]; exact hk)) := List.getElem?_eq_getElem _
    have h2 : (ff us zs)[k]? = some ((ff us zs)[k]'(by rw [hf]; exact hk)) := List.getElem?_eq_getElem _
    obtain ⟨g, hg, e⟩ := h.is k _ h1
    have h3 := ff_least ((Ka.mem_allFits zs us g).mp hg) h2 e
    have h4 := h.le k _ h1 _ ((Ka.mem_allFits zs us _).mpr (ff_fit hf)) _ h2
    rw [h1, h2]
    congr 1
    omega
  · rw [List.getElem?_eq_none (by rw [h.len]; omega), List.getElem?_eq_none (by rw [hf]; omega)]
theorem high_lf {us zs : List Str} {ls : List Nat} (h : High (Ka.allFits us zs) us.length (Ka.allFits us zs) ls) (hf : (lf us zs).length = us.length) : ls = lf us zs := by
  apply List.ext_getElem?
  intro k
  by_cases hk : k < us.length
  · have h1 : ls[k]? = some (ls[k]'(by rw [h.len]; exact hk)) := List.getElem?_eq_getElem _
    have h2 : (lf us zs)[k]? = some ((lf us zs)[k]'(by rw [hf]; exact hk)) := List.getElem?_eq_getElem _
    obtain ⟨g, hg, e⟩ := h.is k _ h1
    have h3 := lf_most ((Ka.mem_allFits zs us g).mp hg) h2 e
    have h4 := h.le k _ h1 _ ((Ka.mem_allFits zs us _).mpr (lf_fit hf)) _ h2
    rw [h1, h2]
    congr 1
    omega
  · rw [List.getElem?_eq_none (by rw [h.len]; omega), List.getElem?_eq_none (by rw [hf]; omega)]
theorem any_fit {L : List (List Nat)} {g : List Nat} (h : g ∈ L) : ((L.map natD).any fun z => PyData.eqv z (natD g)) = true := by
  rw [List.any_map, List.any_eq_true]
  refine ⟨g, h, ?_⟩
  show PyData.eqv (natD g) (natD g) = true
  rw [eqN, decide_eq_true rfl]
theorem ok_right {f fA fW fF fG fL : Addr} {fd dA dW dF dG dL : FuncData} (F : Fun K "_law_fits_right" "_law_fits_right" sRight f fd) (T : FiveFn K mg fA fW fF fG fL dA dW dF dG dL) (N : Nones mg) : FnOk P w K mg base CX0 3 f fd ["u", "v"] (spRight K) := by
  have GA : FnOk P w K mg base CX0 1 fA dA ["u", "v"] (spAll K) := ok_all T.A N.len N.range
  have GW : FnOk P w K mg base CX0 1 fW dW ["u", "v"] (spWithin K) := ok_within T.W N.iter
  have GF : FnOk P w K mg base CX0 1 fF dF ["u", "v"] (spFits K) := ok_fits T.F N.enumerate N.len N.reversed
  have GG : FnOk P w K mg base CX0 1 fG dG ["u", "v"] (spFirst K) := ok_first T.G N.enumerate N.len N.tuple
  have GL : FnOk P w K mg base CX0 2 fL dL ["u", "v"] (spLast K) := ok_last T.L T.G T.bG T.gG N.enumerate N.len N.tuple N.reversed
  refine F.ok scRight (fun vs H Q E h => ?_) (fun cdv A outer s H vs Q E hr h => ?_)
  · obtain ⟨a, b, us, zs, rfl, _⟩ := h
    rfl
  · obtain ⟨a, b, us, zs, rfl, hA, hB, hu, hz, q⟩ := h
    have hr1 := hr.mono (show 1 ≤ 2 by decide)
    have hu65 : (A.deeper (envOfC "_law_fits_right" (defScope sRight) s.heap.objs.size f cdv)).units + 65 < cLine := by
      have := hr.un
      omega
    refine ⟨_, pss_cons (ps_set (i := 2) scRight.nd rfl (.inl rfl) (pe_call GA hr1 (by rfl) T.gA T.A.kp T.bA .nil pass0 (pa_cons (pv 0) (pa_cons (pv 1) pa_nil))))
      (pss_cons (ps_set (i := 3) scRight.nd rfl (.inl rfl) (pe_call GW hr1 (by rfl) T.gW T.W.kp T.bW .nil pass0 (pa_cons (pv 0) (pa_cons (pv 1) pa_nil))))
      (pss_cons (ps_if (PW.pt (pw_or (PW.pt (pw_and (pt_cmpR op_isnot_bl (pv 3) pe_bl (nomark _)) (pw_and1 (pt_cmpR op_isnot_bl (pv 3) pe_bl (nomark _))))) (pw_or1 (pt_cmpR op_ne (pv 3) (pe_cmpR (op_neD hr.units) (pv 2) (pe_lst pa_nil) (nomark _)) (nomark _))))) (pss_one (ps_ret pe_bl)) pss_nil)
      (pss_cons (ps_par3 (i := 4) (j := 5) (l := 6) rfl scRight.nd rfl rfl rfl (by decide) (by decide) (by decide) rfl rfl rfl (pa_cons (pe_call GF hr1 (by rfl) T.gF T.F.kp T.bF .nil pass0 (pa_cons (pv 0) (pa_cons (pv 1) pa_nil))) (pa_cons (pe_call GG hr1 (by rfl) T.gG T.G.kp T.bG .nil pass0 (pa_cons (pv 0) (pa_cons (pv 1) pa_nil))) (pa_cons (pe_call GL hr (by rfl) T.gL T.L.kp T.bL .nil pass0 (pa_cons (pv 0) (pa_cons (pv 1) pa_nil))) pa_nil))) (by rfl))
      (pss_cons (ps_if (PW.pt (pw_or (pt_not (pt_val (pe_callB call_isi (by rfl) N.isinstance (by decide +kernel) (pa_cons (pv 4) (pa_cons (pe_bltn (v := .ty "int") (by rfl) N.int (by decide +kernel) rfl) pa_nil)))))
          (pw_or (pt_val (pe_callB call_isi (by rfl) N.isinstance (by decide +kernel) (pa_cons (pv 4) (pa_cons (pe_bltn (v := .ty "bool") (by rfl) N.bool (by decide +kernel) rfl) pa_nil)))) (pw_or1 (pt_cmpR op_ne (pv 4) (pe_callB call_len_seq (by rfl) N.len PySem.boot_len (pa_cons (pv 2) pa_nil)) (nomark _)))))) (pss_one (ps_ret pe_bl)) pss_nil)
      (pss_cons (ps_if (pt_cmpR (op_eqD hr.units) (pv 2) (pe_lst pa_nil) (nomark _)) (pss_one (ps_ret (pe_and (pe_cmpR op_isN (pv 5) pe_non (nomark _)) (pe_one (pe_cmpR op_isN (pv 6) pe_non (nomark _)))))) pss_nil)
      (pss_cons (ps_asg (pe_tup (pa_cons (pe_callTy call_list_of (by rfl) N.list (by decide +kernel) (pa_cons (pe_ix ix_list (pv 2) pe_int (fun _ _ => rfl)) pa_nil)) (pa_cons (pe_callTy call_list_of (by rfl) N.list (by decide +kernel) (pa_cons (pe_ix ix_list (pv 2) pe_int (fun _ _ => rfl)) pa_nil)) pa_nil))) (pg_tup rfl (pgs_cons (pg_name (i := 7) scRight.nd rfl (.inr rfl)) (pgs_cons (pg_name (i := 8) scRight.nd rfl (.inr rfl)) pgs_nil))))
      (pss_cons (ps_for PassesOwn.never rfl (pi_list (pv 2)) (pg_name (i := 9) scRight.nd rfl (.inr rfl))
        (pss_cons (ps_set (i := 7) scRight.nd rfl (.inr rfl) (pe_lc (own := [("at", 10)]) (g := gName 10) (tt := tYes) rfl scRight.nd (pi_range1 (by rfl) N.range (pa_cons (pe_callB call_len_seq (by rfl) N.len PySem.boot_len (pa_cons (pv 0) pa_nil)) pa_nil)) (blkOk_by (own := [("at", 10)]) (N := nRight) (sc := defScope sRight) (by decide +kernel)) (fun _ _ _ _ _ => pg_name (i := 10) scRight.nd rfl (Or.inl rfl)) (fun _ _ _ _ _ => pts_nil)
            (fun _ _ _ _ _ => pe_callB (call_min2 rfl) (by rfl) N.min (by decide +kernel) (pa_cons (pe_ix (ixL_at (K := K) rfl) (pv 7) (pv 10) (fun _ _ => rfl)) (pa_cons (pe_ix (ixT_at (K := K) rfl) (pv 9) (pv 10) (fun _ _ => rfl)) pa_nil)))))
        (pss_one (ps_set (i := 8) scRight.nd rfl (.inr rfl) (pe_lc (own := [("at", 10)]) (g := gName 10) (tt := tYes) rfl scRight.nd (pi_range1 (by rfl) N.range (pa_cons (pe_callB call_len_seq (by rfl) N.len PySem.boot_len (pa_cons (pv 0) pa_nil)) pa_nil)) (blkOk_by (own := [("at", 10)]) (N := nRight) (sc := defScope sRight) (by decide +kernel)) (fun _ _ _ _ _ => pg_name (i := 10) scRight.nd rfl (Or.inl rfl)) (fun _ _ _ _ _ => pts_nil)
            (fun _ _ _ _ _ => pe_callB (call_max2 rfl) (by rfl) N.max (by decide +kernel) (pa_cons (pe_ix (ixL_at (K := K) rfl) (pv 8) (pv 10) (fun _ _ => rfl)) (pa_cons (pe_ix (ixT_at (K := K) rfl) (pv 9) (pv 10) (fun _ _ => rfl)) pa_nil))))))))
      (pss_cons (ps_if (PW.pt (pw_or (pt_not (pt_val (pe_callB call_isi (by rfl) N.isinstance (by decide +kernel) (pa_cons (pv 5) (pa_cons (pe_bltn (v := .ty "tuple") (by rfl) N.tuple (by decide +kernel) rfl) pa_nil))))) (pw_or1 (pt_not (pt_val (pe_callB call_isi (by rfl) N.isinstance (by decide +kernel) (pa_cons (pv 6) (pa_cons (pe_bltn (v := .ty "tuple") (by rfl) N.tuple (by decide +kernel) rfl) pa_nil)))))))) (pss_one (ps_ret pe_bl)) pss_nil)
      (pss_one (ps_ret (pe_and (pe_cmpR (op_eqD hr.units) (pv 5) (pe_callTy call_tuple_of (by rfl) N.tuple (by decide +kernel) (pa_cons (pv 7) pa_nil)) (nomark _)) (pe_and (pe_cmpR (op_eqD hr.units) (pv 6) (pe_callTy call_tuple_of (by rfl) N.tuple (by decide +kernel) (pa_cons (pv 8) pa_nil)) (nomark _))
        (pe_and (pe_cmpR (op_inD hu65) (pe_callTy call_tuple_of (by rfl) N.tuple (by decide +kernel) (pa_cons (pv 7) pa_nil)) (pv 2) (by rfl)) (pe_one (pe_cmpR (op_inD hu65) (pe_callTy call_tuple_of (by rfl) N.tuple (by decide +kernel) (pa_cons (pv 8) pa_nil)) (pv 2) (by rfl)))))))))))))))), ?_⟩
    refine ⟨.ref a, rfl, .ref b, rfl, a, b, us, zs, rfl, hA, hB, hu, hz, fun H1 o fs s1 no eo hF ef => ?_⟩
    have hD1 : Dp K H1 (.ref o) (.list ((Ka.allFits us zs).map natD)) := by
      rw [← ef]
      exact .lst (sqL_new eo) (dpFs hF)
    have dFind : ∀ H2, Same H1 H2 → Dp K H2 (.ref o) (.list ((Ka.allFits us zs).map natD)) := fun H2 s2 => by
      rw [← ef]
      exact .lst (sqL_new (s2 _ _ eo)) (dpFs (hF.mono s2))
    have s1000 : ∀ n, n ≤ 1000000 → n ≤ sizeLine := fun n h => smallE h
    have elen : (adF fs).length = Ka.cnt us zs := by
      unfold adF Ka.cnt
      rw [← ef, List.length_map, List.length_map]
    refine ⟨.ref a, rfl, .ref b, rfl, a, b, us, zs, rfl, Same.sqT s1 hA, Same.sqT s1 hB, fun H2 s2 => ?_⟩
    have sa2 := s1.trans s2
    by_cases hL : Ka.allFits us zs = []
    · have ht : sub us zs = false := by
        cases e : sub us zs with
        | false => rfl
        | true => exact absurd hL ((fits_sub us zs).mpr e)
      rw [ht]
      refine ⟨.bl false, rfl, _, _, rfl, rfl, _, rfl, iteT ?_⟩
      refine ⟨.bl false, rfl, _, _, rfl, rfl, _, rfl, iteF ?_⟩
      refine ⟨.bl false, rfl, .ref o, rfl, s1000 0 (by decide), fun l nl => ?_⟩
      refine ⟨_, _, dFind _ (s2.trans (same_new nl)), .lst (ds := ([] : List (List Nat)).map natD) (sqL_new upd_same) .nil, shFs _, shFs [], ?_⟩
      rw [eqFs, decide_eq_true hL]
      refine ⟨rfl, _, rfl, iteNS rfl ?_⟩
      have sa3 := sa2.trans (same_new (o := .lst []) nl)
      have noF : (ff us zs).length ≠ us.length := fun e => by
        have := (Ka.mem_allFits zs us _).mpr (ff_fit e)
        rw [hL] at this
        cases this
      have noL : (lf us zs).length ≠ us.length := fun e => by
        have := (Ka.mem_allFits zs us _).mpr (lf_fit e)
        rw [hL] at this
        cases this
      refine ⟨.ref a, rfl, .ref b, rfl, a, b, us, zs, rfl, Same.sqT sa3 hA, Same.sqT sa3 hB, by omega, fun H3 s3 => ?_⟩
      have sa4 := sa3.trans s3
      refine ⟨.ref a, rfl, .ref b, rfl, a, b, us, zs, rfl, Same.sqT sa4 hA, Same.sqT sa4 hB, by omega, fun e => absurd e noF, fun _ H4 s4 => ?_⟩
      have sa5 := sa4.trans s4
      refine ⟨.ref a, rfl, .ref b, rfl, a, b, us, zs, rfl, Same.sqT sa5 hA, Same.sqT sa5 hB, by omega, fun e => absurd e noL, fun _ H5 s5 => ?_⟩
      have sa6 := sa5.trans s5
      have sf6 : Same H1 H5 := (((s2.trans (same_new nl)).trans s3).trans s4).trans s5
      refine ⟨_, _, _, rfl, ?_⟩
      refine ⟨.int _, rfl, .int _, .ty "int", .type "int", .type "int", true, rfl, .ty "int", .base (.int _), kit_ty (by decide +kernel), true, rfl, iteF ?_⟩
      refine ⟨.int _, rfl, .int _, .ty "bool", .type "int", .type "bool", false, rfl, .ty "bool", .base (.int _), kit_ty (by decide +kernel), false, rfl, iteF ?_⟩
      refine ⟨.int _, rfl, .ref o, rfl, o, _, rfl, .inl (sqL_new (sf6 _ _ eo)), rfl, _, rfl, iteNS (by rw [elen]) ?_⟩
      refine ⟨.ref o, rfl, s1000 0 (by decide), fun l2 nl2 => ?_⟩
      refine ⟨_, _, dFind _ (sf6.trans (same_new nl2)), .lst (ds := ([] : List (List Nat)).map natD) (sqL_new upd_same) .nil, shFs _, shFs [], ?_⟩
      rw [eqFs, decide_eq_true hL]
      refine ⟨_, rfl, iteT ?_⟩
      refine ⟨.non, rfl, rfl, true, rfl, iteT ⟨.non, rfl, rfl, ?_⟩⟩
      exact q _ (sa6.trans (same_new nl2))
    · have ht : sub us zs = true := (fits_sub us zs).mp hL
      obtain ⟨f0, hf0⟩ : ∃ f0, fs[0]? = some f0 := by
        cases e : fs with
        | nil =>
          rw [e] at ef
          exact absurd ef.symm hL
        | cons f _ => exact ⟨f, rfl⟩
      have mem : ∀ f ∈ fs, f.2 ∈ Ka.allFits us zs := fun f hf => by
        rw [← ef]
        exact List.mem_map_of_mem hf
      have fit : ∀ f ∈ fs, Ka.IsFit us zs f.2 := fun f hf => (Ka.mem_allFits zs us f.2).mp (mem f hf)
      have hf0m := List.mem_of_getElem? hf0
      have fullF := ff_full (fit f0 hf0m)
      have fullL := lf_full (fit f0 hf0m)
      rw [ht]
      refine ⟨.bl true, rfl, _, _, rfl, rfl, _, rfl, iteF ?_⟩
      refine ⟨.bl true, rfl, .ref o, rfl, s1000 0 (by decide), fun l nl => ?_⟩
      refine ⟨_, _, dFind _ (s2.trans (same_new nl)), .lst (ds := ([] : List (List Nat)).map natD) (sqL_new upd_same) .nil, shFs _, shFs [], ?_⟩
      rw [eqFs, decide_eq_false hL]
      refine ⟨rfl, _, rfl, iteNS rfl ?_⟩
      have sa3 := sa2.trans (same_new (o := .lst []) nl)
      refine ⟨.ref a, rfl, .ref b, rfl, a, b, us, zs, rfl, Same.sqT sa3 hA, Same.sqT sa3 hB, by omega, fun H3 s3 => ?_⟩
      have sa4 := sa3.trans s3
      refine ⟨.ref a, rfl, .ref b, rfl, a, b, us, zs, rfl, Same.sqT sa4 hA, Same.sqT sa4 hB, by omega, fun _ H4 p1 s4 np1 ep1 => ?_, fun ne => absurd fullF ne⟩
      have sa5 := sa4.trans s4
      refine ⟨.ref a, rfl, .ref b, rfl, a, b, us, zs, rfl, Same.sqT sa5 hA, Same.sqT sa5 hB, by omega, fun _ H5 p2 s5 np2 ep2 => ?_, fun ne => absurd fullL ne⟩
      have sa6 := sa5.trans s5
      have sf6 : Same H1 H5 := (((s2.trans (same_new nl)).trans s3).trans s4).trans s5
      refine ⟨_, _, _, rfl, ?_⟩
      refine ⟨.int _, rfl, .int _, .ty "int", .type "int", .type "int", true, rfl, .ty "int", .base (.int _), kit_ty (by decide +kernel), true, rfl, iteF ?_⟩
      refine ⟨.int _, rfl, .int _, .ty "bool", .type "int", .type "bool", false, rfl, .ty "bool", .base (.int _), kit_ty (by decide +kernel), false, rfl, iteF ?_⟩
      refine ⟨.int _, rfl, .ref o, rfl, o, _, rfl, .inl (sqL_new (sf6 _ _ eo)), rfl, _, rfl, iteNS (by rw [elen]) ?_⟩
      refine ⟨.ref o, rfl, s1000 0 (by decide), fun l2 nl2 => ?_⟩
      have st7 := same_new (o := .lst []) nl2
      refine ⟨_, _, dFind _ (sf6.trans st7), .lst (ds := ([] : List (List Nat)).map natD) (sqL_new upd_same) .nil, shFs _, shFs [], ?_⟩
      rw [eqFs, decide_eq_false hL]
      refine ⟨_, rfl, iteF ?_⟩
      generalize hH7 : upd H5 l2 (.lst []) = H7 at st7
      have s07 : Same H5 H7 := st7
      have sf7 := sf6.trans s07
      have sa7 := sa6.trans s07
      have e0 : (adF fs)[0]? = some (.ref f0.1) := by
        unfold adF
        rw [List.getElem?_map, hf0]
        rfl
      refine ⟨.ref o, rfl, o, _, _, .ref f0.1, rfl, rfl, sqL_new (sf7 _ _ eo), atI_nat (j := 0) e0, f0.1, _, rfl, .inr (sqT_new (sf7 _ _ (hF f0 hf0m))), fun lo nlo => ?_⟩
      have s8 := same_new (o := .lst (natV f0.2)) nlo
      refine ⟨.ref o, rfl, o, _, _, .ref f0.1, rfl, rfl, sqL_new (s8 _ _ (sf7 _ _ eo)), atI_nat (j := 0) e0, f0.1, _, rfl, .inr (sqT_new (s8 _ _ (sf7 _ _ (hF f0 hf0m)))), fun hi nhi => ?_⟩
      have s9 := same_new (o := .lst (natV f0.2)) nhi
      refine ⟨s1000 2 (by decide), fun t nt => ?_⟩
      have s10 := same_new (o := .tup [.ref lo, .ref hi]) nt
      refine ⟨t, [.ref lo, .ref hi], rfl, .inl (.inl upd_same), rfl, _, _, rfl, _, _, rfl, rfl, ?_⟩
      have s7A := ((s8.trans s9).trans s10)
      have elo := (s9.trans s10) lo _ upd_same
      have ehi := s10 hi _ upd_same
      generalize upd (upd (upd H7 lo (.lst (natV f0.2))) hi (.lst (natV f0.2))) t (.tup [.ref lo, .ref hi]) = H8 at s7A elo ehi ⊢
      have sf8 := sf7.trans s7A
      have sa8 := sa7.trans s7A
      have ep1' : H8 p1 = some (.tup (natV (ff us zs))) := s7A _ _ (s07 _ _ (s5 _ _ ep1))
      have ep2' : H8 p2 = some (.tup (natV (lf us zs))) := s7A _ _ (s07 _ _ ep2)
      have numU : ((us.map V.str).length : Nat) = us.length := List.length_map _
      refine ⟨.ref o, rfl, o, rfl, ⟨_, sqL_new (sf8 _ _ eo)⟩, for_list (K := K) (a := o) (xs := adF fs) (fun i σ H' => ∃ d9 lo hi ls hs, σ = [some (.ref a), some (.ref b), some (.ref o), some (.bl true), some (.int (Ka.cnt us zs : Nat)), some (.ref p1), some (.ref p2), some (.ref lo), some (.ref hi), d9, none] ∧ Same H8 H' ∧ H' lo = some (.lst (natV ls)) ∧ H' hi = some (.lst (natV hs)) ∧
          Low (Ka.allFits us zs) us.length ((fs.take i).map (·.2)) ls ∧ High (Ka.allFits us zs) us.length ((fs.take i).map (·.2)) hs)
        ⟨none, lo, hi, f0.2, f0.2, rfl, (fun _ _ e => e), elo, ehi, ⟨(fit f0 hf0m).len, (fun k x hx => ⟨f0.2, mem f0 hf0m, hx⟩), fun k x _ g hg => by cases hg⟩, ⟨(fit f0 hf0m).len, (fun k x hx => ⟨f0.2, mem f0 hf0m, hx⟩), fun k x _ g hg => by cases hg⟩⟩
        (fun i σ H' _ ⟨_, _, _, _, _, _, sm, _⟩ => sqL_new (sm _ _ (sf8 _ _ eo))) ?_ ?_⟩
      · rintro i x σ H' hx ⟨d9, lo, hi, ls, hs, rfl, sm, elo, ehi, hLo, hHi⟩
        obtain ⟨ft, hft, rfl⟩ := get_map hx
        have hftm := List.mem_of_getElem? hft
        have eft : H' ft.1 = some (.tup (natV ft.2)) := sm _ _ (sf8 _ _ (hF ft hftm))
        have hlen := (fit ft hftm).len
        have etk : (fs.take (i + 1)).map (·.2) = (fs.take i).map (·.2) ++ [ft.2] := by
          rw [take_of_get hft, List.map_append]
          rfl
        have hlls : ls.length = us.length := hLo.len
        have hlhs : hs.length = us.length := hHi.len
        refine ⟨.ref a, rfl, a, _, rfl, .inr (Same.sqT (sa8.trans sm) hA), _, rfl, by omega, by rw [List.length_map]; omega, fun D nD => ?_⟩
        refine lc_it (walk_r0 (n := (us.map V.str).length)) (fun j H2 => Same H' H2 ∧ H2 D = some (.lst (natV ((minL ls ft.2).take j)))) ⟨same_new nD, upd_same⟩ (fun _ _ _ _ => True.intro) (fun j y H2 H3 hj h2 yy => ?_) (fun H2 h2 => ?_)
        · obtain ⟨rfl, rfl⟩ := yy
          obtain ⟨sj, eD⟩ := h2
          rw [numU] at hj
          have g1 : ls[j]? = some (ls[j]'(by omega)) := List.getElem?_eq_getElem _
          have g2 : ft.2[j]? = some (ft.2[j]'(by omega)) := List.getElem?_eq_getElem _
          refine ⟨rfl, .ref lo, rfl, .int (j : Nat), rfl, lo, _, _, _, rfl, rfl, sqL_new (sj _ _ elo), atI_nat (natV_get g1), .ref ft.1, rfl, .int (j : Nat), rfl, ft.1, _, _, _, rfl, rfl, sqT_new (sj _ _ eft), atI_nat (natV_get g2), _, _, rfl, ?_⟩
          have em : (minL ls ft.2)[j]? = some (if ((ft.2[j]'(by omega) : Nat) : Int) < ((ls[j]'(by omega) : Nat) : Int) then ft.2[j]'(by omega) else ls[j]'(by omega)) := by
            unfold minL
            rw [List.getElem?_zipWith, g1, g2]
          refine ⟨_, eD, by rw [natV_len]; exact small (Nat.le_trans (List.length_take_le _ _) (by omega)), fun c u e => ?_, ?_⟩
          · rw [upd_ne (ne_of_none e nD)]
            exact sj c u e
          · rw [upd_same, take_of_get em, natV_snoc']
            congr 4
            split <;> rfl
        · obtain ⟨sj, eD⟩ := h2
          rw [numU, List.take_of_length_le (by unfold minL; rw [List.length_zipWith]; omega)] at eD
          refine ⟨.ref a, rfl, a, _, rfl, .inr (Same.sqT ((sa8.trans sm).trans sj) hA), _, rfl, by omega, by rw [List.length_map]; omega, fun D2 nD2 => ?_⟩
          refine lc_it (walk_r0 (n := (us.map V.str).length)) (fun j H3 => Same H2 H3 ∧ H3 D2 = some (.lst (natV ((maxL hs ft.2).take j)))) ⟨same_new nD2, upd_same⟩ (fun _ _ _ _ => True.intro) (fun j y H3 H4 hj h2 yy => ?_) (fun H3 h3 => ?_)
          · obtain ⟨rfl, rfl⟩ := yy
            obtain ⟨sk, eD2⟩ := h2
            rw [numU] at hj
            have g1 : hs[j]? = some (hs[j]'(by omega)) := List.getElem?_eq_getElem _
            have g2 : ft.2[j]? = some (ft.2[j]'(by omega)) := List.getElem?_eq_getElem _
            refine ⟨rfl, .ref hi, rfl, .int (j : Nat), rfl, hi, _, _, _, rfl, rfl, sqL_new (sk _ _ (sj _ _ ehi)), atI_nat (natV_get g1), .ref ft.1, rfl, .int (j : Nat), rfl, ft.1, _, _, _, rfl, rfl, sqT_new (sk _ _ (sj _ _ eft)), atI_nat (natV_get g2), _, _, rfl, ?_⟩
            have em : (maxL hs ft.2)[j]? = some (if ((ft.2[j]'(by omega) : Nat) : Int) > ((hs[j]'(by omega) : Nat) : Int) then ft.2[j]'(by omega) else hs[j]'(by omega)) := by
              unfold maxL
              rw [List.getElem?_zipWith, g1, g2]
            refine ⟨_, eD2, by rw [natV_len]; exact small (Nat.le_trans (List.length_take_le _ _) (by omega)), fun c u e => ?_, ?_⟩
            · rw [upd_ne (ne_of_none e nD2)]
              exact sk c u e
            · rw [upd_same, take_of_get em, natV_snoc']
              congr 4
              split <;> rfl
          · obtain ⟨sk, eD2⟩ := h3
            rw [numU, List.take_of_length_le (by unfold maxL; rw [List.length_zipWith]; omega)] at eD2
            refine ⟨_, D, D2, _, _, rfl, (sm.trans sj).trans sk, sk _ _ eD, eD2, ?_, ?_⟩
            · rw [etk]
              exact hLo.more (mem ft hftm) hlen
            · rw [etk]
              exact hHi.more (mem ft hftm) hlen
      · rintro σ H' ⟨d9, lo, hi, ls, hs, rfl, sm, elo, ehi, hLo, hHi⟩
        have etk : (fs.take (adF fs).length).map (·.2) = Ka.allFits us zs := by
          rw [List.take_of_length_le (by unfold adF; rw [List.length_map]; exact Nat.le_refl _), ef]
        rw [etk] at hLo hHi
        have e1 := low_ff hLo fullF
        have e2 := high_lf hHi fullL
        subst e1 e2
        have memF := (Ka.mem_allFits zs us _).mpr (ff_fit fullF)
        have memL := (Ka.mem_allFits zs us _).mpr (lf_fit fullL)
        have sa9 := sa8.trans sm
        have sf9 := sf8.trans sm
        refine ⟨.ref p1, rfl, .ref p1, .ty "tuple", .type "tuple", .type "tuple", true, rfl, .ty "tuple", .base (.tup (sm _ _ ep1')), kit_ty (by decide +kernel), true, rfl, iteF ?_⟩
        refine ⟨.ref p2, rfl, .ref p2, .ty "tuple", .type "tuple", .type "tuple", true, rfl, .ty "tuple", .base (.tup (sm _ _ ep2')), kit_ty (by decide +kernel), true, rfl, iteF ?_⟩
        refine ⟨.ref p1, rfl, .ref lo, rfl, lo, _, rfl, .inl ⟨sqL_new elo, fun q1 nq1 => ?_⟩⟩
        have t1 := same_new (o := .tup (natV (ff us zs))) nq1
        refine ⟨natD (ff us zs), natD (ff us zs), dpN (t1 _ _ (sm _ _ ep1')), dpN upd_same, shN _, shN _, ?_⟩
        rw [eqN, decide_eq_true rfl]
        refine ⟨true, rfl, iteT ?_⟩
        refine ⟨.ref p2, rfl, .ref hi, rfl, hi, _, rfl, .inl ⟨sqL_new (t1 _ _ ehi), fun q2 nq2 => ?_⟩⟩
        have t2 := t1.trans (same_new (o := .tup (natV (lf us zs))) nq2)
        refine ⟨natD (lf us zs), natD (lf us zs), dpN (t2 _ _ (sm _ _ ep2')), dpN upd_same, shN _, shN _, ?_⟩
        rw [eqN, decide_eq_true rfl]
        refine ⟨true, rfl, iteT ?_⟩
        refine ⟨.ref lo, rfl, lo, _, rfl, .inl ⟨sqL_new (t2 _ _ elo), fun q3 nq3 => ?_⟩⟩
        have t3 := t2.trans (same_new (o := .tup (natV (ff us zs))) nq3)
        refine ⟨.ref o, rfl, natD (ff us zs), _, dpN upd_same, dFind _ (sf9.trans t3), shN _, shFs _, ?_⟩
        rw [any_fit memF]
        refine ⟨true, rfl, iteT ?_⟩
        refine ⟨.ref hi, rfl, hi, _, rfl, .inl ⟨sqL_new (t3 _ _ ehi), fun q4 nq4 => ?_⟩⟩
        have t4 := t3.trans (same_new (o := .tup (natV (lf us zs))) nq4)
        refine ⟨.ref o, rfl, natD (lf us zs), _, dpN upd_same, dFind _ (sf9.trans t4), shN _, shFs _, ?_⟩
        rw [any_fit memL]
        exact q _ (sa9.trans t4)
end
end Kb
namespace Kb
open PySem PySem.Spec PyProof.Rows L2
/-! ### fits by the cuts -/
def cutSum {α : Type} [DecidableEq α] (u v w : List α) (n : Nat) : Nat := ((List.range n).map fun k => Ka.cnt (u.take k) v * Ka.cnt (u.drop k) w).sum
theorem cutSum_succ {α : Type} [DecidableEq α] (u v w : List α) (n : Nat) : cutSum u v w (n + 1) = cutSum u v w n + Ka.cnt (u.take n) v * Ka.cnt (u.drop n) w := by
  unfold cutSum
  rw [List.range_succ, List.map_append, List.sum_append]
  simp
theorem cutSum_step {α : Type} [DecidableEq α] (u v w : List α) (x d : α) : ∀ n, n ≤ u.length + 1 → cutSum (u ++ [x]) v (w ++ [d]) n = cutSum (u ++ [x]) v w n + (if d = x then cutSum u v w n else 0)
  | 0, _ => by
    unfold cutSum
    simp
  | n + 1, h => by
    have hn : n ≤ u.length := by omega
    rw [cutSum_succ, cutSum_succ, cutSum_step u v w x d n (by omega)]
    have e1 : (u ++ [x]).take n = u.take n := List.take_append_of_le_length hn
    have e2 : (u ++ [x]).drop n = u.drop n ++ [x] := List.drop_append_of_le_length hn
    rw [e1, e2, Ka.cnt_snoc_snoc]
    by_cases c : d = x
    · rw [if_pos c, if_pos c, if_pos c, cutSum_succ, Nat.mul_add]
      omega
    · rw [if_neg c, if_neg c, if_neg c, Nat.add_zero, Nat.add_zero, Nat.add_zero]
theorem cuts_right {α : Type} [DecidableEq α] (v w : List α) : ∀ u : List α, Ka.cnt u (v ++ w) = cutSum u v w (u.length + 1) := by
  refine Ka.snoc_ind (P := fun w : List α => ∀ u : List α, Ka.cnt u (v ++ w) = cutSum u v w (u.length + 1)) (fun u => ?_) (fun w d ih u => ?_) w
  · rw [List.append_nil, cutSum_succ, List.take_length, List.drop_length, Ka.cnt_nil, Nat.mul_one]
    have : ∀ n, n ≤ u.length → cutSum u v [] n = 0 := by
      intro n
      induction n with
      | zero => intro _; rfl
      | succ n ih =>
        intro h
        rw [cutSum_succ, ih (by omega)]
        have hd : u.drop n ≠ [] := fun e => by
          have := congrArg List.length e
          rw [List.length_drop] at this
          simp at this
          omega
        obtain ⟨a, x, e⟩ : ∃ a x, u.drop n = a ++ [x] := ⟨(u.drop n).dropLast, (u.drop n).getLast hd, (List.dropLast_concat_getLast hd).symm⟩
        rw [e, Ka.cnt_snoc_nil]
        rfl
    rw [this _ (Nat.le_refl _), Nat.zero_add]
  · rw [← List.append_assoc]
    refine Ka.snoc_ind (P := fun u : List α => Ka.cnt u (v ++ w ++ [d]) = cutSum u v (w ++ [d]) (u.length + 1)) ?_ (fun u x _ => ?_) u
    · rw [Ka.cnt_nil, cutSum_succ]
      simp [cutSum, Ka.cnt_nil]
    · rw [Ka.cnt_snoc_snoc, ih, ih, List.length_append, List.length_singleton, cutSum_succ, cutSum_succ (n := u.length + 1), cutSum_step u v w x d _ (Nat.le_refl _)]
      have e : (u ++ [x]).drop (u.length + 1) = [] := List.drop_eq_nil_of_le (by rw [List.length_append, List.length_singleton]; exact Nat.le_refl _)
      rw [e, Ka.cnt_nil, Ka.cnt_nil]
      by_cases c : d = x
      · rw [if_pos c]
        omega
      · rw [if_neg c]
        omega
section
variable {P : Program} {w : World} {K : PySem.W.Frag} {mg : Str → Option Value} {base : Heap}
theorem slA_at {X : Cx} {K : PySem.W.Frag} (h : X.K = K) : SlR X (rSlA K) := by
  subst h
  exact sl_tupA
theorem slA_take {H : Hp} {a : Addr} {xs : List V} {j : Nat} {Q : VK} (hA : SqT K H a xs) (q0 : xs.take j = xs → Q (.ref a) H) (q1 : ∀ p, H p = none → Q (.ref p) (upd H p (.tup (xs.take j)))) : rSlA K (.ref a) none (some (j : Int)) H Q := by
  refine ⟨a, xs, rfl, hA, fun hw => ?_, fun _ p np => ?_⟩
  · have h2 := hw.2
    rw [HT.sIx_nat] at h2
    exact q0 (List.take_of_length_le (by omega))
  · have e : cutV xs none (some (j : Int)) = xs.take j := by
      unfold cutV
      rw [HT.sIx_nat, HT.sIx_none, List.drop_zero, Nat.sub_zero]
      by_cases h : j ≤ xs.length
      · rw [Nat.min_eq_left h]
      · rw [Nat.min_eq_right (by omega), List.take_length, List.take_of_length_le (by omega)]
    rw [e]
    exact q1 p np
theorem slA_drop {H : Hp} {a : Addr} {xs : List V} {j : Nat} {Q : VK} (hA : SqT K H a xs) (q0 : xs.drop j = xs → Q (.ref a) H) (q1 : ∀ p, H p = none → Q (.ref p) (upd H p (.tup (xs.drop j)))) : rSlA K (.ref a) (some (j : Int)) none H Q := by
  refine ⟨a, xs, rfl, hA, fun hw => ?_, fun _ p np => ?_⟩
  · have h2 := hw.1
    rw [HT.sIx_nat] at h2
    refine q0 ?_
    by_cases h : j = 0
    · rw [h]
      rfl
    · have h0 : xs.length = 0 := by omega
      rw [List.eq_nil_of_length_eq_zero h0, List.drop_nil]
  · have e : cutV xs (some (j : Int)) none = xs.drop j := by
      unfold cutV
      rw [HT.sIx_nat, HT.sIx_none]
      by_cases h : j ≤ xs.length
      · rw [Nat.min_eq_left h, List.take_of_length_le (by rw [List.length_drop]; exact Nat.le_refl _)]
      · rw [Nat.min_eq_right (by omega), List.drop_length, List.drop_eq_nil_of_le (by omega), List.take_nil]
    rw [e]
    exact q1 p np
/-- a slice of a row -/
theorem slA_takeR {H : Hp} {a : Addr} {us : List Str} {j : Nat} {Q : VK} (hA : SqT K H a (us.map V.str)) (q : ∀ H' p, Same H H' → SqT K H' p ((us.take j).map V.str) → Q (.ref p) H') : rSlA K (.ref a) none (some (j : Int)) H Q :=
  slA_take hA (fun e => q H a (fun _ _ h => h) (by rw [List.map_take, e]; exact hA)) fun p np => q _ p (same_new np) (by rw [List.map_take]; exact sqT_new upd_same)
theorem slA_dropR {H : Hp} {a : Addr} {us : List Str} {j : Nat} {Q : VK} (hA : SqT K H a (us.map V.str)) (q : ∀ H' p, Same H H' → SqT K H' p ((us.drop j).map V.str) → Q (.ref p) H') : rSlA K (.ref a) (some (j : Int)) none H Q :=
  slA_drop hA (fun e => q H a (fun _ _ h => h) (by rw [List.map_drop, e]; exact hA)) fun p np => q _ p (same_new np) (by rw [List.map_drop]; exact sqT_new upd_same)
theorem scCuts : FnScope ["u", "v", "w", "at"] ["u", "v", "w"] (defScope sCuts) := ⟨rfl, rfl, rfl, by decide +kernel, rfl, by decide +kernel, by decide +kernel⟩
def spCuts (K : PySem.W.Frag) : Sp := fun vs H Q _ => ∃ (a b c : Addr) (us zs ws : List Str), vs = [.ref a, .ref b, .ref c] ∧ SqT K H a (us.map V.str) ∧ SqT K H b (zs.map V.str) ∧ SqT K H c (ws.map V.str) ∧ us.length ≤ 1000 ∧ zs.length ≤ 18 ∧ ∀ H', Same H H' → Q (.int (Ka.cnt us (zs ++ ws) : Nat)) H'
theorem ok_cuts {f fF : Addr} {fd dF : FuncData} (F : Fun K "_law_cuts" "_law_cuts" sCuts f fd) (FF : Fun K "fits" "fits" sFits fF dF) (bF : Binds K dF ["u", "v"] []) (kF : KBinds K dF ["u", "v"] ["v", "u"] Ka.swG Ka.swG) (gF : mg "fits" = some (.ref fF)) (N : Nones mg) : FnOk P w K mg base CX0 2 f fd ["u", "v", "w"] (spCuts K) := by
  have GF : FnOk P w K mg base CX0 1 fF dF ["u", "v"] (spFits K) := ok_fits FF N.enumerate N.len N.reversed
  refine F.ok scCuts (fun vs H Q E h => ?_) (fun cdv A outer s H vs Q E hr h => ?_)
  · obtain ⟨a, b, c, us, zs, ws, rfl, _⟩ := h
    rfl
  · obtain ⟨a, b, c, us, zs, ws, rfl, hA, hB, hC, hu, hz, q⟩ := h
    refine ⟨_, pss_one (ps_ret (pe_callB (cr_sum rfl) (by rfl) N.sum (by decide +kernel) (pa_cons
      (pe_lc (own := [("at", 3)]) (g := gName 3) (tt := tYes) rfl scCuts.nd (pi_range1 (by rfl) N.range (pa_cons (pe_op op_add (pe_callB call_len_seq (by rfl) N.len PySem.boot_len (pa_cons (pv 0) pa_nil)) pe_int) pa_nil)) (blkOk_by (own := [("at", 3)]) (N := ["u", "v", "w", "at"]) (sc := defScope sCuts) (by decide +kernel)) (fun _ _ _ _ _ => pg_name (i := 3) scCuts.nd rfl (Or.inl rfl)) (fun _ _ _ _ _ => pts_nil)
        (fun _ _ _ _ _ => pe_op op_mul (pe_call GF hr (by rfl) gF FF.kp bF .nil pass0 (pa_cons (pe_slice (slA_at (K := K) rfl) (pv 0) po_none (po_some (pv 3))) (pa_cons (pv 1) pa_nil)))
          (Ka.pe_callK0 GF hr (by rfl) gF FF.kp kF pass0 (pk_cons (pv 2) (pk_cons (pe_slice (slA_at (K := K) rfl) (pv 0) (po_some (pv 3)) po_none) pk_nil))))) pa_nil))), ?_⟩
    refine ⟨.ref a, rfl, a, _, rfl, .inr hA, _, _, rfl, rfl, _, rfl, by omega, by rw [List.length_map]; omega, fun D nD => ?_⟩
    have en : (((us.map V.str).length : Int) + 1).toNat = us.length + 1 := by rw [List.length_map]; omega
    rw [en]
    refine lc_it (walk_r0 (n := us.length + 1)) (fun j H2 => Same H H2 ∧ H2 D = some (.lst (natV ((List.range j).map fun k => Ka.cnt (us.take k) zs * Ka.cnt (us.drop k) ws)))) ⟨same_new nD, upd_same⟩ (fun _ _ _ _ => True.intro) (fun j y H2 H3 hj h2 yy => ?_) (fun H2 h2 => ?_)
    · obtain ⟨rfl, rfl⟩ := yy
      obtain ⟨sj, eD⟩ := h2
      refine ⟨rfl, ?_⟩
      refine ⟨.ref a, rfl, .int (j : Nat), rfl, (j : Nat), rfl, slA_takeR (Same.sqT sj hA) fun H4 p s4 hp => ?_⟩
      have sj4 := sj.trans s4
      refine ⟨.ref b, rfl, p, b, us.take j, zs, rfl, hp, Same.sqT sj4 hB, Nat.le_trans (List.length_take_le _ _) (by omega), fun H5 s5 => ?_⟩
      have sj5 := sj4.trans s5
      refine ⟨.ref c, rfl, .ref a, rfl, .int (j : Nat), rfl, (j : Nat), rfl, ?_⟩
      dsimp only [tNoPart]
      refine slA_dropR (Same.sqT sj5 hA) fun H6 p2 s6 hp2 => ?_
      have sj6 := sj5.trans s6
      refine ⟨p2, c, us.drop j, ws, rfl, hp2, Same.sqT sj6 hC, by rw [List.length_drop]; omega, fun H7 s7 => ?_⟩
      have hb : Ka.cnt (us.take j) zs ≤ 262144 := by
        have h1 := cnt_le zs (us.take j)
        have h2 : 2 ^ zs.length ≤ 2 ^ 18 := Nat.pow_le_pow_right (by decide) hz
        omega
      refine ⟨_, _, rfl, rfl, .inl ⟨by omega, by omega⟩, _, s7 _ _ (s6 _ _ (s5 _ _ (s4 _ _ eD))), ?_, fun x u e => ?_, ?_⟩
      · rw [natV_len, List.length_map, List.length_range]
        exact small (by omega)
      · rw [upd_ne (ne_of_none e nD)]
        exact s7 _ _ (sj6 _ _ e)
      · rw [upd_same, List.range_succ, List.map_append, List.map_singleton, natV_snoc', Int.natCast_mul]
    · obtain ⟨sj, eD⟩ := h2
      have e2 : natV ((List.range (us.length + 1)).map fun k => Ka.cnt (us.take k) zs * Ka.cnt (us.drop k) ws) = (((List.range (us.length + 1)).map fun k => Ka.cnt (us.take k) zs * Ka.cnt (us.drop k) ws).map fun (n : Nat) => (n : Int)).map V.int := by
        unfold natV
        rw [List.map_map, List.map_map, List.map_map]
        rfl
      rw [e2] at eD
      refine ⟨D, _, rfl, sqL_new eD, ?_⟩
      have e3 : (((List.range (us.length + 1)).map fun k => Ka.cnt (us.take k) zs * Ka.cnt (us.drop k) ws).map fun (n : Nat) => (n : Int)).sum = ((Ka.cnt us (zs ++ ws) : Nat) : Int) := by
        rw [cuts_right]
        unfold cutSum
        generalize ((List.range (us.length + 1)).map fun k => Ka.cnt (us.take k) zs * Ka.cnt (us.drop k) ws) = l
        induction l with
        | nil => rfl
        | cons x l ih =>
          rw [List.map_cons, List.sum_cons, List.sum_cons, ih]
          omega
      rw [e3]
      exact q H2 sj
end
end Kb
namespace Kb
open PySem PySem.Spec PyProof.Rows L2
section
variable {P : Program} {w : World} {K : PySem.W.Frag} {mg : Str → Option Value} {base : Heap}
abbrev nLists : List Str := ["rows", "due", "row", "top", "holders", "handed", "other"]
theorem scLists : FnScope nLists ["rows"] (defScope sLists) := ⟨rfl, rfl, rfl, by decide +kernel, rfl, by decide +kernel, by decide +kernel⟩
/-- the table of the lambda's maker -/
def TL (Pt : Addr) : List (Addr × Str) := [(Pt, "_law_lists_right.<locals>.<lambda>")]
theorem lamName : ("_law_lists_right" : Str) ++ ".<locals>." ++ "<lambda>" = "_law_lists_right.<locals>.<lambda>" := by decide +kernel
theorem lamIn (Pt : Addr) : (Pt, ("_law_lists_right" : Str) ++ ".<locals>." ++ "<lambda>") ∈ TL Pt := by
  rw [lamName]
  exact List.mem_singleton.mpr rfl
theorem tabs_but {T : List (Addr × Str)} {H H' : Hp} {x : Addr} {xs : List V} (t : LamX.Tabs T H) (h : H x = some (.lst xs)) (k : But x H H') : LamX.Tabs T H' := fun p hp => by
  obtain ⟨ps, h1, h2, h3⟩ := t p hp
  refine ⟨ps, k _ _ (ne_of h1 h fun w => nomatch w) h1, h2, fun pos cv hc => ?_⟩
  obtain ⟨c, e1, e2⟩ := h3 pos cv hc
  refine ⟨c, e1, k _ _ (ne_of e2 h fun w => ?_) e2⟩
  have w' : HO.ext _ = HO.lst xs := w
  cases w'
theorem any_row {l : List (List Str)} {r : List Str} : ((l.map Ka.rowD).any fun z => PyData.eqv z (Ka.rowD r)) = decide (r ∈ l) := by
  rw [List.any_map]
  by_cases h : r ∈ l
  · rw [decide_eq_true h, List.any_eq_true]
    refine ⟨r, h, ?_⟩
    show PyData.eqv (Ka.rowD r) (Ka.rowD r) = true
    rw [eqR, decide_eq_true rfl]
  · rw [decide_eq_false h, List.any_eq_false]
    intro x hx hc
    have hc' : PyData.eqv (Ka.rowD x) (Ka.rowD r) = true := hc
    rw [eqR] at hc'
    exact h (of_decide_eq_true hc' ▸ hx)
theorem great_nil (L : List (List Str)) (r : List Str) : decide (L.filter (fun o => !decide (o = r) && sub r o) = []) = great L r := by
  cases h : great L r with
  | true =>
    refine decide_eq_true ?_
    rw [List.filter_eq_nil_iff]
    intro o ho hc
    rw [Bool.and_eq_true, Bool.not_eq_true', decide_eq_false_iff_not] at hc
    rw [great_iff.mp h o ho hc.1] at hc
    exact Bool.false_ne_true hc.2
  | false =>
    refine decide_eq_false fun e => ?_
    rw [List.filter_eq_nil_iff] at e
    have : great L r = true := great_iff.mpr fun o ho hne => by
      have := e o ho
      rw [Bool.and_eq_true, Bool.not_eq_true', decide_eq_false_iff_not] at this
      cases hs : sub r o with
      | false => rfl
      | true => exact absurd ⟨hne, hs⟩ this
    rw [this] at h
    cases h
def spLists (K : PySem.W.Frag) (Pt : Addr) : Sp := fun vs H Q _ => ∃ (a : Addr) (rs : List Ka.Row), vs = [.ref a] ∧ H a = some (.lst (adV rs)) ∧ Rows H rs ∧ rs.length ≤ 100 ∧ (∀ r ∈ rs, r.2.length ≤ 18 ∧ ∀ z ∈ r.2, isName z = true) ∧ LamX.Tabs (TL Pt) H ∧
  ∀ H', LamX.ExtN H H' → LamX.Tabs (TL Pt) H' → Q (.bl true) H'
theorem neD_at {X : Cx} {K : PySem.W.Frag} (h : X.K = K) (hu : X.A.units + 64 < cLine) : OpR X (compareOp .NotEq) (rNeD K) := by
  subst h
  exact op_neD hu
/-- the two functions of rows that it asks -/
structure TwoFn (K : PySem.W.Frag) (mg : Str → Option Value) (fA fI fG fO fW : Addr) (dA dI dG dO dW : FuncData) : Prop where
  A : Fun K "_law_all_fits" "_law_all_fits" sAll fA dA
  I : Fun K "in_order" "in_order" sInOrder fI dI
  G : Fun K "greatest_rows" "greatest_rows" sGreat fG dG
  O : Fun K "row_order" "row_order" sOrder fO dO
  W : Fun K "within" "within" sWithin fW dW
  bA : Binds K dA ["u", "v"] []
  bI : Binds K dI ["rows"] []
  bG : Binds K dG ["rows"] []
  bW : Binds K dW ["u", "v"] []
  kI : KBinds K dI ["rows"] ["rows"] Ka.snG Ka.snG
  kG : KBinds K dG ["rows"] ["rows"] Ka.snG Ka.snG
  gA : mg "_law_all_fits" = some (.ref fA)
  gI : mg "in_order" = some (.ref fI)
  gG : mg "greatest_rows" = some (.ref fG)
  gO : mg "row_order" = some (.ref fO)
  gW : mg "within" = some (.ref fW)
theorem ok_lists {f fA fI fG fO fW c Pt : Addr} {dA dI dG dO dW : FuncData} {oc dV kV doc pm ct : Value} {an od : Option Addr} {osl : Array (Option Value)}
    (lk : K.lookup f = some ⟨oc, od, .func (PySem.W.fnOf "_law_lists_right" "_law_lists_right" (defArgs sLists) (defBody sLists) (defScope sLists) dV kV doc pm an (.ref c) ct), osl⟩) (hcd : PySem.W.codeIn K (.ref c) "_law_lists_right" = true) (TB : LamX.TabB base mg c Pt)
    (T : TwoFn K mg fA fI fG fO fW dA dI dG dO dW) (N : Nones mg) : FnOk P w K mg base CX0 3 f (PySem.W.fnOf "_law_lists_right" "_law_lists_right" (defArgs sLists) (defBody sLists) (defScope sLists) dV kV doc pm an (.ref c) ct) ["rows"] (spLists K Pt) := by
  have GA : FnOk P w K mg base CX0 1 fA dA ["u", "v"] (spAll K) := ok_all T.A N.len N.range
  have GI : FnOk P w K mg base CX0 1 fI dI ["rows"] (spInO K) := ok_inO T.I T.O T.gO N.len N.tuple N.sorted
  have GG : FnOk P w K mg base CX0 2 fG dG ["rows"] (spGreat K) := ok_great T.G T.I T.bI T.gI T.O T.gO T.W T.bW T.gW N.len N.tuple N.sorted N.reversed N.any N.iter
  refine fn_of lk hcd scLists (fun vs H Q E h => ?_) (fun A outer s H vs Q E hr h => ?_)
  · obtain ⟨a, rs, rfl, _⟩ := h
    rfl
  · obtain ⟨a, rs, rfl, ea, hR, hz, hN, hT, q⟩ := h
    have hr1 := hr.mono (show 1 ≤ 2 by decide)
    have hu65 : (A.deeper (envOfC "_law_lists_right" (defScope sLists) s.heap.objs.size f (.ref c))).units + 65 < cLine := by
      have := hr.un
      omega
    suffices hs : ∃ t, PSs (cxOf CX0 P w K mg base nLists "_law_lists_right" (defScope sLists) f (.ref c) A outer s H E).nox (defBody sLists) t ∧ t { nx := fun _ H' => Q .non H', rt := Q } (L2.start nLists [.ref a]) H by
      obtain ⟨t, h1, h2⟩ := hs
      exact ⟨t, h1.nox, h2⟩
    refine ⟨_, pss_cons (ps_set (i := 1) scLists.nd rfl (.inl rfl) (pe_lst pa_nil))
      (pss_cons (ps_for PassesOwn.never rfl (pi_list (Ka.pe_sortedLam (T := TL Pt) (x := "one") hr hr.units (by rfl) N.sorted N.len (pv 0) TB rfl (lamIn Pt) (fun p hp _ => by rw [List.mem_singleton.mp hp]; exact lamName.symm) rfl (by decide +kernel) (fun _ _ _ _ _ _ => rfl) rfl rfl rfl (by decide +kernel) (by rfl) (by rfl) (by decide))) (pg_name (i := 2) scLists.nd rfl (.inr rfl))
        (pss_one (ps_if (pt_cmpR (op_notInD hu65) (pv 2) (pv 1) (by rfl)) (pss_one (ps_expr (pe_bm PySem.F.plainAttrs_list PySem.F.slot_list_append PySem.F.type_list_append mt_append (pv 1) (pa_cons (pv 2) pa_nil)))) pss_nil)))
      (pss_cons (ps_set (i := 3) scLists.nd rfl (.inl rfl) (pe_lst pa_nil))
      (pss_cons (ps_for PassesOwn.never rfl (pi_list (pv 1)) (pg_name (i := 2) scLists.nd rfl (.inr rfl))
        (pss_cons (ps_setLc (i := 4) (own := [("other", 6)]) (g := gName 6) (by rfl) scLists.nd rfl rfl (sw_true rfl rfl rfl (by decide +kernel)) (pi_list (pv 1)) (blkOk_by (own := [("other", 6)]) (N := nLists) (sc := defScope sLists) (by decide +kernel)) (fun _ _ _ _ _ => pg_name (i := 6) scLists.nd rfl (Or.inl rfl))
            (fun _ _ _ _ _ => pts_one (PW.pt (pw_and (pt_cmpR (neD_at (K := K) rfl hr.units) (pv 6) (pv 2) (nomark _)) (pw_and1 (pt_cmpR (neD_at (K := K) rfl hr.units) (pe_call GA hr1 (by rfl) T.gA T.A.kp T.bA .nil pass0 (pa_cons (pv 2) (pa_cons (pv 6) pa_nil))) (pe_lst pa_nil) (nomark _))))))
            (fun _ _ _ _ _ => pv 6))
        (pss_one (ps_if (pt_cmpR (op_eqD hr.units) (pv 4) (pe_lst pa_nil) (nomark _)) (pss_one (ps_expr (pe_bm PySem.F.plainAttrs_list PySem.F.slot_list_append PySem.F.type_list_append mt_append (pv 3) (pa_cons (pv 2) pa_nil)))) pss_nil))))
      (pss_cons (ps_set (i := 5) scLists.nd rfl (.inl rfl) (pe_callTy call_list_of (by rfl) N.list (by decide +kernel) (pa_cons (pv 0) pa_nil)))
      (pss_cons (ps_if (PW.pt (pw_or (pt_cmpR (op_neD hr.units) (pe_call GI hr1 (by rfl) T.gI T.I.kp T.bI .nil pass0 (pa_cons (pv 5) pa_nil)) (pe_callTy call_tuple_of (by rfl) N.tuple (by decide +kernel) (pa_cons (pv 1) pa_nil)) (nomark _))
          (pw_or (pt_cmpR (op_neD hr.units) (pe_call GG hr (by rfl) T.gG T.G.kp T.bG .nil pass0 (pa_cons (pv 5) pa_nil)) (pe_callTy call_tuple_of (by rfl) N.tuple (by decide +kernel) (pa_cons (pv 3) pa_nil)) (nomark _))
            (pw_or1 (pt_cmpR (op_neD hr.units) (pv 5) (pv 0) (nomark _)))))) (pss_one (ps_ret pe_bl)) pss_nil)
      (pss_one (ps_ret (pe_and (pe_cmpR (op_eqD hr.units) (Ka.pe_callK0 GI hr1 (by rfl) T.gI T.I.kp T.kI pass0 (pk_cons (pe_callTy call_tuple_of (by rfl) N.tuple (by decide +kernel) (pa_cons (pv 0) pa_nil)) pk_nil)) (pe_callTy call_tuple_of (by rfl) N.tuple (by decide +kernel) (pa_cons (pv 1) pa_nil)) (nomark _))
        (pe_one (pe_cmpR (op_eqD hr.units) (Ka.pe_callK0 GG hr (by rfl) T.gG T.G.kp T.kG pass0 (pk_cons (pe_callTy call_tuple_of (by rfl) N.tuple (by decide +kernel) (pa_cons (pv 0) pa_nil)) pk_nil)) (pe_callTy call_tuple_of (by rfl) N.tuple (by decide +kernel) (pa_cons (pv 3) pa_nil)) (nomark _))))))))))), ?_⟩
    refine ⟨Nat.zero_le _, fun o no => ?_⟩
    have s1000 : ∀ n, n ≤ 1000000 → n ≤ sizeLine := fun n h => smallE h
    have s0 := same_new (o := .lst []) no
    have names : ∀ r ∈ rs, ∀ z ∈ r.2, isName z = true := fun r hr => (hN r hr).2
    refine ⟨.ref a, rfl, a, rs, rfl, sqL_new (s0 _ _ ea), fun r hr => sqT_new (s0 _ _ (hR r hr)), hT.ext s0, fun H2 p eN T2 np => ?_⟩
    have x2 : LamX.ExtN H H2 := (LamX.ExtN.of s0).trans eN
    have sp_ := same_new (o := .lst (adV (rs.mergeSort Ka.leRow))) np
    generalize hH3 : upd H2 p (.lst ((rs.mergeSort Ka.leRow).map fun r => V.ref r.1)) = H3
    have s3 : Same H2 H3 := by rw [← hH3]; exact sp_
    have T3 : LamX.Tabs (TL Pt) H3 := T2.ext s3
    have x3 : LamX.ExtN H H3 := x2.trans (LamX.ExtN.of s3)
    have ep3 : H3 p = some (.lst (adV (rs.mergeSort Ka.leRow))) := by rw [← hH3, upd_same]; rfl
    have eo3 : H3 o = some (.lst []) := s3 _ _ (eN _ _ upd_same (fun ps z => by cases z))
    have ea3 : H3 a = some (.lst (adV rs)) := x3 _ _ ea (fun ps z => by cases z)
    have hR3 : Rows H3 rs := fun r hr => x3 _ _ (hR r hr) (fun ps z => by cases z)
    have hpo : p ≠ o := fun w => by
      have h1 := eN _ _ (upd_same (H := H) (a := o) (o := .lst [])) (fun ps z => by cases z)
      rw [← w, np] at h1
      cases h1
    have hao : a ≠ o := ne_of_none ea no
    have hro : ∀ r ∈ rs, r.1 ≠ o := fun r hr => ne_of_none (hR r hr) no
    have memS : ∀ r, r ∈ rs.mergeSort Ka.leRow ↔ r ∈ rs := fun r => List.mem_mergeSort
    have eS : (rs.mergeSort Ka.leRow).map (·.2) = (rs.map (·.2)).mergeSort Ka.rowLe := PySem.W.sort_maps (fun r : Ka.Row => r.2) fun _ _ _ _ => rfl
    refine ⟨p, rfl, ⟨_, sqL_new ep3⟩, for_list (K := K) (a := p) (xs := adV (rs.mergeSort Ka.leRow)) (fun i σ H' => ∃ d2 ds, σ = [some (.ref a), some (.ref o), d2, none, none, none, none] ∧ But o H3 H' ∧ H' o = some (.lst (adV ds)) ∧ (∀ r ∈ ds, r ∈ rs) ∧ ds.map (·.2) = nub (((rs.mergeSort Ka.leRow).take i).map (·.2)))
      ⟨none, [], rfl, But.refl, eo3, (fun r hr => by cases hr), rfl⟩ (fun i σ H' _ ⟨_, _, _, k, _⟩ => sqL_new (k _ _ hpo ep3)) ?_ ?_⟩
    · rintro i x σ H' hx ⟨d2, ds, rfl, k, eo, hds, eds⟩
      obtain ⟨r, hr, rfl⟩ := get_map hx
      have hrm := (memS r).mp (List.mem_of_getElem? hr)
      have hRb : ∀ g ∈ rs, H' g.1 = some (.tup (g.2.map V.str)) := fun g hg => k _ _ (hro g hg) (hR3 g hg)
      have hdl : ds.length ≤ 100 := by
        have e1 := congrArg List.length eds
        have e2 := nub_len (((rs.mergeSort Ka.leRow).take i).map (·.2))
        rw [List.length_map] at e1 e2
        have e3 := List.length_take_le' i (rs.mergeSort Ka.leRow)
        rw [List.length_mergeSort] at e3
        omega
      have etk : ((rs.mergeSort Ka.leRow).take (i + 1)).map (·.2) = ((rs.mergeSort Ka.leRow).take i).map (·.2) ++ [r.2] := by
        rw [take_of_get hr, List.map_append]
        rfl
      refine ⟨.ref r.1, rfl, .ref o, rfl, Ka.rowD r.2, _, dpR (hRb r hrm), .lst (sqL_new eo) (dpRows fun g hg => hRb g (hds g hg)), shR (names r hrm), (shRows (fun q hq z hz => by
        obtain ⟨g, hg, rfl⟩ := List.mem_map.mp hq
        exact names g (hds g hg) z hz)).1, ?_⟩
      rw [any_row]
      refine ⟨_, rfl, ?_⟩
      by_cases hm : r.2 ∈ ds.map (·.2)
      · rw [decide_eq_true hm]
        refine iteF ⟨_, ds, rfl, k, eo, hds, ?_⟩
        rw [etk, nub_snoc, ← eds, if_pos hm]
      · rw [decide_eq_false hm]
        refine iteT ⟨.ref o, rfl, .inl ⟨rfl, _, sqL_new eo⟩, .ref r.1, rfl, o, _, _, rfl, rfl, eo, ?_, _, ds ++ [r], rfl, k.trans But.upd, ?_, fun g hg => ?_, ?_⟩
        · unfold adV
          rw [List.length_map]
          exact small (by omega)
        · rw [upd_same]
          unfold adV
          rw [List.map_append]
          rfl
        · rcases List.mem_append.mp hg with h | h
          · exact hds g h
          · rw [List.mem_singleton.mp h]
            exact hrm
        · rw [etk, nub_snoc, ← eds, if_neg hm, List.map_append]
          rfl
    · rintro σ H4 ⟨d2, ds, rfl, k4, eo4, hds, eds⟩
      have eL : ds.map (·.2) = ordR (rs.map (·.2)) := by
        have e1 : (rs.mergeSort Ka.leRow).take (adV (rs.mergeSort Ka.leRow)).length = rs.mergeSort Ka.leRow := List.take_of_length_le (by unfold adV; rw [List.length_map]; exact Nat.le_refl _)
        rw [eds, e1, eS, nub_sort]
      have hdl : ds.length ≤ 100 := by
        have e1 := congrArg List.length eL
        have e2 := nub_len (rs.map (·.2))
        unfold ordR at e1
        rw [List.length_map, List.length_mergeSort] at e1
        rw [List.length_map] at e2
        omega
      have hR4 : ∀ g ∈ rs, H4 g.1 = some (.tup (g.2.map V.str)) := fun g hg => k4 _ _ (hro g hg) (hR3 g hg)
      have ea4 := k4 _ _ hao ea3
      have T4 : LamX.Tabs (TL Pt) H4 := tabs_but T3 eo3 k4
      have x4 : LamX.ExtN H H4 := fun b u e n => k4 _ _ (ne_of_none e no) (x3 b u e n)
      refine ⟨Nat.zero_le _, fun t nt => ?_⟩
      have s5 := same_new (o := .lst []) nt
      generalize hH5 : upd H4 t (.lst []) = H5 at s5
      have et5 : H5 t = some (.lst []) := by rw [← hH5, upd_same]
      have eo5 := s5 _ _ eo4
      have hot : o ≠ t := ne_of_none eo4 nt
      have hR5 : ∀ g ∈ rs, H5 g.1 = some (.tup (g.2.map V.str)) := fun g hg => s5 _ _ (hR4 g hg)
      have hrt : ∀ g ∈ rs, g.1 ≠ t := fun g hg => ne_of_none (hR4 g hg) nt
      have hat : a ≠ t := ne_of_none ea4 nt
      have T5 : LamX.Tabs (TL Pt) H5 := T4.ext s5
      have x5 : LamX.ExtN H H5 := x4.trans (LamX.ExtN.of s5)
      refine ⟨.ref o, rfl, o, rfl, ⟨_, sqL_new eo5⟩, for_list (K := K) (a := o) (xs := adV ds) (fun j σ H' => ∃ d2 d4 ts, σ = [some (.ref a), some (.ref o), d2, some (.ref t), d4, none, none] ∧ But t H5 H' ∧ H' t = some (.lst (adV ts)) ∧ (∀ r ∈ ts, r ∈ ds) ∧ ts.map (·.2) = ((ds.take j).map (·.2)).filter (great (ordR (rs.map (·.2)))))
        ⟨d2, none, [], rfl, But.refl, et5, (fun r hr => by cases hr), rfl⟩ (fun j σ H' _ ⟨_, _, _, _, k, _⟩ => sqL_new (k _ _ hot eo5)) ?_ ?_⟩
      · rintro j x σ H' hx ⟨d2, d4, ts, rfl, k, et, hts, ets⟩
        obtain ⟨r, hr, rfl⟩ := get_map hx
        have hrd := List.mem_of_getElem? hr
        have hrm := hds r hrd
        have hRb : ∀ g ∈ rs, H' g.1 = some (.tup (g.2.map V.str)) := fun g hg => k _ _ (hrt g hg) (hR5 g hg)
        have eob := k _ _ hot eo5
        have etk : (ds.take (j + 1)).map (·.2) = (ds.take j).map (·.2) ++ [r.2] := by
          rw [take_of_get hr, List.map_append]
          rfl
        refine ⟨.ref o, rfl, o, rfl, ⟨_, sqL_new eob⟩, fun D nD => ?_⟩
        refine lc_list (K := K) (a := o) (xs := adV ds) (fun m H6 => Same H' H6 ∧ ∃ hs, H6 D = some (.lst (adV hs)) ∧ (∀ g ∈ hs, g ∈ ds) ∧ hs.length ≤ m ∧ hs.map (·.2) = ((ds.take m).map (·.2)).filter fun q => !decide (q = r.2) && sub r.2 q)
          ⟨same_new nD, [], upd_same, (fun g hg => by cases hg), Nat.le_refl _, rfl⟩ (fun m H6 _ h6 => sqL_new (h6.1 _ _ eob)) (fun m x H6 hm h6 => ?_) (fun H6 h6 => ?_)
        · obtain ⟨g, hg, rfl⟩ := get_map hm
          obtain ⟨s6, hs, eD, hhs, hhl, ehs⟩ := h6
          have hgd := List.mem_of_getElem? hg
          have hgm := hds g hgd
          have etm : (ds.take (m + 1)).map (·.2) = (ds.take m).map (·.2) ++ [g.2] := by
            rw [take_of_get hg, List.map_append]
            rfl
          have hml := lt_of_get hg
          refine ⟨rfl, ?_⟩
          refine ⟨.ref g.1, rfl, .ref r.1, rfl, Ka.rowD g.2, Ka.rowD r.2, dpR (s6 _ _ (hRb g hgm)), dpR (s6 _ _ (hRb r hrm)), shR (names g hgm), shR (names r hrm), ?_⟩
          rw [eqR]
          refine ⟨_, rfl, ?_⟩
          have no_ : (!decide (g.2 = r.2) && sub r.2 g.2) = false → ∀ H7, Same H6 H7 → Same H' H7 ∧ ∃ hs, H7 D = some (.lst (adV hs)) ∧ (∀ g ∈ hs, g ∈ ds) ∧ hs.length ≤ m + 1 ∧ hs.map (·.2) = ((ds.take (m + 1)).map (·.2)).filter fun q => !decide (q = r.2) && sub r.2 q := fun e H7 s7 => by
            refine ⟨s6.trans s7, hs, s7 _ _ eD, hhs, by omega, ?_⟩
            rw [etm, List.filter_append, List.filter_cons_of_neg (by rw [e]; exact Bool.false_ne_true), List.filter_nil, List.append_nil]
            exact ehs
          by_cases hgr : g.2 = r.2
          · rw [decide_eq_true hgr]
            refine iteF ?_
            exact no_ (by rw [decide_eq_true hgr]; rfl) H6 fun _ _ h => h
          · rw [decide_eq_false hgr] at no_ ⊢
            refine iteT ?_
            refine ⟨.ref r.1, rfl, .ref g.1, rfl, r.1, g.1, r.2, g.2, rfl, sqT_new (s6 _ _ (hRb r hrm)), sqT_new (s6 _ _ (hRb g hgm)), Nat.le_trans (hN r hrm).1 (by decide), (hN g hgm).1, fun H7 p7 fs s7 np7 ep7 hF7 ef7 => ?_⟩
            refine ⟨Nat.zero_le _, fun l nl => ?_⟩
            have s8 := same_new (o := .lst []) nl
            refine ⟨.list ((Ka.allFits r.2 g.2).map natD), .list (([] : List (List Nat)).map natD), ?_, .lst (sqL_new upd_same) .nil, shFs _, shFs [], ?_⟩
            · rw [← ef7]
              exact .lst (sqL_new (s8 _ _ ep7)) (dpFs (hF7.mono s8))
            · rw [eqFs]
              refine ⟨_, rfl, ?_⟩
              by_cases hL : Ka.allFits r.2 g.2 = []
              · rw [decide_eq_true hL]
                refine iteF ?_
                refine no_ ?_ _ (s7.trans s8)
                cases e : sub r.2 g.2 with
                | false => rfl
                | true => exact absurd hL ((fits_sub r.2 g.2).mpr e)
              · rw [decide_eq_false hL]
                refine iteT ?_
                refine ⟨.ref g.1, rfl, adV hs, s8 _ _ (s7 _ _ eD), ?_, fun cc u e => ?_, hs ++ [g], ?_, fun q hq => ?_, ?_, ?_⟩
                · unfold adV
                  rw [List.length_map]
                  exact small (by omega)
                · rw [upd_ne (ne_of_none e nD)]
                  exact s8 _ _ (s7 _ _ (s6 _ _ e))
                · rw [upd_same]
                  unfold adV
                  rw [List.map_append]
                  rfl
                · rcases List.mem_append.mp hq with h | h
                  · exact hhs q h
                  · rw [List.mem_singleton.mp h]
                    exact hgd
                · rw [List.length_append, List.length_singleton]
                  omega
                · rw [etm, List.filter_append, List.filter_cons_of_pos (by rw [decide_eq_false hgr, (fits_sub r.2 g.2).mp hL]; rfl), List.filter_nil, List.map_append, ehs]
                  rfl
        · obtain ⟨s6, hs, eD, hhs, hhl, ehs⟩ := h6
          have e1 : ds.take (adV ds).length = ds := List.take_of_length_le (by unfold adV; rw [List.length_map]; exact Nat.le_refl _)
          rw [e1, eL] at ehs
          refine ⟨.ref D, rfl, Nat.zero_le _, fun l nl => ?_⟩
          have s8 := same_new (o := .lst []) nl
          have hRD : Rows (upd H6 l (.lst [])) hs := fun g hg => s8 _ _ (s6 _ _ (hRb g (hds g (hhs g hg))))
          refine ⟨.list ((hs.map (·.2)).map Ka.rowD), .list (([] : List (List Str)).map Ka.rowD), .lst (sqL_new (s8 _ _ eD)) (dpRows hRD), .lst (sqL_new upd_same) .nil, (shRows (fun q hq z hz => by
            obtain ⟨g, hg, rfl⟩ := List.mem_map.mp hq
            exact names g (hds g (hhs g hg)) z hz)).1, (shRows (fun q hq => by cases hq)).1, ?_⟩
          have eE : PyData.eqv (.list ((hs.map (·.2)).map Ka.rowD)) (.list (([] : List (List Str)).map Ka.rowD)) = great (ordR (rs.map (·.2))) r.2 := by
            rw [PyData.eqv, eqRows, ehs, great_nil]
          rw [eE]
          refine ⟨_, rfl, ?_⟩
          have ets' := s8 _ _ (s6 _ _ et)
          have tl : ts.length ≤ 100 := by
            have e2 := congrArg List.length ets
            have e3 := List.length_filter_le (great (ordR (rs.map (·.2)))) ((ds.take j).map (·.2))
            rw [List.length_map] at e2 e3
            have e4 := List.length_take_le' j ds
            omega
          cases hg : great (ordR (rs.map (·.2))) r.2 with
          | false =>
            refine iteF ⟨_, _, ts, rfl, k.trans (But.of (s6.trans s8)), ets', hts, ?_⟩
            rw [etk, List.filter_append, List.filter_cons_of_neg (by rw [hg]; exact Bool.false_ne_true), List.filter_nil, List.append_nil]
            exact ets
          | true =>
            refine iteT ⟨.ref t, rfl, .inl ⟨rfl, _, sqL_new ets'⟩, .ref r.1, rfl, t, _, _, rfl, rfl, ets', ?_, _, _, ts ++ [r], rfl, (k.trans (But.of (s6.trans s8))).trans But.upd, ?_, fun g hg => ?_, ?_⟩
            · unfold adV
              rw [List.length_map]
              exact small (by omega)
            · rw [upd_same]
              unfold adV
              rw [List.map_append]
              rfl
            · rcases List.mem_append.mp hg with h | h
              · exact hts g h
              · rw [List.mem_singleton.mp h]
                exact hrd
            · rw [etk, List.filter_append, List.filter_cons_of_pos hg, List.filter_nil, List.map_append, ets]
              rfl
      · rintro σ H6 ⟨d2, d4, ts, rfl, k6, et6, hts, ets⟩
        have e1 : ds.take (adV ds).length = ds := List.take_of_length_le (by unfold adV; rw [List.length_map]; exact Nat.le_refl _)
        rw [e1, eL] at ets
        have hR6 : ∀ g ∈ rs, H6 g.1 = some (.tup (g.2.map V.str)) := fun g hg => k6 _ _ (hrt g hg) (hR5 g hg)
        have eo6 := k6 _ _ hot eo5
        have ea6 := k6 _ _ hat (s5 _ _ ea4)
        have T6 : LamX.Tabs (TL Pt) H6 := tabs_but T5 et5 k6
        have x6 : LamX.ExtN H H6 := fun b u e n => by
          have e4 := x4 b u e n
          exact k6 _ _ (ne_of_none e4 nt) (s5 _ _ e4)
        have DT : ∀ (H' : Hp) (p : Addr) (qs : List Ka.Row), H' p = some (.tup (adV qs)) → Rows H' qs → Dp K H' (.ref p) (.tuple ((qs.map (·.2)).map Ka.rowD)) := fun H' p qs e h => .tup (sqT_new e) (dpRows h)
        have nmR : ∀ q ∈ rs.map (·.2), ∀ z ∈ q, isName z = true := fun q hq => by
          obtain ⟨g, hg, rfl⟩ := List.mem_map.mp hq
          exact names g hg
        have nmO : ∀ q ∈ ordR (rs.map (·.2)), ∀ z ∈ q, isName z = true := fun q hq => nmR q (mem_ordR.mp hq)
        have nmT : ∀ q ∈ topR (rs.map (·.2)), ∀ z ∈ q, isName z = true := fun q hq => nmO q (List.mem_filter.mp hq).1
        have eTop : ts.map (·.2) = topR (rs.map (·.2)) := ets
        refine ⟨.ref a, rfl, a, _, rfl, .inl (sqL_new ea6), fun h nh => ?_⟩
        have s7 := same_new (o := .lst (adV rs)) nh
        have eh7 : upd H6 h (.lst (adV rs)) h = some (.lst (adV rs)) := upd_same
        generalize upd H6 h (.lst (adV rs)) = H7 at s7 eh7 ⊢
        have hR7 : Rows H7 rs := fun g hg => s7 _ _ (hR6 g hg)
        -- in_order(handed) != tuple(due)
        refine ⟨.ref h, rfl, h, rs, rfl, .inl (sqL_new eh7), hR7, by omega, fun H8 p8 q8 s8 np8 ep8 eq8 hR8 => ?_⟩
        have s78 := s7.trans s8
        refine ⟨.ref o, rfl, o, _, rfl, .inl ⟨sqL_new (s78 _ _ eo6), fun l9 nl9 => ?_⟩⟩
        have s9 := same_new (o := .tup (adV ds)) nl9
        have s79 := s78.trans s9
        refine ⟨_, _, DT _ _ _ (s9 _ _ ep8) (hR8.mono s9), DT _ _ _ upd_same (fun g hg => s79 _ _ (hR6 g (hds g hg))), (shRows (by rw [eq8]; exact nmO)).2, (shRows (by rw [eL]; exact nmO)).2, ?_⟩
        rw [PyData.eqv, eqRows, eq8, eL, decide_eq_true rfl]
        refine ⟨_, rfl, iteF ?_⟩
        have r9 := s8.trans s9
        generalize upd H8 l9 (.tup (adV ds)) = H9 at r9 ⊢
        -- greatest_rows(handed) != tuple(top)
        have dsR : ∀ (H' : Hp), Same H7 H' → Rows H' ds := fun H' r g hg => r _ _ (s7 _ _ (hR6 g (hds g hg)))
        have tsR : ∀ (H' : Hp), Same H7 H' → Rows H' ts := fun H' r g hg => r _ _ (s7 _ _ (hR6 g (hds g (hts g hg))))
        refine ⟨.ref h, rfl, h, rs, rfl, .inl (sqL_new (r9 _ _ eh7)), hR7.mono r9, by omega, fun H10 p10 q10 s10 np10 ep10 eq10 hR10 => ?_⟩
        have r10 := r9.trans s10
        refine ⟨.ref t, rfl, t, _, rfl, .inl ⟨sqL_new (r10 _ _ (s7 _ _ et6)), fun l11 nl11 => ?_⟩⟩
        have s11 := same_new (o := .tup (adV ts)) nl11
        have r11 := r10.trans s11
        refine ⟨_, _, DT _ _ _ (s11 _ _ ep10) (hR10.mono s11), DT _ _ _ upd_same (tsR _ r11), (shRows (by rw [eq10]; exact nmT)).2, (shRows (by rw [eTop]; exact nmT)).2, ?_⟩
        rw [PyData.eqv, eqRows, eq10, eTop, decide_eq_true rfl]
        refine ⟨_, rfl, iteF ?_⟩
        generalize upd H10 l11 (.tup (adV ts)) = H11 at r11 ⊢
        -- handed != rows
        refine ⟨.ref h, rfl, .ref a, rfl, .list ((rs.map (·.2)).map Ka.rowD), .list ((rs.map (·.2)).map Ka.rowD), .lst (sqL_new (r11 _ _ eh7)) (dpRows (hR7.mono r11)), .lst (sqL_new (r11 _ _ (s7 _ _ ea6))) (dpRows (hR7.mono r11)), (shRows nmR).1, (shRows nmR).1, ?_⟩
        rw [PyData.eqv, eqRows, decide_eq_true rfl]
        refine ⟨_, rfl, iteF ?_⟩
        -- in_order(rows=tuple(rows)) == tuple(due)
        refine ⟨.ref a, rfl, a, _, rfl, .inl ⟨sqL_new (r11 _ _ (s7 _ _ ea6)), fun l12 nl12 => ?_⟩⟩
        have r12 := r11.trans (same_new (o := .tup (adV rs)) nl12)
        refine ⟨l12, rs, rfl, .inr (sqT_new upd_same), hR7.mono r12, by omega, fun H13 p13 q13 s13 np13 ep13 eq13 hR13 => ?_⟩
        have r13 := r12.trans s13
        refine ⟨.ref o, rfl, o, _, rfl, .inl ⟨sqL_new (r13 _ _ (s7 _ _ eo6)), fun l14 nl14 => ?_⟩⟩
        have s14 := same_new (o := .tup (adV ds)) nl14
        have r14 := r13.trans s14
        refine ⟨_, _, DT _ _ _ (s14 _ _ ep13) (hR13.mono s14), DT _ _ _ upd_same (dsR _ r14), (shRows (by rw [eq13]; exact nmO)).2, (shRows (by rw [eL]; exact nmO)).2, ?_⟩
        rw [PyData.eqv, eqRows, eq13, eL, decide_eq_true rfl]
        refine ⟨true, rfl, iteT ?_⟩
        generalize upd H13 l14 (.tup (adV ds)) = H14 at r14 ⊢
        refine ⟨.ref a, rfl, a, _, rfl, .inl ⟨sqL_new (r14 _ _ (s7 _ _ ea6)), fun l15 nl15 => ?_⟩⟩
        have r15 := r14.trans (same_new (o := .tup (adV rs)) nl15)
        refine ⟨l15, rs, rfl, .inr (sqT_new upd_same), hR7.mono r15, by omega, fun H16 p16 q16 s16 np16 ep16 eq16 hR16 => ?_⟩
        have r16 := r15.trans s16
        refine ⟨.ref t, rfl, t, _, rfl, .inl ⟨sqL_new (r16 _ _ (s7 _ _ et6)), fun l17 nl17 => ?_⟩⟩
        have s17 := same_new (o := .tup (adV ts)) nl17
        have r17 := r16.trans s17
        refine ⟨_, _, DT _ _ _ (s17 _ _ ep16) (hR16.mono s17), DT _ _ _ upd_same (tsR _ r17), (shRows (by rw [eq16]; exact nmT)).2, (shRows (by rw [eTop]; exact nmT)).2, ?_⟩
        rw [PyData.eqv, eqRows, eq16, eTop, decide_eq_true rfl]
        exact q _ (x6.trans (LamX.ExtN.of (s7.trans r17))) (T6.ext (s7.trans r17))
end
end Kb
namespace Kb
open PySem PySem.Spec PyProof.Rows L2
/-! ### isinstance of a caught error that has fields -/
def rIsX (K : PySem.W.Frag) (C a : Addr) (cls : Value) (d : Option Addr) : List V → Hp → VK → Prop := fun xs H Q => ∃ (c : V) (cv : Value) (b : Bool) (dd : Addr) (fs : List (Str × V)), xs = [.ref a, c] ∧ cls = .ref C ∧ (∀ u, RelV c u → u = cv) ∧ d = some dd ∧ H dd = some (.xd fs) ∧ PySem.W.kitOne K (.ref C) cv = some b ∧ Q (.bl b) H
theorem call_isX {X : Cx} {a C : Addr} {oe : Obj} {cls : Value} {d : Option Addr} {pn : List (Addr × Obj)} (T : ExcC X.K C) (hcl : (PySem.W.clsIn X.K C).isSome = true) (hz : Zc cls d oe) (hf : ∃ vs, oe.data = .fields vs) : CallR (X.suite a ((a, oe) :: pn)) (.builtin "isinstance") (rIsX X.K C a cls d) := by
  intro pins s σ H xs us Q I r h
  obtain ⟨c, cv, b, dd, fs, rfl, rfl, hcv, rfl, ed, e, q⟩ := h
  obtain ⟨u1, u2, rfl, r1, r2⟩ := vals2 r
  obtain rfl := hcv _ r2
  obtain rfl : u1 = Value.ref a := r1
  obtain ⟨hget, _⟩ := I.pin (a, oe) (List.mem_append.mpr (.inl List.mem_cons_self))
  obtain ⟨vs, hv⟩ := hf
  obtain ⟨mA, hns, _⟩ := (show ObjOk X.prog X.w H s.heap dd (.xd fs) from I.hok dd _ ed)
  obtain ⟨od, ho, _⟩ := lookIn_ns hns
  have J : PySem.W.InstAt s.heap a oe C (some od) := by
    refine ⟨hget, hz.1, ?_, ?_⟩
    · unfold PySem.W.notCls
      rw [hv] <;> rfl
    · rw [hz.2]
      exact ho
  exact PySem.W.kia_one (PySem.W.kitx_exc hcl T.hg T.hk T.hs T.ha T.hn T.ht T.hm) I.kIn J e (fun z => nomatch z) fun tk => ⟨.bl b, H, I.kept (t' := tk) fun _ _ z => z, rfl, q⟩
/-! ### what check_row answers -/
def CheckAns (K : PySem.W.Frag) (H : Hp) (v : V) : Option Int → Prop
  | none => ∃ (a : Addr) (xs : List V), v = .ref a ∧ TyX K H (.ref a) (.type "tuple") ∧ SqT K H a xs ∧ (∀ x ∈ xs, Asked K H x) ∧ xs.length ≤ 400 ∧ ∀ x ∈ xs, okV x = true
  | some z => (z = -1 ∧ ∃ t : String, TyX K H v (.type t) ∧ kitB t "tuple" = some false) ∨
    ∃ (a : Addr) (xs : List V) (i : Nat) (x : V), v = .ref a ∧ TyX K H (.ref a) (.type "tuple") ∧ SqT K H a xs ∧ (∀ x ∈ xs, Asked K H x) ∧ z = (i : Nat) ∧ xs[i]? = some x ∧ (∀ (j : Nat) (y : V), j < i → xs[j]? = some y → okV y = true) ∧ i ≤ 400 ∧ (i = 400 ∨ okV x = false)
theorem check_of {K : PySem.W.Frag} {C : Addr} {H : Hp} {v : V} {o : Option Int} {Q : VK} {E : XK} (h : CheckAns K H v o) (q : o = none → ∀ H', Same H H' → Q .non H') (r : ∀ z, o = some z → Refuse C E H z) : spCheck K C [v] H Q E := by
  refine ⟨v, rfl, ?_⟩
  cases o with
  | none =>
    obtain ⟨a, xs, rfl, ty, hA, ask, hl, ok⟩ := h
    refine .inr ⟨a, xs, rfl, ty, hA, ask, fun _ _ => q rfl, fun i x hx _ _ bad => ?_⟩
    have h1 := lt_of_get hx
    rcases bad with e | e
    · omega
    · rw [ok x (List.mem_of_getElem? hx)] at e
      cases e
  | some z =>
    rcases h with ⟨rfl, t, ty, hk⟩ | ⟨a, xs, i, x, rfl, ty, hA, ask, rfl, hx, before, h400, bad⟩
    · exact .inl ⟨t, ty, hk, r _ rfl⟩
    · refine .inr ⟨a, xs, rfl, ty, hA, ask, fun hl ok => ?_, fun i' x' hx' before' h400' bad' => ?_⟩
      · have h1 := lt_of_get hx
        rcases bad with e | e
        · omega
        · rw [ok x (List.mem_of_getElem? hx)] at e
          cases e
      · have e : i' = i := by
          by_cases h1 : i' < i
          · have h2 := before i' x' h1 hx'
            rcases bad' with e | e
            · omega
            · rw [h2] at e
              cases e
          · by_cases h3 : i < i'
            · have h2 := before' i x h3 hx
              rcases bad with e | e
              · omega
              · rw [h2] at e
                cases e
            · omega
        rw [e]
        exact r _ rfl
/-- what _law_refused tells -/
def resV : Option Int → List V
  | none => [.str "told", .non]
  | some z => [.str "refused", .int z, .bl true]
section
variable {P : Program} {w : World} {K : PySem.W.Frag} {mg : Str → Option Value} {base : Heap}
theorem at_field (z : Int) : List.lookup ("at" : Str) [(("at" : Str), V.int z)] = some (V.int z) := by
  rw [List.lookup_cons]
  have : ((("at" : Str)) == ("at" : Str)) = true := by decide +kernel
  rw [this]
theorem scRefused : FnScope ["value", "told", "error"] ["value"] (defScope sRefused) := ⟨rfl, rfl, rfl, by decide +kernel, rfl, by decide +kernel, by decide +kernel⟩
def spRefused (K : PySem.W.Frag) : Sp := fun vs H Q _ => ∃ (v : V) (o : Option Int), vs = [v] ∧ CheckAns K H v o ∧ ∀ H' p, Same H H' → H p = none → H' p = some (.tup (resV o)) → Q (.ref p) H'
/-- what more the written part says of the class InvalidRow at C and of StillError at S -/
structure CatchC (K : PySem.W.Frag) (mg : Str → Option Value) (C S : Addr) : Prop where
  te : PySem.W.exmOne K (.ref C) (.ref C) = some true
  xf : XfC K C
  is : ExcC K C
  cl : (PySem.W.clsIn K C).isSome = true
  gS : mg "StillError" = some (.ref S)
  kS : PySem.W.kitOne K (.ref C) (.ref S) = some true
  kV : PySem.W.kitOne K (.ref C) (.type "ValueError") = some true
/-- check_row with all that it rests on -/
structure CheckFn (K : PySem.W.Frag) (mg : Str → Option Value) (C fI fC fN fL : Addr) (dI dC dN dL : FuncData) : Prop where
  R : RowC K mg C fI dI
  C_ : Fun K "check_row" "check_row" sCheck fC dC
  N : Fun K "is_name" "is_name" sName fN dN
  L : Fun K "is_letter" "is_letter" sLetter fL dL
  bC : Binds K dC ["row"] []
  bN : Binds K dN ["value"] []
  bL : Binds K dL ["sign"] []
  gC : mg "check_row" = some (.ref fC)
  gN : mg "is_name" = some (.ref fN)
  gL : mg "is_letter" = some (.ref fL)
  t5 : ∃ t, mg "LONGEST_NAME" = some (.int 5 t)
  t400 : ∃ t, mg "LONGEST_ROW" = some (.int 400 t)
theorem ok_refused {f C S fI fC fN fL : Addr} {fd dI dC dN dL : FuncData} (F : Fun K "_law_refused" "_law_refused" sRefused f fd) (T : CheckFn K mg C fI fC fN fL dI dC dN dL) (Z : CatchC K mg C S)
    (mi : mg "isinstance" = none) (ms : mg "str" = none) (ml : mg "len" = none) (ma : mg "all" = none) (mt : mg "tuple" = none) (me : mg "enumerate" = none) (mv : mg "ValueError" = none) : FnOk P w K mg base CX0 5 f fd ["value"] (spRefused K) := by
  obtain ⟨t1, g5⟩ := T.t5
  obtain ⟨t2, g400⟩ := T.t400
  have GC : FnOk P w K mg base (L2.CX P w) 3 fC dC ["row"] (spCheck K C) := ok_check T.C_ T.R T.N T.bN T.gN T.L T.bL T.gL g5 g400 mi ms ml ma mt me
  refine F.ok scRefused (fun vs H Q E h => ?_) (fun cdv A outer s H vs Q E hr h => ?_)
  · obtain ⟨v, o, rfl, _⟩ := h
    rfl
  · obtain ⟨v, o, rfl, hc, q⟩ := h
    refine ⟨_, pss_cons (ps_try_as (i := 2) (tb := fun W => tAsg (tCallS (spCheck K C) (WE W) (tCons (tVar 0) tNil)) (gName 1))
        (ts := fun a cls d => tRet (tTup (tCons (tC (.str "refused")) (tCons (tXf a cls d C "at" (tVar 2)) (tCons (tAndV (tCB (rIsX K C a cls d) (tCons (tVar 2) (tCons (tC (.ref S)) tNil))) (tCB (rIsX K C a cls d) (tCons (tVar 2) (tCons (tC (.ty "ValueError")) tNil)))) tNil))))) (Wout := fun _ _ _ _ => False) rfl rfl scRefused.nd rfl rfl ⟨rfl, by decide, .inl T.R.gC⟩ takes0
        (fun W pn xe tk _ => pss_one (ps_set (i := 1) scRefused.nd rfl (.inl rfl) (by exact (pe_callS GC (hr.mono (by decide)) rfl T.gC T.C_.kp T.bC (fun σ => passAt tk σ) (by exact (pa_cons (pv 0) pa_nil))))))
        (fun a oe cls d pn hz hf => pss_one (ps_ret (pe_tup (pa_cons pe_str (pa_cons (pe_xf Z.xf T.R.no hz hf (pv 2)) (pa_cons (pe_and (pe_callB (call_isX Z.is Z.cl hz hf) (by rfl) mi (by decide +kernel) (pa_cons (pv 2) (pa_cons (pe_glob (v := .ref S) rfl Z.gS rfl) pa_nil)))
            (pe_one (pe_callB (call_isX Z.is Z.cl hz hf) (by rfl) mi (by decide +kernel) (pa_cons (pv 2) (pa_cons (pe_bltn (v := .ty "ValueError") (by rfl) mv (by decide +kernel) rfl) pa_nil))))) pa_nil)))))))
      (pss_one (ps_ret (pe_tup (pa_cons pe_str (pa_cons (pv 1) pa_nil))))), ?_⟩
    refine ⟨v, rfl, ?_⟩
    dsimp only [tNil]
    refine check_of hc (fun e H' s' => ?_) (fun z e H' d s' nd ed => ?_)
    · subst e
      refine ⟨.non, rfl, smallE (by decide), fun p np => ?_⟩
      exact q _ p (s'.trans (same_new np)) (s'.free np) upd_same
    · subst e
      refine ⟨true, Z.te, fun _ a na => ?_, fun w => Bool.noConfusion w⟩
      refine ⟨.ref a, rfl, rfl, rfl, d, _, .int z, rfl, ed, at_field z, ?_⟩
      refine ⟨.ref a, rfl, .ref S, .ref S, true, d, _, rfl, rfl, (fun u h => h), rfl, ed, Z.kS, true, rfl, iteT ?_⟩
      refine ⟨.ref a, rfl, .ty "ValueError", .type "ValueError", true, d, _, rfl, rfl, (fun u h => h), rfl, ed, Z.kV, ?_⟩
      refine ⟨smallE (by show 3 ≤ 1000000; decide), fun p np => ?_⟩
      exact q _ p (s'.trans (same_new np)) (s'.free np) upd_same
end
end Kb
namespace Kb
/-! ### a long row of two deeds by turns -/
section
variable {α : Type} [DecidableEq α]
def alt (a b : α) : Nat → List α
  | 0 => []
  | n + 1 => alt a b n ++ [a, b]
theorem alt_len (a b : α) : ∀ n, (alt a b n).length = 2 * n
  | 0 => rfl
  | n + 1 => by
    rw [alt, List.length_append, alt_len a b n]
    rfl
theorem alt_flat (a b : α) : ∀ n, (List.replicate n [a, b]).flatten = alt a b n
  | 0 => rfl
  | n + 1 => by
    rw [alt, List.replicate_succ', List.flatten_append, alt_flat a b n]
    rfl
theorem alt_cons (a b : α) : ∀ n, alt a b (n + 1) = a :: b :: alt a b n
  | 0 => rfl
  | n + 1 => by
    have h1 : alt a b (n + 1 + 1) = alt a b (n + 1) ++ [a, b] := rfl
    have h2 : alt a b (n + 1) = alt a b n ++ [a, b] := rfl
    have h3 : alt a b (n + 1) ++ [a, b] = a :: b :: (alt a b n ++ [a, b]) := by
      rw [alt_cons a b n]
      rfl
    rw [h1, h3, ← h2]
theorem alt_rev (a b : α) : ∀ n, (alt a b n).reverse = alt b a n
  | 0 => rfl
  | n + 1 => by
    rw [alt, List.reverse_append, alt_rev a b n, alt_cons]
    rfl
theorem cnt_one (a b : α) (h : a ≠ b) : ∀ n, Ka.cnt [a] (alt a b n) = n
  | 0 => Ka.cnt_snoc_nil [] a
  | n + 1 => by
    have e : alt a b (n + 1) = (alt a b n ++ [a]) ++ [b] := by
      rw [alt, List.append_assoc]
      rfl
    have h1 : Ka.cnt ([] ++ [a]) ((alt a b n ++ [a]) ++ [b]) = _ := Ka.cnt_snoc_snoc [] a (alt a b n ++ [a]) b
    have h2 : Ka.cnt ([] ++ [a]) (alt a b n ++ [a]) = _ := Ka.cnt_snoc_snoc [] a (alt a b n) a
    rw [if_neg (Ne.symm h)] at h1
    rw [if_pos rfl, Ka.cnt_nil] at h2
    have h3 := cnt_one a b h n
    rw [e]
    simp only [List.nil_append] at h1 h2
    omega
theorem cnt_two (a b : α) (h : a ≠ b) : ∀ n, 2 * Ka.cnt [a, a] (alt a b n) = n * (n - 1)
  | 0 => by
    have : Ka.cnt [a, a] (alt a b 0) = 0 := Ka.cnt_snoc_nil [a] a
    rw [this]
  | n + 1 => by
    have e : alt a b (n + 1) = (alt a b n ++ [a]) ++ [b] := by
      rw [alt, List.append_assoc]
      rfl
    have h1 : Ka.cnt ([a] ++ [a]) ((alt a b n ++ [a]) ++ [b]) = _ := Ka.cnt_snoc_snoc [a] a (alt a b n ++ [a]) b
    have h2 : Ka.cnt ([a] ++ [a]) (alt a b n ++ [a]) = _ := Ka.cnt_snoc_snoc [a] a (alt a b n) a
    rw [if_neg (Ne.symm h)] at h1
    rw [if_pos rfl, cnt_one a b h n] at h2
    have h3 := cnt_two a b h n
    rw [e]
    simp only [List.singleton_append] at h1 h2
    rw [h1, h2, Nat.add_zero, Nat.mul_add, h3]
    cases n with
    | zero => rfl
    | succ n =>
      simp only [Nat.add_sub_cancel, Nat.succ_eq_add_one]
      rw [Nat.mul_comm 2 (n + 1), ← Nat.mul_add]
      rw [Nat.mul_comm (n + 1) (n + 2), ← Nat.mul_comm (n + 1) (n + 2)]
theorem ff_stay {u v : List α} {i : Nat} {g : List Nat} (h : ffN u v i = g) (hg : g.length = u.length) : ∀ j, i ≤ j → ffN u v j = g
  | 0, hj => by
    rw [Nat.le_zero.mp hj] at h
    exact h
  | j + 1, hj => by
    by_cases e : i = j + 1
    · rw [← e]
      exact h
    · have ih := ff_stay h hg j (by omega)
      rw [ffN, if_neg, ih]
      rintro ⟨h1, h2⟩
      rw [ih, hg, List.getElem?_eq_none (Nat.le_refl _)] at h2
      exact h1 h2.symm
theorem ff_front (a b : α) (h : a ≠ b) (r : List α) : ff [a, a] (a :: b :: a :: r) = [0, 2] := by
  have h3 : ffN [a, a] (a :: b :: a :: r) 3 = [0, 2] := by
    simp [ffN, h, Ne.symm h]
  exact ff_stay h3 rfl _ (by simp)
theorem ff_back (a b : α) (h : a ≠ b) (r : List α) : ff [a, a] (b :: a :: b :: a :: r) = [1, 3] := by
  have h3 : ffN [a, a] (b :: a :: b :: a :: r) 4 = [1, 3] := by
    simp [ffN, h, Ne.symm h]
  exact ff_stay h3 rfl _ (by simp)
theorem ff_long (a b : α) (h : a ≠ b) (n : Nat) : ff [a, a] (alt a b (n + 2)) = [0, 2] := by
  rw [alt_cons, alt_cons]
  exact ff_front a b h _
theorem lf_long (a b : α) (h : a ≠ b) (n : Nat) : lf [a, a] (alt a b (n + 2)) = [2 * n, 2 * n + 2] := by
  rw [lf_rv, alt_rev, alt_len]
  have e : [a, a].reverse = [a, a] := rfl
  rw [e, alt_cons, alt_cons, ff_back a b h]
  unfold rv
  simp
  omega
theorem sub_long (a b : α) (n : Nat) : sub [a, a] (alt a b (n + 2)) = true := by
  rw [sub_iff, alt_cons, alt_cons]
  exact List.cons_sublist_cons.mpr (List.Sublist.cons _ (List.cons_sublist_cons.mpr (List.nil_sublist _)))
theorem sub_tail (v : List α) (h : 0 < v.length) : sub v (v.drop 1) = false := by
  cases e : sub v (v.drop 1) with
  | false => rfl
  | true =>
    have := (sub_iff.mp e).length_le
    rw [List.length_drop] at this
    omega
end
end Kb
namespace Kb
open PySem PySem.Spec PyProof.Rows L2
section
variable {P : Program} {w : World} {K : PySem.W.Frag} {mg : Str → Option Value} {base : Heap}
abbrev nLong : List Str := ["box", "one", "other", "many", "u", "v"]
theorem scLong : FnScope nLong ["box", "one", "other"] (defScope sLong) := ⟨rfl, rfl, rfl, by decide +kernel, rfl, by decide +kernel, by decide +kernel⟩
def spLong : Sp := fun vs H Q _ => ∃ (x : Addr) (a b : Str), vs = [.ref x, .str a, .str b] ∧ Box H x ∧ a ≠ b ∧ ∀ H', But x H H' → Box H' x → Q (.bl true) H'
/-- the calls by name of three of the five -/
structure FiveK (K : PySem.W.Frag) (dW dG dL : FuncData) : Prop where
  W : KBinds K dW ["u", "v"] ["v", "u"] Ka.swG Ka.swG
  G : KBinds K dG ["u", "v"] ["v", "u"] Ka.swG Ka.swG
  L : KBinds K dL ["u", "v"] ["v", "u"] Ka.swG Ka.swG
theorem ok_long {f fA fW fF fG fL fT : Addr} {fd dA dW dF dG dL dT : FuncData} (F : Fun K "_law_long_right" "_law_long_right" sLong f fd) (T : FiveFn K mg fA fW fF fG fL dA dW dF dG dL) (TK : FiveK K dW dG dL) (FT : Fun K "_law_take" "_law_take" sTake fT dT) (bT : Binds K dT ["box", "many"] []) (gT : mg "_law_take" = some (.ref fT)) (N : Nones mg) : FnOk P w K mg base CX0 3 f fd ["box", "one", "other"] spLong := by
  have GT : FnOk P w K mg base CX0 1 fT dT ["box", "many"] spTake := ok_take FT N.int
  have GW : FnOk P w K mg base CX0 1 fW dW ["u", "v"] (spWithin K) := ok_within T.W N.iter
  have GF : FnOk P w K mg base CX0 1 fF dF ["u", "v"] (spFits K) := ok_fits T.F N.enumerate N.len N.reversed
  have GG : FnOk P w K mg base CX0 1 fG dG ["u", "v"] (spFirst K) := ok_first T.G N.enumerate N.len N.tuple
  have GL : FnOk P w K mg base CX0 2 fL dL ["u", "v"] (spLast K) := ok_last T.L T.G T.bG T.gG N.enumerate N.len N.tuple N.reversed
  refine F.ok scLong (fun vs H Q E h => ?_) (fun cdv A outer s H vs Q E hr h => ?_)
  · obtain ⟨x, a, b, rfl, _⟩ := h
    rfl
  · obtain ⟨x, a, b, rfl, hx, hab, q⟩ := h
    have hr1 := hr.mono (show 1 ≤ 2 by decide)
    refine ⟨_, pss_cons (ps_set (i := 3) scLong.nd rfl (.inl rfl) (pe_op op_add pe_int (pe_call GT hr1 (by rfl) gT FT.kp bT .nil pass0 (pa_cons (pv 0) (pa_cons pe_int pa_nil)))))
      (pss_cons (ps_par (i := 4) (j := 5) rfl scLong.nd rfl rfl (by decide) rfl rfl (pa_cons (pe_tup (pa_cons (pv 1) (pa_cons (pv 1) pa_nil))) (pa_cons (pe_op op_repT (pe_tup (pa_cons (pv 1) (pa_cons (pv 2) pa_nil))) (pv 3)) pa_nil)) (by rfl))
      (pss_cons (ps_if (PW.pt (pw_or (pt_cmpR op_ne (pe_call GF hr1 (by rfl) T.gF T.F.kp T.bF .nil pass0 (pa_cons (pv 4) (pa_cons (pv 5) pa_nil))) (pe_op op_fdiv (pe_op op_mul (pv 3) (pe_op op_sub (pv 3) pe_int)) pe_int) (nomark _))
          (pw_or (pt_cmpR op_isnot_bl (pe_call GW hr1 (by rfl) T.gW T.W.kp T.bW .nil pass0 (pa_cons (pv 5) (pa_cons (pe_slice sl_tupA (pv 5) (po_some pe_int) po_none) pa_nil))) pe_bl (nomark _))
            (pw_or1 (pt_cmpR op_isnot_bl (Ka.pe_callK0 GW hr1 (by rfl) T.gW T.W.kp TK.W pass0 (pk_cons (pv 5) (pk_cons (pv 4) pk_nil))) pe_bl (nomark _)))))) (pss_one (ps_ret pe_bl)) pss_nil)
      (pss_one (ps_ret (pe_and (pe_cmpR (op_eqD hr.units) (Ka.pe_callK0 GG hr1 (by rfl) T.gG T.G.kp TK.G pass0 (pk_cons (pv 5) (pk_cons (pv 4) pk_nil))) (pe_tup (pa_cons pe_int (pa_cons pe_int pa_nil))) (nomark _))
        (pe_one (pe_cmpR (op_eqD hr.units) (Ka.pe_callK0 GL hr (by rfl) T.gL T.L.kp TK.L pass0 (pk_cons (pv 5) (pk_cons (pv 4) pk_nil))) (pe_tup (pa_cons (pe_op op_sub (pe_op op_mul pe_int (pv 3)) pe_int) (pa_cons (pe_op op_sub (pe_op op_mul pe_int (pv 3)) pe_int) pa_nil))) (nomark _)))))))), ?_⟩
    refine ⟨.ref x, rfl, x, 9, rfl, hx, by decide, by decide, fun r H1 hr9 k1 b1 => ⟨201, _, rfl, rfl, ?_⟩⟩
    have s1000 : ∀ n, n ≤ 1000000 → n ≤ sizeLine := fun n h => smallE h
    generalize hM : ((fun i j => V.int (i + j)) (201 : Int) ((r : Nat) : Int)) = M
    obtain ⟨m, hm, hm2⟩ : ∃ m : Nat, M = .int ((m + 2 : Nat) : Int) ∧ m ≤ 210 := by
      refine ⟨199 + r, ?_, by omega⟩
      rw [← hM]
      show V.int (201 + (r : Int)) = _
      congr 1
      omega
    subst hm
    refine ⟨.str a, rfl, .str a, rfl, s1000 2 (by decide), fun u nu => ?_⟩
    refine ⟨.str a, rfl, .str b, rfl, s1000 2 (by decide), fun t nt => ?_⟩
    refine ⟨.int ((m + 2 : Nat) : Int), rfl, t, _, _, rfl, rfl, sqT_new upd_same, (fun w => by cases w), by omega, by omega, (by show 2 ≤ 1000; decide), fun v nv => ?_⟩
    refine ⟨_, _, rfl, ?_⟩
    have sA := same_new (o := .tup [.str a, .str a]) nu
    have sB := same_new (o := .tup [.str a, .str b]) nt
    have sC := same_new (o := .tup (List.replicate (((m + 2 : Nat) : Int)).toNat [V.str a, V.str b]).flatten) nv
    have eu := (sB.trans sC) u _ upd_same
    have eflat : (List.replicate (((m + 2 : Nat) : Int)).toNat [V.str a, V.str b]).flatten = (alt a b (m + 2)).map V.str := by
      rw [← alt_flat, List.map_flatten, List.map_replicate, Int.toNat_natCast]
      rfl
    rw [eflat] at eu sC ⊢
    have ev : upd (upd (upd H1 u (.tup [.str a, .str a])) t (.tup [.str a, .str b])) v (.tup ((alt a b (m + 2)).map V.str)) v = some (.tup ((alt a b (m + 2)).map V.str)) := upd_same
    have s2 := (sA.trans sB).trans sC
    generalize upd (upd (upd H1 u (.tup [.str a, .str a])) t (.tup [.str a, .str b])) v (.tup ((alt a b (m + 2)).map V.str)) = H2 at eu ev s2 ⊢
    have hU : ∀ H', Same H2 H' → SqT K H' u (([a, a] : List Str).map V.str) := fun H' s' => sqT_new (s' _ _ eu)
    have hV : ∀ H', Same H2 H' → SqT K H' v ((alt a b (m + 2)).map V.str) := fun H' s' => sqT_new (s' _ _ ev)
    have rf : Same H2 H2 := fun _ _ h => h
    have hvl : (alt a b (m + 2)).length ≤ 100000 := by rw [alt_len]; omega
    have c2 := cnt_two a b hab (m + 2)
    have eDiv : ((Ka.cnt [a, a] (alt a b (m + 2)) : Nat) : Int) = ((m + 2 : Nat) : Int) * (((m + 2 : Nat) : Int) - 1) / 2 := by
      have e1 : ((m + 2 : Nat) : Int) * (((m + 2 : Nat) : Int) - 1) = 2 * ((Ka.cnt [a, a] (alt a b (m + 2)) : Nat) : Int) := by
        have e2 : ((m + 2 : Nat) : Int) - 1 = ((m + 2 - 1 : Nat) : Int) := by omega
        rw [e2, ← Int.natCast_mul, ← c2]
        omega
      rw [e1]
      omega
    -- fits(u, v) != many * (many - 1) // 2
    refine ⟨.ref u, rfl, .ref v, rfl, u, v, [a, a], _, rfl, hU _ rf, hV _ rf, by show 2 ≤ 100000; decide, fun H3 s3 => ?_⟩
    refine ⟨.int ((m + 2 : Nat) : Int), rfl, .int ((m + 2 : Nat) : Int), rfl, _, 1, rfl, rfl, _, _, rfl, rfl, .inl ⟨by omega, by omega⟩, _, 2, rfl, rfl, ⟨by decide, by decide⟩, rfl, _, rfl, iteNS (by show V.int _ = V.int _; rw [eDiv]) ?_⟩
    -- within(v, v[1:]) is not False
    refine ⟨.ref v, rfl, .ref v, rfl, 1, rfl, ?_⟩
    dsimp only [tNoPart]
    refine slA_dropR (j := 1) (hV _ s3) fun H4 p s4 hp => ?_
    have r4 := s3.trans s4
    refine ⟨v, p, _, _, rfl, hV _ r4, hp, fun H5 s5 => ?_⟩
    have r5 := r4.trans s5
    rw [sub_tail _ (by rw [alt_len]; omega)]
    refine ⟨false, false, rfl, rfl, _, rfl, iteF ?_⟩
    -- within(v=v, u=u) is not True
    refine ⟨.ref v, rfl, .ref u, rfl, u, v, [a, a], _, rfl, hU _ r5, hV _ r5, fun H6 s6 => ?_⟩
    have r6 := r5.trans s6
    rw [sub_long]
    refine ⟨true, true, rfl, rfl, _, rfl, iteF ?_⟩
    have f1 := ff_long a b hab m
    have l1 := lf_long a b hab m
    -- first_fit(v=v, u=u) == (0, 2)
    refine ⟨.ref v, rfl, .ref u, rfl, u, v, [a, a], _, rfl, hU _ r6, hV _ r6, hvl, fun _ H7 p7 s7 np7 ep7 => ?_, fun ne => absurd (by rw [f1]; rfl) ne⟩
    have r7 := r6.trans s7
    refine ⟨s1000 2 (by decide), fun t8 nt8 => ?_⟩
    have s8 := same_new (o := .tup [.int 0, .int 2]) nt8
    have r8 := r7.trans s8
    rw [f1] at ep7
    refine ⟨natD [0, 2], natD [0, 2], dpN (s8 _ _ ep7), dpN upd_same, shN _, shN _, ?_⟩
    rw [eqN, decide_eq_true rfl]
    refine ⟨true, rfl, iteT ?_⟩
    -- last_fit(v=v, u=u) == (2 * many - 4, 2 * many - 2)
    refine ⟨.ref v, rfl, .ref u, rfl, u, v, [a, a], _, rfl, hU _ r8, hV _ r8, hvl, fun _ H9 p9 s9 np9 ep9 => ?_, fun ne => absurd (by rw [l1]; rfl) ne⟩
    have r9 := r8.trans s9
    rw [l1] at ep9
    refine ⟨.int ((m + 2 : Nat) : Int), rfl, 2, _, rfl, rfl, .inl (by decide), _, 4, rfl, rfl, .int ((m + 2 : Nat) : Int), rfl, 2, _, rfl, rfl, .inl (by decide), _, 2, rfl, rfl, s1000 2 (by decide), fun t10 nt10 => ?_⟩
    have e4 : (2 : Int) * ((m + 2 : Nat) : Int) - 4 = ((2 * m : Nat) : Int) := by omega
    have e2 : (2 : Int) * ((m + 2 : Nat) : Int) - 2 = ((2 * m + 2 : Nat) : Int) := by omega
    have et : [V.int ((2 : Int) * ((m + 2 : Nat) : Int) - 4), V.int ((2 : Int) * ((m + 2 : Nat) : Int) - 2)] = natV [2 * m, 2 * m + 2] := by
      rw [e4, e2]
      rfl
    have s10 := same_new (o := .tup (natV [2 * m, 2 * m + 2])) nt10
    have r10 := r9.trans s10
    show rEqD K (.ref p9) (.ref t10) (upd H9 t10 (.tup [V.int ((2 : Int) * ((m + 2 : Nat) : Int) - 4), V.int ((2 : Int) * ((m + 2 : Nat) : Int) - 2)])) _
    rw [et]
    refine ⟨natD [2 * m, 2 * m + 2], natD [2 * m, 2 * m + 2], dpN (s10 _ _ ep9), dpN upd_same, shN _, shN _, ?_⟩
    rw [eqN, decide_eq_true rfl]
    exact q _ (k1.trans (But.of (s2.trans r10))) (b1.mono (s2.trans r10))
end
end Kb
namespace Kb
open PySem PySem.Spec PyProof.Rows L2
/-! ### texts as lists of signs -/
def ls (z : Str) : List Nat := z.cps.toList
theorem ls_len (z : Str) : z.length = (ls z).length := by
  unfold ls
  rw [Array.length_toList]
  rfl
theorem ls_inj {a b : Str} (h : ls a = ls b) : a = b := by
  obtain ⟨a⟩ := a
  obtain ⟨b⟩ := b
  exact congrArg Str.mk (Array.toList_inj.mp h)
theorem ls_add (a b : Str) : ls (a ++ b) = ls a ++ ls b := TL.tl_append a b
theorem ls_cutTo (z : Str) (k : Nat) : ls (cutS z none (some (k : Int))) = (ls z).take k := by
  unfold cutS ls
  rw [HT.sIx_nat, HT.sIx_none, List.drop_zero, Nat.sub_zero]
  show ((z.cps.toList.take _).toArray).toList = _
  rw [List.toList_toArray, ls_len]
  unfold ls
  by_cases h : k ≤ z.cps.toList.length
  · rw [Nat.min_eq_left h]
  · rw [Nat.min_eq_right (by omega), List.take_length, List.take_of_length_le (by omega)]
theorem ls_cutFrom (z : Str) (k : Nat) : ls (cutS z (some (k : Int)) none) = (ls z).drop k := by
  unfold cutS ls
  rw [HT.sIx_nat, HT.sIx_none]
  show (((z.cps.toList.drop _).take _).toArray).toList = _
  rw [List.toList_toArray, ls_len]
  unfold ls
  by_cases h : k ≤ z.cps.toList.length
  · rw [Nat.min_eq_left h, List.take_of_length_le (by rw [List.length_drop]; exact Nat.le_refl _)]
  · rw [Nat.min_eq_right (by omega), List.drop_length, List.drop_eq_nil_of_le (by omega), List.take_nil]
theorem joinL_nil : ∀ parts : List (List Nat), TL.joinL [] parts = parts.flatten
  | [] => rfl
  | [p] => by simp [TL.joinL]
  | p :: q :: r => by
    rw [TL.joinL, joinL_nil (q :: r)]
    rfl
theorem ls_join (ys : List Str) : ls (Txt.join (Str.ofString "") ys) = (ys.map ls).flatten := by
  rw [TL.join_eq]
  show TL.tl (Str.join (Str.ofString "") ys) = _
  rw [TL.tl_join]
  have e : TL.tl (Str.ofString "") = [] := by decide +kernel
  rw [e, joinL_nil]
  rfl
theorem name_iff {z : Str} : isName z = true ↔ 1 ≤ (ls z).length ∧ (ls z).length ≤ 5 ∧ ∀ c ∈ ls z, lowC c = true := by
  unfold isName ls
  rw [Bool.and_eq_true, Bool.and_eq_true, decide_eq_true_eq, decide_eq_true_eq, List.all_eq_true, Array.length_toList, and_assoc]
/-! ### the next letter, and why names end up unlike -/
def abc : Str := Str.ofString "abcdefghijklmnopqrstuvwxyz"
theorem abc_at : ∀ r : Fin 26, (ls abc)[r.1]? = some (97 + r.1) := by decide +kernel
theorem abc_index : ∀ r : Fin 26, Txt.index0 abc ⟨#[97 + r.1]⟩ = some r.1 := by decide +kernel
theorem low_of {c : Nat} (h : lowC c = true) : ∃ r : Fin 26, c = 97 + r.1 := by
  unfold lowC at h
  rw [Bool.and_eq_true, decide_eq_true_eq, decide_eq_true_eq] at h
  exact ⟨⟨c - 97, by omega⟩, by show c = 97 + (c - 97); omega⟩
theorem low_mk (r : Nat) : lowC (97 + r % 26) = true := by
  unfold lowC
  rw [Bool.and_eq_true, decide_eq_true_eq, decide_eq_true_eq]
  omega
theorem nodup_len {α : Type} [DecidableEq α] : ∀ {l m : List α}, l.Nodup → (∀ x ∈ l, x ∈ m) → l.length ≤ m.length
  | [], _, _, _ => Nat.zero_le _
  | x :: l, m, h, s => by
    rw [List.nodup_cons] at h
    have hx := s x List.mem_cons_self
    have h2 := nodup_len (l := l) (m := m.erase x) h.2 fun y hy => by
      have hne : y ≠ x := fun e => h.1 (e ▸ hy)
      exact (List.mem_erase_of_ne hne).mpr (s y (List.mem_cons_of_mem _ hy))
    rw [List.length_erase_of_mem hx] at h2
    have := List.length_pos_of_mem hx
    rw [List.length_cons]
    omega
/-- the name init ++ the letter c0 + k -/
def nm (init : List Nat) (c0 k : Nat) : Str := ⟨(init ++ [97 + (c0 + k) % 26]).toArray⟩
theorem nm_ls (init : List Nat) (c0 k : Nat) : ls (nm init c0 k) = init ++ [97 + (c0 + k) % 26] := by
  unfold ls nm
  simp
theorem nm_few {init : List Nat} {c0 n : Nat} {found : List Str} (hn : n ≤ 26) (h : ∀ k, k < n → nm init c0 k ∈ found) : n ≤ found.length := by
  have h1 : ((List.range n).map (nm init c0)).Nodup := by
    rw [List.nodup_iff_pairwise_ne, List.pairwise_map]
    refine List.Pairwise.imp_of_mem ?_ (List.nodup_iff_pairwise_ne.mp List.nodup_range)
    intro i j hi hj hne e
    have e2 := congrArg ls e
    rw [nm_ls, nm_ls] at e2
    have e3 := List.append_cancel_left e2
    rw [List.cons.injEq] at e3
    rw [List.mem_range] at hi hj
    have e4 := e3.1
    omega
  have h2 := nodup_len h1 (m := found) fun x hx => by
    obtain ⟨k, hk, rfl⟩ := List.mem_map.mp hx
    exact h k (List.mem_range.mp hk)
  rw [List.length_map, List.length_range] at h2
  exact h2
theorem nm_name {init : List Nat} {c0 k : Nat} (h1 : init.length ≤ 4) (h2 : ∀ c ∈ init, lowC c = true) : isName (nm init c0 k) = true := by
  rw [name_iff, nm_ls]
  refine ⟨by simp, by simp; omega, fun c hc => ?_⟩
  rcases List.mem_append.mp hc with h | h
  · exact h2 c h
  · rw [List.mem_singleton.mp h]
    exact low_mk _
/-- a name is of that form -/
theorem nm_of {z : Str} (h : isName z = true) : ∃ init c0, z = nm init c0 0 ∧ init.length ≤ 4 ∧ ∀ c ∈ init, lowC c = true := by
  obtain ⟨h1, h2, h3⟩ := name_iff.mp h
  have hne : ls z ≠ [] := fun e => by
    rw [e] at h1
    simp at h1
  have e := List.dropLast_concat_getLast hne
  obtain ⟨r, hr⟩ := low_of (h3 _ (List.getLast_mem hne))
  refine ⟨(ls z).dropLast, r.1, ls_inj ?_, by rw [List.length_dropLast]; omega, fun c hc => h3 c ((List.dropLast_sublist _).subset hc)⟩
  rw [nm_ls, Nat.add_zero, Nat.mod_eq_of_lt r.2, ← hr]
  exact e.symm
theorem shStrs {l : List Str} (h : ∀ z ∈ l, isName z = true) : SeqAt.shaped (.list (l.map .str)) = true := by
  have h1 := dep_le (f := PyData.str) (n := 1) (fun a => by simp [PyData.depth]) l
  exact shaped_of (by rw [PyData.canLay0]; exact lay_all l fun a ha => by rw [PyData.canLay0]; exact name_ok (h a ha)) (by simp only [PyData.depth]; omega)
theorem inV_str (z : Str) : ∀ ns : List Str, inV (.str z) (ns.map V.str) = decide (z ∈ ns)
  | [] => by simp [inV]
  | y :: ns => by
    have ih := inV_str z ns
    unfold inV at ih ⊢
    rw [List.map_cons, List.any_cons, ih]
    show ((y == z) || _) = _
    rw [str_beq]
    by_cases h1 : y = z
    · subst h1
      simp
    · have h2 : ¬ z = y := fun e => h1 e.symm
      simp [h1, h2]
theorem flat_strs (ns : List Str) : (ns.map V.str).all flatV = true := by
  rw [List.all_map, List.all_eq_true]
  exact fun _ _ => rfl
theorem letters_join {zs : List Str} (h : ∀ z ∈ zs, ∃ c, ls z = [c] ∧ lowC c = true) : (zs.map ls).flatten.length = zs.length ∧ (∀ c ∈ (zs.map ls).flatten, lowC c = true) ∧ (zs.map (·.length)).sum = zs.length := by
  induction zs with
  | nil => exact ⟨rfl, (fun c hc => by cases hc), rfl⟩
  | cons z zs ih =>
    obtain ⟨h1, h2, h3⟩ := ih fun y hy => h y (List.mem_cons_of_mem _ hy)
    obtain ⟨c, e, hc⟩ := h z List.mem_cons_self
    refine ⟨?_, fun d hd => ?_, ?_⟩
    · rw [List.map_cons, List.flatten_cons, List.length_append, h1, e, List.length_singleton, List.length_cons]
      omega
    · rw [List.map_cons, List.flatten_cons, e, List.mem_append, List.mem_singleton] at hd
      rcases hd with rfl | hd
      · exact hc
      · exact h2 d hd
    · rw [List.map_cons, List.sum_cons, h3, List.length_cons, ls_len, e]
      show 1 + zs.length = _
      omega
section
variable {P : Program} {w : World} {K : PySem.W.Frag} {mg : Str → Option Value} {base : Heap}
abbrev nNames : List Str := ["box", "many", "letters", "found", "turn", "kind", "place", "name", "step"]
theorem scNames : FnScope nNames ["box", "many"] (defScope sNames) := ⟨rfl, rfl, rfl, by decide +kernel, rfl, by decide +kernel, by decide +kernel⟩
def spNames : Sp := fun vs H Q _ => ∃ (x : Addr) (n : Nat), vs = [.ref x, .int (n : Nat)] ∧ Box H x ∧ n ≤ 20 ∧ ∀ (p : Addr) (ns : List Str) H', ns.length = n → ns.Nodup → (∀ z ∈ ns, isName z = true) → But x H H' → Box H' x → H p = none → H' p = some (.lst (ns.map V.str)) → Q (.ref p) H'
theorem strIx_at {X : Cx} {K : PySem.W.Frag} : IxR X rIxS := ix_str
theorem ok_names {f fT fP fL : Addr} {fd fdT fdP fdL : FuncData} (F : Fun K "_law_names" "_law_names" sNames f fd) (FT : Fun K "_law_take" "_law_take" sTake fT fdT) (bT : Binds K fdT ["box", "many"] []) (gT : mg "_law_take" = some (.ref fT)) (FP : Fun K "_law_pick" "_law_pick" sPick fP fdP) (bP : Binds K fdP ["box", "some"] []) (gP : mg "_law_pick" = some (.ref fP))
    (FL : Fun K "_law_letter" "_law_letter" sLet fL fdL) (bL : Binds K fdL ["box"] []) (gL : mg "_law_letter" = some (.ref fL)) (N : Nones mg) : FnOk P w K mg base CX0 3 f fd ["box", "many"] spNames := by
  have GT : FnOk P w K mg base CX0 1 fT fdT ["box", "many"] spTake := ok_take FT N.int
  have GP : FnOk P w K mg base CX0 2 fP fdP ["box", "some"] spPick := ok_pick FP FT bT gT N.int N.len
  have GL : FnOk P w K mg base CX0 2 fL fdL ["box"] spLet := ok_let FL FT bT gT N.int
  refine F.ok scNames (fun vs H Q E h => ?_) (fun cdv A outer s H vs Q E hr h => ?_)
  · obtain ⟨x, n, rfl, _⟩ := h
    rfl
  · obtain ⟨x, n, rfl, hx, hn, q⟩ := h
    have hr1 := hr.mono (show 1 ≤ 2 by decide)
    refine ⟨_, pss_cons (ps_par (i := 2) (j := 3) rfl scNames.nd rfl rfl (by decide) rfl rfl (pa_cons pe_str (pa_cons (pe_lst pa_nil) pa_nil)) (by rfl))
      (pss_cons (ps_for PassesOwn.never rfl (pi_range1 (by rfl) N.range (pa_cons (pv 1) pa_nil)) (pg_name (i := 4) scNames.nd rfl (.inl rfl))
        (pss_cons (ps_set (i := 5) scNames.nd rfl (.inl rfl) (pe_call GT hr1 (by rfl) gT FT.kp bT .nil pass0 (pa_cons (pv 0) (pa_cons pe_int pa_nil))))
        (pss_cons (ps_if (PW.pt (pw_or (pt_cmpR (op_eqD hr.units) (pv 3) (pe_lst pa_nil) (nomark _)) (pw_or1 (pt_cmpR op_lt (pv 5) pe_int (nomark _)))))
          (pss_one (ps_set (i := 7) scNames.nd rfl (.inl rfl) (pe_join pe_str (pe_lc (own := [("place", 6)]) (g := gName 6) (tt := tYes) rfl scNames.nd (pi_range1 (by rfl) N.range (pa_cons (pe_op op_add pe_int (pe_call GT hr1 (by rfl) gT FT.kp bT .nil pass0 (pa_cons (pv 0) (pa_cons pe_int pa_nil)))) pa_nil)) (blkOk_by (own := [("place", 6)]) (N := nNames) (sc := defScope sNames) (by decide +kernel)) (fun _ _ _ _ _ => pg_name (i := 6) scNames.nd rfl (Or.inl rfl)) (fun _ _ _ _ _ => pts_nil)
            (fun _ _ _ _ _ => pe_call GL hr (by rfl) gL FL.kp bL .nil pass0 (pa_cons (pv 0) pa_nil))))))
          (pss_cons (ps_set (i := 7) scNames.nd rfl (.inl rfl) (pe_call GP hr (by rfl) gP FP.kp bP .nil pass0 (pa_cons (pv 0) (pa_cons (pv 3) pa_nil))))
          (pss_cons (ps_set (i := 6) scNames.nd rfl (.inl rfl) (pe_call GT hr1 (by rfl) gT FT.kp bT .nil pass0 (pa_cons (pv 0) (pa_cons (pe_callB call_len (by rfl) N.len PySem.boot_len (pa_cons (pv 7) pa_nil)) pa_nil))))
          (pss_one (ps_set (i := 7) scNames.nd rfl (.inl rfl) (pe_ifExp (pt_cmpR op_eq (pv 5) pe_int (nomark _)) (pe_slice sl_str (pv 7) po_none (po_some (pe_op op_add (pv 6) pe_int)))
            (pe_op op_add_str (pe_op op_add_str (pe_slice sl_str (pv 7) po_none (po_some (pv 6))) (pe_call GL hr (by rfl) gL FL.kp bL .nil pass0 (pa_cons (pv 0) pa_nil))) (pe_slice sl_str (pv 7) (po_some (pe_op op_add (pv 6) pe_int)) po_none))))))))
        (pss_cons (ps_for PassesOwn.never rfl (pi_range1 (by rfl) N.range (pa_cons (pv 1) pa_nil)) (pg_name (i := 8) scNames.nd rfl (.inl rfl))
          (pss_one (ps_if (pt_cmpR op_in_seq (pv 7) (pv 3) (by rfl))
            (pss_one (ps_set (i := 7) scNames.nd rfl (.inl rfl) (pe_op op_add_str (pe_slice sl_str (pv 7) po_none (po_some (pe_op op_sub (pe_callB call_len (by rfl) N.len PySem.boot_len (pa_cons (pv 7) pa_nil)) pe_int)))
              (pe_ix ix_str (pv 2) (pe_op op_mod (pe_op op_add (pe_bmS PySem.F.plainAttrs_str PySem.F.slot_str_index PySem.F.type_str_index (mt_indexX rfl takes0) (pv 2) (pa_cons (pe_ix ix_str (pv 7) (pe_op op_sub (pe_callB call_len (by rfl) N.len PySem.boot_len (pa_cons (pv 7) pa_nil)) pe_int) (fun _ _ => rfl)) pa_nil)) pe_int) pe_int) (fun _ _ => rfl))))) pss_nil)))
        (pss_one (ps_expr (pe_bm PySem.F.plainAttrs_list PySem.F.slot_list_append PySem.F.type_list_append mt_append (pv 3) (pa_cons (pv 7) pa_nil))))))))
      (pss_one (ps_ret (pv 3)))), ?_⟩
    have s1000 : ∀ n, n ≤ 1000000 → n ≤ sizeLine := fun n h => smallE h
    have short : ∀ z : Str, isName z = true → z.length ≤ 5 := fun z h => by
      rw [ls_len]
      exact (name_iff.mp h).2.1
    refine ⟨Nat.zero_le _, fun o no => ?_⟩
    have s0 := same_new (o := .lst []) no
    have hox : o ≠ x := hx.ne no
    refine ⟨_, _, rfl, .int (n : Nat), rfl, (n : Nat), rfl, by omega, by omega, ?_⟩
    refine for_range (lo := 0) (n := n) (fun i σ H' => ∃ d4 d5 d6 d7 d8 ns, σ = [some (.ref x), some (.int (n : Nat)), some (.str abc), some (.ref o), d4, d5, d6, d7, d8] ∧ But x H H' ∧ Box H' x ∧ H' o = some (.lst ((ns : List Str).map V.str)) ∧ ns.length = i ∧ ns.Nodup ∧ ∀ z ∈ ns, isName z = true)
      ⟨none, none, none, none, none, [], rfl, But.of s0, hx.upd hox, upd_same, rfl, List.nodup_nil, fun z hz => by cases hz⟩ ?_ ?_
    · rintro i σ H' hi ⟨d4, d5, d6, d7, d8, ns, rfl, k, b, eo, hl, nd, nam⟩
      refine ⟨.ref x, rfl, x, 4, rfl, b, by decide, by decide, fun kind H1 hk4 k1 b1 => ?_⟩
      have kk1 := k.trans k1
      have eo1 := k1 _ _ hox eo
      refine ⟨.ref o, rfl, Nat.zero_le _, fun l nl => ?_⟩
      have sl := same_new (o := .lst []) nl
      refine ⟨.list (ns.map .str), .list (([] : List Str).map .str), .lst (sqL_new (sl _ _ eo1)) (dpRs ns), .lst (sqL_new upd_same) .nil, shStrs nam, shStrs (fun z hz => by cases hz), ?_⟩
      rw [PyData.eqv, eqvAll_map eq_str]
      refine ⟨_, rfl, ?_⟩
      replace kk1 := kk1.trans (But.of sl)
      replace eo1 := sl _ _ eo1
      replace b1 := b1.mono sl
      generalize upd H1 l (.lst []) = H1' at kk1 eo1 b1 ⊢
      generalize hX : tSeq (tFor (iRng1 (tCons (tVar 1) tNil)) (gName 8) _) _ _ = X
      have fin : ∀ (z : Str) (v4 v5 d6 d8 : Option V) H2, isName z = true → But x H1' H2 → Box H2 x → X [some (.ref x), some (.int (n : Nat)), some (.str abc), some (.ref o), v4, v5, d6, some (.str z), d8] H2 := fun z v4 v5 d6 d8 H2 hz k2 b2 => by
        rw [← hX]
        have eo2 := k2 _ _ hox eo1
        refine ⟨.int (n : Nat), rfl, (n : Nat), rfl, by omega, by omega, ?_⟩
        refine for_range (lo := 0) (n := n) (fun s σ H3 => H3 = H2 ∧ ∃ z d8, σ = [some (.ref x), some (.int (n : Nat)), some (.str abc), some (.ref o), v4, v5, d6, some (.str z), d8] ∧ isName z = true ∧ (z ∉ ns ∨ ∃ init c0, z = nm init c0 s ∧ init.length ≤ 4 ∧ (∀ c ∈ init, lowC c = true) ∧ ∀ k, k < s → nm init c0 k ∈ ns))
          ⟨rfl, z, d8, rfl, hz, .inr (by
            obtain ⟨init, c0, h1, h2, h3⟩ := nm_of hz
            exact ⟨init, c0, h1, h2, h3, fun k hk => absurd hk (Nat.not_lt_zero k)⟩)⟩ ?_ ?_
        · rintro s σ H3 hs ⟨rfl, z, d8, rfl, hz, way⟩
          refine ⟨.str z, rfl, .ref o, rfl, o, _, rfl, .inl (sqL_new eo2), rfl, flat_strs ns, ?_⟩
          rw [inV_str]
          refine ⟨_, rfl, ?_⟩
          by_cases hin : z ∈ ns
          · rw [decide_eq_true hin]
            obtain ⟨init, c0, rfl, h4, hlow, before⟩ : ∃ init c0, z = nm init c0 s ∧ init.length ≤ 4 ∧ (∀ c ∈ init, lowC c = true) ∧ ∀ k, k < s → nm init c0 k ∈ ns := by
              rcases way with h | h
              · exact absurd hin h
              · exact h
            have hlen : ((nm init c0 s).length : Int) - 1 = ((init.length : Nat) : Int) := by
              rw [ls_len, nm_ls, List.length_append, List.length_singleton]
              omega
            have hsz : (nm init c0 s).length ≤ sizeLine := s1000 _ (Nat.le_trans (short _ hz) (by decide))
            have hat : atI (nm init c0 s).cps.toList ((init.length : Nat) : Int) = some (97 + (c0 + s) % 26) := by
              refine atI_nat ?_
              show (ls (nm init c0 s))[init.length]? = _
              rw [nm_ls, List.getElem?_append_right (Nat.le_refl _), Nat.sub_self]
              rfl
            have hr26 : (c0 + s) % 26 < 26 := Nat.mod_lt _ (by decide)
            refine iteT ?_
            refine ⟨.str (nm init c0 s), rfl, .str (nm init c0 s), rfl, .str (nm init c0 s), _, rfl, ⟨hsz, rfl⟩, _, 1, rfl, rfl, ((init.length : Nat) : Int), congrArg V.int hlen, _, rfl, hsz, ?_⟩
            refine ⟨.str abc, rfl, .str abc, rfl, rfl, .str (nm init c0 s), rfl, .str (nm init c0 s), rfl, .str (nm init c0 s), _, rfl, ⟨hsz, rfl⟩, _, 1, rfl, rfl, _, ((init.length : Nat) : Int), _, rfl, congrArg V.int hlen, hsz, hat, ?_⟩
            have hidx := abc_index ⟨(c0 + s) % 26, hr26⟩
            refine ⟨abc, _, rfl, rfl, fun k hk => ?_, fun hno => ?_⟩
            · have ek : k = (c0 + s) % 26 := Option.some.inj (hk.symm.trans hidx)
              subst ek
              have hnext : (ls abc)[((c0 + s) % 26 + 1) % 26]? = some (97 + ((c0 + s) % 26 + 1) % 26) := abc_at ⟨((c0 + s) % 26 + 1) % 26, Nat.mod_lt _ (by decide)⟩
              have emod : ((((c0 + s) % 26 : Nat) : Int) + 1) % 26 = ((((c0 + s) % 26 + 1) % 26 : Nat) : Int) := by omega
              refine ⟨_, 1, rfl, rfl, _, 26, rfl, rfl, (by show (0 : Int) < 26; decide), _, (((((c0 + s) % 26 + 1) % 26 : Nat)) : Int), _, rfl, congrArg V.int emod, (by decide +kernel), atI_nat hnext, ?_⟩
              have ename : cutS (nm init c0 s) none (some ((init.length : Nat) : Int)) ++ (⟨#[97 + ((c0 + s) % 26 + 1) % 26]⟩ : Str) = nm init c0 (s + 1) := by
                refine ls_inj ?_
                rw [ls_add, ls_cutTo, nm_ls, nm_ls, List.take_left]
                show init ++ [97 + ((c0 + s) % 26 + 1) % 26] = _
                have : ((c0 + s) % 26 + 1) % 26 = (c0 + (s + 1)) % 26 := by omega
                rw [this]
              refine ⟨_, _, rfl, rfl, ?_, ?_⟩
              · rw [ls_len, ls_len, ls_cutTo, nm_ls, List.take_left]
                refine s1000 _ ?_
                show init.length + 1 ≤ 1000000
                omega
              · rw [ename]
                refine ⟨rfl, _, _, rfl, nm_name h4 hlow, .inr ⟨init, c0, rfl, h4, hlow, fun k hk => ?_⟩⟩
                by_cases e : k = s
                · rw [e]
                  exact hin
                · exact before k (by omega)
            · have := hno.symm.trans hidx
              cases this
          · rw [decide_eq_false hin]
            exact iteF ⟨rfl, z, _, rfl, hz, .inl hin⟩
        · rintro σ H3 ⟨rfl, z, d8, rfl, hz, way⟩
          have hout : z ∉ ns := by
            rcases way with h | ⟨init, c0, _, _, _, before⟩
            · exact h
            · have := nm_few (init := init) (c0 := c0) (n := n) (by omega) before
              omega
          refine ⟨.ref o, rfl, .inl ⟨rfl, _, sqL_new eo2⟩, .str z, rfl, o, _, _, rfl, rfl, eo2, ?_, ?_⟩
          · rw [List.length_map]
            exact small (by omega)
          · refine ⟨_, _, _, _, _, ns ++ [z], rfl, ?_, b2.upd hox, ?_, by rw [List.length_append, hl]; rfl, ?_, fun y hy => ?_⟩
            · intro c u hc e
              have hco : c ≠ o := ne_of_none e no
              rw [upd_ne hco]
              exact k2 _ _ hc (kk1 _ _ hc e)
            · rw [upd_same, List.map_append]
              rfl
            · rw [List.nodup_append]
              exact ⟨nd, by simp, fun a ha b hb e => by
                rw [List.mem_singleton.mp hb] at e
                exact hout (e ▸ ha)⟩
            · rcases List.mem_append.mp hy with h | h
              · exact nam y h
              · rw [List.mem_singleton.mp h]
                exact hz
      generalize hY : tAsg (tM1 _ _ _) (gName 7) _ = Y
      have fy : Y [some (.ref x), some (.int (n : Nat)), some (.str abc), some (.ref o), some (.int (0 + (i : Int))), some (.int (kind : Nat)), d6, d7, d8] H1' := by
        rw [← hY]
        refine ⟨⟨_, rfl⟩, .ref x, rfl, x, 5, rfl, b1, by decide, by decide, fun r H2 hr5 k2 b2 => ?_⟩
        refine ⟨1, _, rfl, rfl, _, rfl, by omega, by omega, fun D nD => ?_⟩
        have en : ((1 : Int) + ((r : Nat) : Int)).toNat = r + 1 := by omega
        have hDx := b2.ne nD
        rw [en]
        refine lc_it (walk_r0 (n := r + 1)) (fun j H3 => But x H2 H3 ∧ Box H3 x ∧ ∃ zs : List Str, zs.length = j ∧ (∀ z ∈ zs, ∃ c, ls z = [c] ∧ lowC c = true) ∧ H3 D = some (.lst (zs.map V.str)))
          ⟨But.of (same_new nD), b2.upd hDx, [], rfl, (fun z hz => by cases hz), upd_same⟩ (fun _ _ _ _ => True.intro) (fun j y H3 H4 hj h3 yy => ?_) (fun H3 h3 => ?_)
        · obtain ⟨rfl, rfl⟩ := yy
          obtain ⟨k3, b3, zs, hzl, hzz, eD⟩ := h3
          refine ⟨rfl, .ref x, rfl, x, rfl, b3, fun c H5 hc k5 b5 => ?_⟩
          refine ⟨_, k5 _ _ hDx eD, by rw [List.length_map]; exact small (by omega), ?_, b5.upd hDx, zs ++ [⟨#[c]⟩], by rw [List.length_append, hzl]; rfl, fun z hz => ?_, by rw [upd_same, List.map_append]; rfl⟩
          · intro c' u hc' e
            rw [upd_ne (ne_of_none e nD)]
            exact k5 _ _ hc' (k3 _ _ hc' e)
          · rcases List.mem_append.mp hz with h | h
            · exact hzz z h
            · rw [List.mem_singleton.mp h]
              exact ⟨c, rfl, hc⟩
        · obtain ⟨k3, b3, zs, hzl, hzz, eD⟩ := h3
          obtain ⟨j1, j2, j3⟩ := letters_join hzz
          refine ⟨_, D, zs, rfl, rfl, .inl (sqL_new eD), ?_, ?_⟩
          · rw [j3]
            have : (Str.ofString "").length = 0 := by decide +kernel
            rw [this]
            omega
          · refine fin _ _ _ _ _ H3 ?_ (k2.trans k3) b3
            rw [name_iff, ls_join, j1, hzl]
            exact ⟨by omega, by omega, j2⟩
      by_cases hns : ns = []
      · rw [decide_eq_true hns]
        exact iteT (iteT fy)
      · rw [decide_eq_false hns]
        refine iteF ⟨.int (kind : Nat), rfl, _, 2, rfl, rfl, _, rfl, ite2 (fun c => fy) (fun c => ?_)⟩
        have hpos : 0 < (ns.map V.str).length := by
          rw [List.length_map]
          cases h : ns with
          | nil => exact absurd h hns
          | cons _ _ => exact Nat.succ_pos _
        refine ⟨.ref x, rfl, .ref o, rfl, x, o, _, rfl, b1, hox, eo1, hpos, by rw [List.length_map]; omega, fun i2 v H2 hv k2 b2 => ?_⟩
        obtain ⟨z, hz, rfl⟩ := get_map hv
        have hzn := nam z (List.mem_of_getElem? hz)
        obtain ⟨z1, z2, z3⟩ := name_iff.mp hzn
        have zsz : z.length ≤ sizeLine := s1000 _ (Nat.le_trans (short z hzn) (by decide))
        refine ⟨.ref x, rfl, .str z, rfl, .str z, _, rfl, ⟨zsz, rfl⟩, x, z.length, rfl, b2, by rw [ls_len]; omega, by rw [ls_len]; omega, fun pl H3 hpl k3 b3 => ?_⟩
        rw [ls_len] at hpl
        have kk3 := k2.trans k3
        have epl : ((pl : Nat) : Int) + 1 = ((pl + 1 : Nat) : Int) := by omega
        refine ⟨.int (kind : Nat), rfl, rfl, _, rfl, ite2 (fun c2 => ?_) (fun c2 => ?_)⟩
        · refine ⟨.str z, rfl, .int (pl : Nat), rfl, _, 1, rfl, rfl, ((pl + 1 : Nat) : Int), congrArg V.int epl, z, rfl, zsz, ?_⟩
          refine fin _ _ _ _ _ H3 ?_ kk3 b3
          rw [name_iff, ls_cutTo, List.length_take]
          exact ⟨by omega, by omega, fun c hc => z3 c (List.mem_of_mem_take hc)⟩
        · refine ⟨.str z, rfl, .int (pl : Nat), rfl, _, rfl, z, rfl, zsz, ?_⟩
          refine ⟨.ref x, rfl, x, rfl, b3, fun c H4 hc k4 b4 => ?_⟩
          have e1 : (ls (cutS z none (some ((pl : Nat) : Int)))).length = pl := by rw [ls_cutTo, List.length_take]; omega
          have e2 : (ls (cutS z (some ((pl + 1 : Nat) : Int)) none)).length = (ls z).length - (pl + 1) := by rw [ls_cutFrom, List.length_drop]
          have e3 : (⟨#[c]⟩ : Str).length = 1 := rfl
          refine ⟨_, _, rfl, rfl, ?_, .str z, rfl, .int (pl : Nat), rfl, _, 1, rfl, rfl, ((pl + 1 : Nat) : Int), congrArg V.int epl, z, rfl, zsz, _, _, rfl, rfl, ?_, ?_⟩
          · rw [ls_len, e1, e3]
            exact s1000 _ (by omega)
          · rw [ls_len, ls_len, ls_add, List.length_append, e1, e2]
            refine s1000 _ ?_
            show pl + 1 + _ ≤ 1000000
            omega
          · refine fin _ _ _ _ _ H4 ?_ (kk3.trans k4) b4
            rw [name_iff, ls_add, ls_add, List.length_append, List.length_append, e1, e2]
            refine ⟨?_, ?_, fun d hd => ?_⟩
            · show 1 ≤ pl + 1 + _
              omega
            · show pl + 1 + _ ≤ 5
              omega
            · rcases List.mem_append.mp hd with h | h
              · rcases List.mem_append.mp h with h | h
                · rw [ls_cutTo] at h
                  exact z3 d (List.mem_of_mem_take h)
                · have hd2 : d ∈ [c] := h
                  rw [List.mem_singleton.mp hd2]
                  exact hc
              · rw [ls_cutFrom] at h
                exact z3 d (List.mem_of_mem_drop h)
    · rintro σ H' ⟨d4, d5, d6, d7, d8, ns, rfl, k, b, eo, hl, nd, nam⟩
      exact ⟨.ref o, rfl, q o ns H' hl nd nam k b no eo⟩
end
end Kb
namespace Kb
open PySem PySem.Spec PyProof.Rows L2
/-! ### tuples of any values -/
section
variable {K : PySem.W.Frag}
theorem tyT {H : Hp} {p : Addr} {xs : List V} (h : SqT K H p xs) : TyX K H (.ref p) (.type "tuple") := by
  rcases h with (h | ⟨o, h⟩) | h
  · exact .base (.tup h)
  · exact .fTuple h
  · obtain ⟨o, its, n, h1, h2, h3⟩ := h
    exact .kTuple h1 h2
theorem catR {H : Hp} {a b : Addr} {xs ys : List V} {Q : VK} (hx : SqT K H a xs) (hy : SqT K H b ys) (hl : xs.length + ys.length ≤ 100000) (q : ∀ H' p, Same H H' → SqT K H' p (xs ++ ys) → Q (.ref p) H') : rCatA K (.ref a) (.ref b) H Q := by
  refine ⟨a, b, xs, ys, rfl, rfl, hx, hy, smallE (by omega), fun e => ?_, fun _ e => ?_, fun _ _ p np => ?_⟩
  · exact q H b (fun _ _ h => h) (by rw [e]; exact hy)
  · exact q H a (fun _ _ h => h) (by rw [e, List.append_nil]; exact hx)
  · exact q _ p (same_new np) (sqT_new upd_same)
theorem slR_take {H : Hp} {a : Addr} {xs : List V} {j : Nat} {Q : VK} (hA : SqT K H a xs) (q : ∀ H' p, Same H H' → SqT K H' p (xs.take j) → Q (.ref p) H') : rSlA K (.ref a) none (some (j : Int)) H Q :=
  slA_take hA (fun e => q H a (fun _ _ h => h) (by rw [e]; exact hA)) fun p np => q _ p (same_new np) (sqT_new upd_same)
theorem slR_drop {H : Hp} {a : Addr} {xs : List V} {j : Nat} {Q : VK} (hA : SqT K H a xs) (q : ∀ H' p, Same H H' → SqT K H' p (xs.drop j) → Q (.ref p) H') : rSlA K (.ref a) (some (j : Int)) none H Q :=
  slA_drop hA (fun e => q H a (fun _ _ h => h) (by rw [e]; exact hA)) fun p np => q _ p (same_new np) (sqT_new upd_same)
/-! ### wrong items -/
def Wrong (x : Addr) (H : Hp) (v : V) : Prop := (∃ s, v = .str s ∧ isName s = false ∧ s.length ≤ 100) ∨ v = .non ∨ (∃ i, v = .int i) ∨ (∃ b, v = .bl b) ∨ (∃ p z, v = .ref p ∧ H p = some (.tup [.str z])) ∨ (∃ p z, v = .ref p ∧ p ≠ x ∧ H p = some (.lst [.str z]))
theorem Wrong.but {x : Addr} {H H' : Hp} {v : V} (h : Wrong x H v) (b : Box H x) (k : But x H H') : Wrong x H' v := by
  rcases h with h | h | h | h | ⟨p, z, e, h⟩ | ⟨p, z, e, ne, h⟩
  · exact .inl h
  · exact .inr (.inl h)
  · exact .inr (.inr (.inl h))
  · exact .inr (.inr (.inr (.inl h)))
  · refine .inr (.inr (.inr (.inr (.inl ⟨p, z, e, k _ _ (fun w => ?_) h⟩))))
    obtain ⟨b0, b1, b2, hb⟩ := b
    rw [w, hb] at h
    cases h
  · exact .inr (.inr (.inr (.inr (.inr ⟨p, z, e, ne, k _ _ ne h⟩))))
theorem Wrong.mono {x : Addr} {H H' : Hp} {v : V} (h : Wrong x H v) (s : Same H H') : Wrong x H' v := by
  rcases h with h | h | h | h | ⟨p, z, e, h⟩ | ⟨p, z, e, ne, h⟩
  · exact .inl h
  · exact .inr (.inl h)
  · exact .inr (.inr (.inl h))
  · exact .inr (.inr (.inr (.inl h)))
  · exact .inr (.inr (.inr (.inr (.inl ⟨p, z, e, s _ _ h⟩))))
  · exact .inr (.inr (.inr (.inr (.inr ⟨p, z, e, ne, s _ _ h⟩))))
theorem Wrong.bad {x : Addr} {H : Hp} {v : V} (h : Wrong x H v) : okV v = false ∧ Asked K H v := by
  rcases h with ⟨s, rfl, h, hl⟩ | rfl | ⟨i, rfl⟩ | ⟨b, rfl⟩ | ⟨p, z, rfl, h⟩ | ⟨p, z, rfl, ne, h⟩
  · exact ⟨h, .inl ⟨s, rfl, smallE (by omega)⟩⟩
  · exact ⟨rfl, .inr ⟨rfl, "NoneType", by decide +kernel, fun _ _ => .base .non⟩⟩
  · exact ⟨rfl, .inr ⟨rfl, "int", by decide +kernel, fun _ _ => .base (.int i)⟩⟩
  · exact ⟨rfl, .inr ⟨rfl, "bool", by decide +kernel, fun _ _ => .base (.bl b)⟩⟩
  · exact ⟨rfl, .inr ⟨rfl, "tuple", by decide +kernel, fun _ s => .base (.tup (s _ _ h))⟩⟩
  · exact ⟨rfl, .inr ⟨rfl, "list", by decide +kernel, fun _ s => .base (.lst (s _ _ h))⟩⟩
theorem nameAsked {H : Hp} {z : Str} (h : isName z = true) : okV (.str z) = true ∧ Asked K H (.str z) := by
  refine ⟨h, .inl ⟨z, rfl, smallE ?_⟩⟩
  rw [ls_len]
  have := (name_iff.mp h).2.1
  omega
/-! ### what _law_refused is asked -/
theorem ans_row {H : Hp} {p : Addr} {xs : List V} (h : SqT K H p xs) (hl : xs.length ≤ 400) (ok : ∀ x ∈ xs, okV x = true ∧ Asked K H x) : CheckAns K H (.ref p) none := ⟨p, xs, rfl, tyT h, h, fun x hx => (ok x hx).2, hl, fun x hx => (ok x hx).1⟩
theorem ans_at {H : Hp} {p : Addr} {xs : List V} {i : Nat} {x : V} (h : SqT K H p xs) (ask : ∀ x ∈ xs, Asked K H x) (hx : xs[i]? = some x) (before : ∀ (j : Nat) (y : V), j < i → xs[j]? = some y → okV y = true) (h400 : i ≤ 400) (bad : i = 400 ∨ okV x = false) : CheckAns K H (.ref p) (some ((i : Nat) : Int)) :=
  .inr ⟨p, xs, i, x, rfl, tyT h, h, ask, rfl, hx, before, h400, bad⟩
/-- the answer as data -/
def resD : Option Int → PyData
  | none => .tuple [.str "told", .none]
  | some z => .tuple [.str "refused", .int z, .bool true]
theorem res_lay : ∀ o, (resD o).canLay0 = true
  | none => by decide +kernel
  | some z => by
    have h : PyData.strOk "refused" = true := by decide +kernel
    simp only [resD, PyData.canLay0, PyData.canLayAll0, h, Bool.and_true]
theorem res_sh (o : Option Int) : SeqAt.shaped (resD o) = true := by
  refine shaped_of (res_lay o) ?_
  cases o <;> simp [resD, PyData.depth, PyData.depthAll]
theorem res_eq (o : Option Int) : PyData.eqv (resD o) (resD o) = true := SeqAt.eqv_refl _ (res_lay o)
theorem res_dp {H : Hp} {p : Addr} : ∀ {o : Option Int}, H p = some (.tup (resV o)) → Dp K H (.ref p) (resD o)
  | none, h => .tup (sqT_new h) (.cons (.str _) (.cons .non .nil))
  | some z, h => .tup (sqT_new h) (.cons (.str _) (.cons (.int z) (.cons (.bl true) .nil)))
theorem ne_res {H : Hp} {p t : Addr} {o : Option Int} {Q : VK} (hp : H p = some (.tup (resV o))) (ht : H t = some (.tup (resV o))) (q : Q (.bl false) H) : rNeD K (.ref p) (.ref t) H Q :=
  ⟨resD o, resD o, res_dp hp, res_dp ht, res_sh o, res_sh o, by rw [res_eq]; exact q⟩
theorem eq_res {H : Hp} {p t : Addr} {o : Option Int} {Q : VK} (hp : H p = some (.tup (resV o))) (ht : H t = some (.tup (resV o))) (q : Q (.bl true) H) : rEqD K (.ref p) (.ref t) H Q :=
  ⟨resD o, resD o, res_dp hp, res_dp ht, res_sh o, res_sh o, by rw [res_eq]; exact q⟩
end
/-! ### texts that are no names -/
theorem no_name_of {z : Str} {c : Nat} (h : c ∈ ls z) (hc : lowC c = false) : isName z = false := by
  cases e : isName z with
  | false => rfl
  | true =>
    rw [(name_iff.mp e).2.2 c h] at hc
    cases hc
theorem no_name_len {z : Str} (h : (ls z).length = 0 ∨ 5 < (ls z).length) : isName z = false := by
  cases e : isName z with
  | false => rfl
  | true =>
    have := name_iff.mp e
    omega
theorem up_low : ∀ r : Fin 26, lowC (PyProof.Rows.up1 (97 + r.1)) = false := by decide +kernel
theorem no_upper {z : Str} (h : isName z = true) : isName (Txt.upper z) = false ∧ (Txt.upper z).length ≤ 100 := by
  obtain ⟨h1, h2, h3⟩ := name_iff.mp h
  have e : Txt.upper z = SX.S ((ls z).map PyProof.Rows.up1) := by
    have h4 := SX.upper_S (a := ls z) (List.all_eq_true.mpr fun c hc => by
      obtain ⟨r, hr⟩ := low_of (h3 c hc)
      rw [hr]
      exact decide_eq_true (by omega))
    have h5 : SX.S (ls z) = z := SX.S_tl z
    rw [h5] at h4
    exact h4
  have el : ls (Txt.upper z) = (ls z).map PyProof.Rows.up1 := by
    rw [e]
    unfold ls
    simp
  refine ⟨?_, by rw [ls_len, el, List.length_map]; omega⟩
  cases hz : ls z with
  | nil =>
    rw [hz] at h1
    simp at h1
  | cons c r =>
    obtain ⟨k, hk⟩ := low_of (h3 c (by rw [hz]; exact List.mem_cons_self))
    refine no_name_of (c := PyProof.Rows.up1 c) ?_ ?_
    · rw [el, hz]
      exact List.mem_cons_self
    · rw [hk]
      exact up_low k
end Kb
namespace Kb
open PySem PySem.Spec PyProof.Rows L2
theorem ls_cut4 (z : Str) : ls (cutS z none (some (4 : Int))) = (ls z).take 4 := ls_cutTo z 4
theorem ls_cut6 (z : Str) : ls (cutS z none (some (6 : Int))) = (ls z).take 6 := ls_cutTo z 6
theorem ls_cut1 (z : Str) : ls (cutS z none (some (1 : Int))) = (ls z).take 1 := ls_cutTo z 1
theorem ls_abcdef : ls (Str.ofString "abcdef") = [97, 98, 99, 100, 101, 102] := by decide +kernel
theorem ls_1 : ls (Str.ofString "1") = [49] := by decide +kernel
theorem ls_b : ls (Str.ofString " ") = [32] := by decide +kernel
theorem ls_0 : ls (Str.ofString "") = [] := by decide +kernel
theorem no_six (z : Str) : isName (cutS (z ++ Str.ofString "abcdef") none (some (6 : Int))) = false ∧ (cutS (z ++ Str.ofString "abcdef") none (some (6 : Int))).length ≤ 100 := by
  have e : (ls (cutS (z ++ Str.ofString "abcdef") none (some (6 : Int)))).length = 6 := by
    rw [ls_cut6, ls_add, ls_abcdef, List.length_take, List.length_append]
    show min 6 ((ls z).length + 6) = 6
    omega
  exact ⟨no_name_len (by omega), by rw [ls_len, e]; decide⟩
theorem no_sign (z : Str) {t : Str} {c : Nat} (ht : ls t = [c]) (hc : lowC c = false) : isName (cutS z none (some (4 : Int)) ++ t) = false ∧ (cutS z none (some (4 : Int)) ++ t).length ≤ 100 := by
  refine ⟨no_name_of (c := c) (by rw [ls_add, ht]; exact List.mem_append_right _ List.mem_cons_self) hc, ?_⟩
  rw [ls_len, ls_add, ls_cut4, ht, List.length_append, List.length_take, List.length_singleton]
  omega
/-- one wrong item put into a row -/
theorem spoilt_get {rv : List V} {v : V} {pl : Nat} (h : pl ≤ rv.length) (more : List V) : ((rv.take pl ++ [v]) ++ more)[pl]? = some v := by
  have e : (rv.take pl).length = pl := by rw [List.length_take]; omega
  rw [List.getElem?_append_left (by rw [List.length_append, e]; exact Nat.lt_succ_self _), List.getElem?_append_right (by omega), e, Nat.sub_self]
  rfl
theorem spoilt_before {rv : List V} {v : V} {pl : Nat} (h : pl ≤ rv.length) (more : List V) (ok : ∀ y ∈ rv, okV y = true) : ∀ (j : Nat) (y : V), j < pl → ((rv.take pl ++ [v]) ++ more)[j]? = some y → okV y = true := fun j y hj hy => by
  have e : (rv.take pl).length = pl := by rw [List.length_take]; omega
  rw [List.getElem?_append_left (by rw [List.length_append, e]; omega), List.getElem?_append_left (by omega)] at hy
  exact ok y (List.mem_of_mem_take (List.mem_of_getElem? hy))
section
variable {P : Program} {w : World} {K : PySem.W.Frag} {mg : Str → Option Value} {base : Heap}
abbrev nRows : List Str := ["box", "row", "name", "odd", "place", "wrong", "spoilt", "long"]
theorem scRows : FnScope nRows ["box", "row", "name"] (defScope sChecked) := ⟨rfl, rfl, rfl, by decide +kernel, rfl, by decide +kernel, by decide +kernel⟩
def spRows : Sp := fun vs H Q _ => ∃ (x a : Addr) (us : List Str) (nme : Str), vs = [.ref x, .ref a, .str nme] ∧ Box H x ∧ H a = some (.tup (us.map V.str)) ∧ us.length ≤ 100 ∧ (∀ z ∈ us, isName z = true) ∧ isName nme = true ∧ ∀ H', But x H H' → Box H' x → Q (.bl true) H'
theorem ok_rows {f C S fI fC fN fL fR fT fP : Addr} {fd dI dC dN dL dR dT dP : FuncData} (F : Fun K "_law_rows_checked" "_law_rows_checked" sChecked f fd) (T : CheckFn K mg C fI fC fN fL dI dC dN dL) (Z : CatchC K mg C S) (kC : KBinds K dC ["row"] ["row"] Ka.snG Ka.snG)
    (FR : Fun K "_law_refused" "_law_refused" sRefused fR dR) (bR : Binds K dR ["value"] []) (gR : mg "_law_refused" = some (.ref fR)) (FT : Fun K "_law_take" "_law_take" sTake fT dT) (bT : Binds K dT ["box", "many"] []) (gT : mg "_law_take" = some (.ref fT))
    (FP : Fun K "_law_pick" "_law_pick" sPick fP dP) (bP : Binds K dP ["box", "some"] []) (gP : mg "_law_pick" = some (.ref fP)) (N : Nones mg) : FnOk P w K mg base CX0 6 f fd ["box", "row", "name"] spRows := by
  obtain ⟨t1, g5⟩ := T.t5
  obtain ⟨t2, g400⟩ := T.t400
  have GC : FnOk P w K mg base (L2.CX P w) 3 fC dC ["row"] (spCheck K C) := ok_check T.C_ T.R T.N T.bN T.gN T.L T.bL T.gL g5 g400 N.isinstance N.str N.len N.all N.tuple N.enumerate
  have GR : FnOk P w K mg base CX0 5 fR dR ["value"] (spRefused K) := ok_refused FR T Z N.isinstance N.str N.len N.all N.tuple N.enumerate N.valueError
  have GT : FnOk P w K mg base CX0 1 fT dT ["box", "many"] spTake := ok_take FT N.int
  have GP : FnOk P w K mg base CX0 2 fP dP ["box", "some"] spPick := ok_pick FP FT bT gT N.int N.len
  refine F.ok scRows (fun vs H Q E h => ?_) (fun cdv A outer s H vs Q E hr h => ?_)
  · obtain ⟨x, a, us, nme, rfl, _⟩ := h
    rfl
  · obtain ⟨x, a, us, nme, rfl, hx, ea, hul, hus, hnme, q⟩ := h
    have hr1 := hr.mono (show 1 ≤ 5 by decide)
    have hr2 := hr.mono (show 2 ≤ 5 by decide)
    have hr3 := hr.mono (show 3 ≤ 5 by decide)
    refine ⟨_, pss_cons (ps_if (PW.pt (pw_or (pt_cmpR op_notN (Ka.pe_callK0 GC hr3 (by rfl) T.gC T.C_.kp kC passL (pk_cons (pv 1) pk_nil)) pe_non (nomark _))
          (pw_or (pt_cmpR (op_neD hr.units) (pe_call GR hr (by rfl) gR FR.kp bR .nil pass0 (pa_cons (pv 1) pa_nil)) (pe_tup (pa_cons pe_str (pa_cons pe_non pa_nil))) (nomark _))
            (pw_or1 (pt_cmpR (op_neD hr.units) (pe_call GR hr (by rfl) gR FR.kp bR .nil pass0 (pa_cons (pe_callTy call_list_of (by rfl) N.list (by decide +kernel) (pa_cons (pv 1) pa_nil)) pa_nil)) (pe_tup (pa_cons pe_str (pa_cons (pe_op op_sub pe_int pe_int) (pa_cons pe_bl pa_nil)))) (nomark _)))))) (pss_one (ps_ret pe_bl)) pss_nil)
      (pss_cons (ps_set (i := 3) scRows.nd rfl (.inl rfl) (pe_call GP hr2 (by rfl) gP FP.kp bP .nil pass0 (pa_cons (pv 0) (pa_cons (pe_lst (pa_cons (pv 2) (pa_cons pe_non (pa_cons pe_int (pa_cons (pe_tup (pa_cons (pv 2) pa_nil)) (pa_cons pe_str (pa_cons pe_int pa_nil))))))) pa_nil))))
      (pss_cons (ps_if (pt_cmpR (op_neD hr.units) (pe_call GR hr (by rfl) gR FR.kp bR .nil pass0 (pa_cons (pv 3) pa_nil)) (pe_ifExp (pt_cmpR (op_eqD hr.units) (pv 3) (pe_tup (pa_cons (pv 2) pa_nil)) (nomark _)) (pe_tup (pa_cons pe_str (pa_cons pe_non pa_nil))) (pe_tup (pa_cons pe_str (pa_cons (pe_op op_sub pe_int pe_int) (pa_cons pe_bl pa_nil))))) (nomark _)) (pss_one (ps_ret pe_bl)) pss_nil)
      (pss_cons (ps_set (i := 4) scRows.nd rfl (.inl rfl) (pe_call GT hr1 (by rfl) gT FT.kp bT .nil pass0 (pa_cons (pv 0) (pa_cons (pe_op op_add (pe_callB call_len_seq (by rfl) N.len PySem.boot_len (pa_cons (pv 1) pa_nil)) pe_int) pa_nil))))
      (pss_cons (ps_set (i := 5) scRows.nd rfl (.inl rfl) (pe_call GP hr2 (by rfl) gP FP.kp bP .nil pass0 (pa_cons (pv 0) (pa_cons (pe_lst (pa_cons pe_str (pa_cons (pe_upper (pv 2)) (pa_cons (pe_slice sl_str (pe_op op_add_str (pv 2) pe_str) po_none (po_some pe_int)) (pa_cons (pe_op op_add_str (pe_slice sl_str (pv 2) po_none (po_some pe_int)) pe_str)
          (pa_cons pe_non (pa_cons pe_int (pa_cons (pe_tup (pa_cons (pv 2) pa_nil)) (pa_cons (pe_op op_add_str (pe_slice sl_str (pv 2) po_none (po_some pe_int)) pe_str) (pa_cons pe_bl (pa_cons (pe_lst (pa_cons (pv 2) pa_nil)) pa_nil))))))))))) pa_nil))))
      (pss_cons (ps_set (i := 6) scRows.nd rfl (.inl rfl) (pe_op op_catA (pe_op op_catA (pe_slice sl_tupA (pv 1) po_none (po_some (pv 4))) (pe_tup (pa_cons (pv 5) pa_nil))) (pe_slice sl_tupA (pv 1) (po_some (pv 4)) po_none)))
      (pss_cons (ps_if (PW.pt (pw_or (pt_cmpR (op_neD hr.units) (pe_call GR hr (by rfl) gR FR.kp bR .nil pass0 (pa_cons (pv 6) pa_nil)) (pe_tup (pa_cons pe_str (pa_cons (pv 4) (pa_cons pe_bl pa_nil)))) (nomark _))
          (pw_or1 (pt_cmpR (op_neD hr.units) (pe_call GR hr (by rfl) gR FR.kp bR .nil pass0 (pa_cons (pe_op op_catA (pv 6) (pe_tup (pa_cons (pv 5) pa_nil))) pa_nil)) (pe_tup (pa_cons pe_str (pa_cons (pv 4) (pa_cons pe_bl pa_nil)))) (nomark _))))) (pss_one (ps_ret pe_bl)) pss_nil)
      (pss_cons (ps_if (pt_cmpR op_gt (pe_call GT hr1 (by rfl) gT FT.kp bT .nil pass0 (pa_cons (pv 0) (pa_cons pe_int pa_nil))) pe_int (nomark _)) (pss_one (ps_ret pe_bl)) pss_nil)
      (pss_cons (ps_set (i := 7) scRows.nd rfl (.inl rfl) (pe_op op_repT (pe_tup (pa_cons (pe_slice sl_str (pv 2) po_none (po_some pe_int)) pa_nil)) pe_int))
      (pss_cons (ps_if (PW.pt (pw_or (pt_cmpR (op_neD hr.units) (pe_call GR hr (by rfl) gR FR.kp bR .nil pass0 (pa_cons (pv 7) pa_nil)) (pe_tup (pa_cons pe_str (pa_cons pe_non pa_nil))) (nomark _))
          (pw_or1 (pt_cmpR (op_neD hr.units) (pe_call GR hr (by rfl) gR FR.kp bR .nil pass0 (pa_cons (pe_op op_catA (pv 7) (pe_tup (pa_cons (pv 2) pa_nil))) pa_nil)) (pe_tup (pa_cons pe_str (pa_cons pe_int (pa_cons pe_bl pa_nil)))) (nomark _))))) (pss_one (ps_ret pe_bl)) pss_nil)
      (pss_one (ps_ret (pe_cmpR (op_eqD hr.units) (pe_call GR hr (by rfl) gR FR.kp bR .nil pass0 (pa_cons (pe_op op_catA (pe_slice sl_tupA (pv 7) po_none (po_some pe_int)) (pe_tup (pa_cons (pv 5) (pa_cons (pv 2) pa_nil)))) pa_nil)) (pe_tup (pa_cons pe_str (pa_cons pe_int (pa_cons pe_bl pa_nil)))) (nomark _))))))))))))), ?_⟩
    have s1000 : ∀ n, n ≤ 1000000 → n ≤ sizeLine := fun n h => smallE h
    obtain ⟨m1, m2, m3⟩ := name_iff.mp hnme
    have hns : nme.length ≤ sizeLine := s1000 _ (by rw [ls_len]; omega)
    have eaB : ∀ {H H'}, Box H x → But x H H' → H a = some (.tup (us.map V.str)) → H' a = some (.tup (us.map V.str)) := fun {H H'} b k e => k _ _ (fun w => by
      obtain ⟨b0, b1, b2, hb⟩ := b
      rw [w, hb] at e
      cases e) e
    have rowOk : ∀ H', ∀ y ∈ us.map V.str, okV y = true ∧ Asked K H' y := fun H' y hy => by
      obtain ⟨z, hz, rfl⟩ := List.mem_map.mp hy
      exact nameAsked (hus z hz)
    have hl400 : (us.map V.str).length ≤ 400 := by rw [List.length_map]; omega
    -- check_row(row=row) is not None
    refine ⟨.ref a, rfl, ?_⟩
    dsimp only [tNil]
    refine check_of (v := .ref a) (o := none) (ans_row (sqT_new ea) hl400 (rowOk H)) (fun _ H1 s1 => ?_) (fun z e => by cases e)
    refine ⟨rfl, _, rfl, iteF ?_⟩
    -- _law_refused(row) != ("told", None)
    refine ⟨.ref a, rfl, .ref a, none, rfl, ans_row (sqT_new (s1 _ _ ea)) hl400 (rowOk H1), fun H2 p2 s2 np2 ep2 => ?_⟩
    refine ⟨s1000 2 (by decide), fun t3 nt3 => ?_⟩
    have s3 := same_new (o := .tup [.str "told", .non]) nt3
    refine ne_res (o := none) (s3 _ _ ep2) upd_same ⟨_, rfl, iteF ?_⟩
    have r3 := (s1.trans s2).trans s3
    generalize upd H2 t3 (.tup [.str "told", .non]) = H3 at r3 ⊢
    -- _law_refused(list(row)) != ("refused", 0 - 1, True)
    refine ⟨.ref a, rfl, a, _, rfl, .inr (sqT_new (r3 _ _ ea)), fun l4 nl4 => ?_⟩
    have r4 := r3.trans (same_new (o := .lst (us.map V.str)) nl4)
    refine ⟨.ref l4, some (-1), rfl, .inl ⟨rfl, "list", .base (.lst upd_same), by decide +kernel⟩, fun H5 p5 s5 np5 ep5 => ?_⟩
    have r5 := r4.trans s5
    refine ⟨0, 1, rfl, rfl, s1000 3 (by decide), fun t6 nt6 => ?_⟩
    have s6 := same_new (o := .tup (resV (some (-1)))) nt6
    refine ne_res (o := some (-1)) (s6 _ _ ep5) (upd_same (o := .tup (resV (some (-1))))) ⟨_, rfl, iteF ?_⟩
    have r6 := r5.trans s6
    change tNext _ _ (upd H5 t6 (.tup (resV (some (-1)))))
    generalize upd H5 t6 (.tup (resV (some (-1)))) = H6 at r6 ⊢
    have b6 := hx.mono r6
    have ea6 := r6 _ _ ea
    -- odd
    refine ⟨.ref x, rfl, .str nme, rfl, .str nme, rfl, s1000 1 (by decide), fun t7 nt7 => ⟨s1000 6 (by decide), fun l8 nl8 => ?_⟩⟩
    have s7 := same_new (o := .tup [.str nme]) nt7
    have s8 := s7.trans (same_new (o := .lst [.str nme, .non, .int 7, .ref t7, .str "", .int 0]) nl8)
    have et8 : upd (upd H6 t7 (.tup [.str nme])) l8 (.lst [.str nme, .non, .int 7, .ref t7, .str "", .int 0]) t7 = some (.tup [.str nme]) := same_new nl8 _ _ upd_same
    have b8 := b6.mono s8
    have hlx : l8 ≠ x := (b6.mono s7).ne nl8
    refine ⟨x, l8, _, rfl, b8, hlx, upd_same, by show 0 < 6; decide, by show 6 < 1000000; decide, fun i v H9 hv k9 b9 => ?_⟩
    have ht7x : t7 ≠ x := b6.ne nt7
    have et9 := k9 _ _ ht7x et8
    have kk9 : But x H6 H9 := (But.of s8).trans k9
    have ea9 := eaB b6 kk9 ea6
    have sh1 : SeqAt.shaped (Ka.rowD [nme]) = true := shR fun z hz => by
      rw [List.mem_singleton.mp hz]
      exact hnme
    have odd : ∃ (o : Option Int) (d : PyData), CheckAns K H9 v o ∧ (∀ H', Same H9 H' → Dp K H' v d) ∧ SeqAt.shaped d = true ∧ PyData.eqv d (Ka.rowD [nme]) = decide (o = none) ∧ (o = none ∨ o = some (-1)) := by
      have flat : ∀ (v : V) (ty : String) (d : PyData), TyX K H9 v (.type ty) → kitB ty "tuple" = some false → (∀ H', Dp K H' v d) → SeqAt.shaped d = true → PyData.eqv d (Ka.rowD [nme]) = false → ∃ (o : Option Int) (d : PyData), CheckAns K H9 v o ∧ (∀ H', Same H9 H' → Dp K H' v d) ∧ SeqAt.shaped d = true ∧ PyData.eqv d (Ka.rowD [nme]) = decide (o = none) ∧ (o = none ∨ o = some (-1)) :=
        fun v ty d h1 h2 h3 h4 h5 => ⟨some (-1), d, .inl ⟨rfl, ty, h1, h2⟩, fun H' _ => h3 H', h4, h5, .inr rfl⟩
      match i, hv with
      | 0, hv =>
        cases hv
        exact flat _ "str" (.str nme) (.base (.str nme)) (by decide +kernel) (fun _ => .str nme) (shaped_of (by rw [PyData.canLay0]; exact name_ok hnme) (by simp [PyData.depth])) (by simp [PyData.eqv, Ka.rowD])
      | 1, hv =>
        cases hv
        exact flat _ "NoneType" .none (.base .non) (by decide +kernel) (fun _ => .non) (by decide +kernel) (by simp [PyData.eqv, Ka.rowD])
      | 2, hv =>
        cases hv
        exact flat _ "int" (.int 7) (.base (.int 7)) (by decide +kernel) (fun _ => .int 7) (by decide +kernel) (by simp [PyData.eqv, Ka.rowD])
      | 3, hv =>
        cases hv
        refine ⟨none, Ka.rowD [nme], ans_row (sqT_new et9) (by show 1 ≤ 400; decide) (fun y hy => by
          rw [List.mem_singleton.mp hy]
          exact nameAsked hnme), fun H' s' => dpR (r := [nme]) (s' _ _ et9), sh1, by rw [eqR, decide_eq_true rfl, decide_eq_true rfl], .inl rfl⟩
      | 4, hv =>
        cases hv
        exact flat _ "str" (.str "") (.base (.str _)) (by decide +kernel) (fun _ => .str _) (by decide +kernel) (by simp [PyData.eqv, Ka.rowD])
      | 5, hv =>
        cases hv
        exact flat _ "int" (.int 0) (.base (.int 0)) (by decide +kernel) (fun _ => .int 0) (by decide +kernel) (by simp [PyData.eqv, Ka.rowD])
      | n + 6, hv => cases hv
    obtain ⟨o, d, hans, hdp, hsh, heqv, ho⟩ := odd
    refine ⟨v, rfl, v, o, rfl, hans, fun H10 p10 s10 np10 ep10 => ?_⟩
    refine ⟨v, rfl, .str nme, rfl, s1000 1 (by decide), fun t11 nt11 => ?_⟩
    have s11 := same_new (o := .tup [.str nme]) nt11
    refine ⟨d, Ka.rowD [nme], hdp _ (s10.trans s11), dpR (r := [nme]) upd_same, hsh, sh1, ?_⟩
    rw [heqv]
    refine ⟨_, rfl, ?_⟩
    generalize hX : tSeq (tAsg (tCall spTake [] E0 _) (gName 4)) _ _ = X
    have fin : ∀ H', Same H9 H' → X [some (.ref x), some (.ref a), some (.str nme), some v, none, none, none, none] H' := fun H12 s12 => by
      rw [← hX]
      have b12 := b9.mono s12
      have ea12 := s12 _ _ ea9
      refine ⟨.ref x, rfl, .ref a, rfl, a, _, rfl, .inr (sqT_new ea12), _, 1, rfl, rfl, x, us.length + 1, (by show [V.ref x, V.int (((us.map V.str).length : Nat) + 1)] = _; rw [List.length_map]; rfl), b12, Nat.succ_pos _, by omega, fun pl H13 hpl k13 b13 => ?_⟩
      have ea13 := eaB b12 k13 ea12
      -- wrong
      have hn6 : ((Str.ofString "abcdef").length : Nat) = 6 := by decide +kernel
      have hn1 : ((Str.ofString "1").length : Nat) = 1 := by decide +kernel
      have hnb : ((Str.ofString " ").length : Nat) = 1 := by decide +kernel
      have hz5 : nme.length ≤ 5 := by rw [ls_len]; exact m2
      have hcut : (cutS nme none (some (4 : Int))).length ≤ 5 := by
        rw [ls_len]
        rw [ls_cut4, List.length_take]
        omega
      refine ⟨.ref x, rfl, .str nme, rfl, ⟨_, rfl⟩, nme, rfl, rfl, by omega, ?_⟩
      refine ⟨.str nme, rfl, nme, Str.ofString "abcdef", rfl, rfl, by rw [hn6]; exact s1000 _ (by omega), 6, rfl, _, rfl, ?_, ?_⟩
      · rw [ls_len, ls_add, List.length_append, ls_abcdef, ← ls_len]
        refine s1000 _ ?_
        show nme.length + 6 ≤ 1000000
        omega
      refine ⟨.str nme, rfl, 4, rfl, nme, rfl, hns, _, Str.ofString "1", rfl, rfl, by rw [hn1]; exact s1000 _ (by omega), ?_⟩
      refine ⟨.str nme, rfl, s1000 1 (by decide), fun t14 nt14 => ?_⟩
      refine ⟨.str nme, rfl, 4, rfl, nme, rfl, hns, _, Str.ofString " ", rfl, rfl, by rw [hnb]; exact s1000 _ (by omega), ?_⟩
      refine ⟨.str nme, rfl, s1000 1 (by decide), fun l15 nl15 => ⟨s1000 10 (by decide), fun L16 nL16 => ?_⟩⟩
      have u14 := same_new (o := .tup [.str nme]) nt14
      have u15 := u14.trans (same_new (o := .lst [.str nme]) nl15)
      have et15 : upd (upd H13 t14 (.tup [.str nme])) l15 (.lst [.str nme]) t14 = some (.tup [.str nme]) := same_new nl15 _ _ upd_same
      have el15 : upd (upd H13 t14 (.tup [.str nme])) l15 (.lst [.str nme]) l15 = some (.lst [.str nme]) := upd_same
      have hl15 : l15 ≠ x := (b13.mono u14).ne nl15
      generalize upd (upd H13 t14 (.tup [.str nme])) l15 (.lst [.str nme]) = H15 at u15 et15 el15 nL16 ⊢
      have b15 := b13.mono u15
      refine ⟨x, L16, _, rfl, b15.mono (same_new nL16), b15.ne nL16, upd_same, by show 0 < 10; decide, by show 10 < 1000000; decide, fun i2 v2 H17 hv2 k17 b17 => ?_⟩
      have w17 : But x H15 H17 := (But.of (same_new nL16)).trans k17
      have ea17 := eaB b15 w17 (u15 _ _ ea13)
      have wr : Wrong x H17 v2 := by
        refine Wrong.but (H := H15) ?_ b15 w17
        match i2, hv2 with
        | 0, hv =>
          cases hv
          exact .inl ⟨_, rfl, no_name_len (.inl (by rw [ls_0]; rfl)), by decide +kernel⟩
        | 1, hv =>
          cases hv
          exact .inl ⟨_, rfl, (no_upper hnme).1, (no_upper hnme).2⟩
        | 2, hv =>
          cases hv
          exact .inl ⟨_, rfl, (no_six nme).1, (no_six nme).2⟩
        | 3, hv =>
          cases hv
          exact .inl ⟨_, rfl, (no_sign nme ls_1 (by decide)).1, (no_sign nme ls_1 (by decide)).2⟩
        | 4, hv =>
          cases hv
          exact .inr (.inl rfl)
        | 5, hv =>
          cases hv
          exact .inr (.inr (.inl ⟨_, rfl⟩))
        | 6, hv =>
          cases hv
          exact .inr (.inr (.inr (.inr (.inl ⟨t14, nme, rfl, et15⟩))))
        | 7, hv =>
          cases hv
          exact .inl ⟨_, rfl, (no_sign nme ls_b (by decide)).1, (no_sign nme ls_b (by decide)).2⟩
        | 8, hv =>
          cases hv
          exact .inr (.inr (.inr (.inl ⟨_, rfl⟩)))
        | 9, hv =>
          cases hv
          exact .inr (.inr (.inr (.inr (.inr ⟨l15, nme, rfl, hl15, el15⟩))))
        | n + 10, hv => cases hv
      have wbad : okV v2 = false := (wr.bad (K := K)).1
      have hrl : (us.map V.str).length ≤ 100 := by rw [List.length_map]; exact hul
      have hple : pl ≤ (us.map V.str).length := by rw [List.length_map]; omega
      have okR : ∀ y ∈ us.map V.str, okV y = true := fun y hy => (rowOk H17 y hy).1
      -- spoilt
      refine ⟨.ref a, rfl, .int (pl : Nat), rfl, (pl : Nat), rfl, slR_take (sqT_new ea17) fun H18 p18 s18 h18 => ?_⟩
      refine ⟨v2, rfl, s1000 1 (by decide), fun t19 nt19 => ?_⟩
      have s19 := same_new (o := .tup [v2]) nt19
      refine catR (Same.sqT s19 h18) (sqT_new upd_same) (by rw [List.length_take, List.length_singleton]; omega) fun H20 p20 s20 h20 => ?_
      have r20 := (s18.trans s19).trans s20
      refine ⟨.ref a, rfl, .int (pl : Nat), rfl, (pl : Nat), rfl, ?_⟩
      dsimp only [tNoPart]
      refine slR_drop (sqT_new (r20 _ _ ea17)) fun H21 p21 s21 h21 => ?_
      refine catR (Same.sqT s21 h20) h21 (by rw [List.length_append, List.length_take, List.length_singleton, List.length_drop]; omega) fun H22 p22 s22 h22 => ?_
      have r22 := (r20.trans s21).trans s22
      have hxl : (((us.map V.str).take pl ++ [v2]) ++ (us.map V.str).drop pl).length ≤ 200 := by
        rw [List.length_append, List.length_append, List.length_take, List.length_singleton, List.length_drop]
        omega
      have askX : ∀ H', Same H17 H' → ∀ y ∈ ((us.map V.str).take pl ++ [v2]) ++ (us.map V.str).drop pl, Asked K H' y := fun H' s' y hy => by
        rcases List.mem_append.mp hy with h | h
        · rcases List.mem_append.mp h with h | h
          · exact (rowOk H' y (List.mem_of_mem_take h)).2
          · rw [List.mem_singleton.mp h]
            exact ((wr.mono s').bad (K := K)).2
        · exact (rowOk H' y (List.mem_of_mem_drop h)).2
      -- _law_refused(spoilt) != ("refused", place, True)
      refine ⟨.ref p22, rfl, .ref p22, some ((pl : Nat) : Int), rfl, ans_at h22 (askX _ r22) (spoilt_get hple _) (spoilt_before hple _ okR) (by omega) (.inr wbad), fun H23 p23 s23 np23 ep23 => ?_⟩
      refine ⟨.int (pl : Nat), rfl, s1000 3 (by show 3 ≤ 1000000; decide), fun t24 nt24 => ?_⟩
      have s24 := same_new (o := .tup (resV (some ((pl : Nat) : Int)))) nt24
      refine ne_res (o := some ((pl : Nat) : Int)) (s24 _ _ ep23) (upd_same (o := .tup (resV (some ((pl : Nat) : Int))))) ⟨_, rfl, iteF ?_⟩
      have r24 := (r22.trans s23).trans s24
      have q24 := s23.trans s24
      -- _law_refused(spoilt + (wrong,)) != ("refused", place, True)
      refine ⟨.ref p22, rfl, v2, rfl, s1000 1 (by decide), fun t25 nt25 => ?_⟩
      have s25 := same_new (o := .tup [v2]) nt25
      refine catR (Same.sqT (q24.trans s25) h22) (sqT_new upd_same) (by rw [List.length_singleton]; omega) fun H26 p26 s26 h26 => ?_
      have r26 := (r24.trans s25).trans s26
      rw [List.append_assoc] at h26
      refine ⟨.ref p26, some ((pl : Nat) : Int), rfl, ans_at h26 (fun y hy => ?_) (spoilt_get hple _) (spoilt_before hple _ okR) (by omega) (.inr wbad), fun H27 p27 s27 np27 ep27 => ?_⟩
      · rw [← List.append_assoc] at hy
        rcases List.mem_append.mp hy with h | h
        · exact askX _ r26 y h
        · rw [List.mem_singleton.mp h]
          exact ((wr.mono r26).bad (K := K)).2
      refine ⟨.int (pl : Nat), rfl, s1000 3 (by show 3 ≤ 1000000; decide), fun t28 nt28 => ?_⟩
      have s28 := same_new (o := .tup (resV (some ((pl : Nat) : Int)))) nt28
      refine ne_res (o := some ((pl : Nat) : Int)) (s28 _ _ ep27) (upd_same (o := .tup (resV (some ((pl : Nat) : Int))))) ⟨_, rfl, iteF ?_⟩
      have r28 := (r26.trans s27).trans s28
      have w28 : But x H17 _ := But.of r28
      -- _law_take(box, 4) > 0
      have b28 := b17.mono r28
      refine ⟨.ref x, rfl, x, 4, rfl, b28, by decide, by decide, fun four H29 hfour k29 b29 => ⟨_, 0, rfl, rfl, _, rfl, ite2 (fun c => ?_) (fun c => ?_)⟩⟩
      · exact q _ (((((((But.of r6).trans kk9).trans (But.of s12)).trans k13).trans (But.of u15)).trans w17).trans (But.trans w28 k29)) b29
      · have wr29 : Wrong x H29 v2 := (wr.mono r28).but b28 k29
        have tot : But x H H29 := ((((((But.of r6).trans kk9).trans (But.of s12)).trans k13).trans (But.of u15)).trans w17).trans (But.trans w28 k29)
        have hn1' : isName (cutS nme none (some (1 : Int))) = true := by
          rw [name_iff, ls_cut1, List.length_take]
          exact ⟨by omega, by omega, fun c hc => m3 c (List.mem_of_mem_take hc)⟩
        -- long
        refine ⟨.str nme, rfl, 1, rfl, nme, rfl, hns, s1000 1 (by show 1 ≤ 1000000; decide), fun t30 nt30 => ?_⟩
        have s30 := same_new (o := .tup [.str (cutS nme none (some (1 : Int)))]) nt30
        refine ⟨t30, 400, _, rfl, rfl, sqT_new upd_same, (fun w => by cases w), by decide, by decide, by show 1 ≤ 1000; decide, fun p31 np31 => ?_⟩
        have s31 := s30.trans (same_new (o := .tup (List.replicate (400 : Int).toNat [V.str (cutS nme none (some (1 : Int)))]).flatten) np31)
        have e31 : upd (upd H29 t30 (.tup [.str (cutS nme none (some (1 : Int)))])) p31 (.tup (List.replicate (400 : Int).toNat [V.str (cutS nme none (some (1 : Int)))]).flatten) p31 = some (.tup (List.replicate 400 (V.str (cutS nme none (some (1 : Int)))))) := by
          rw [upd_same, List.flatten_replicate_singleton]
          rfl
        generalize upd (upd H29 t30 (.tup [.str (cutS nme none (some (1 : Int)))])) p31 (.tup (List.replicate (400 : Int).toNat [V.str (cutS nme none (some (1 : Int)))]).flatten) = H31 at s31 e31 ⊢
        have okL : ∀ H', ∀ y ∈ List.replicate 400 (V.str (cutS nme none (some (1 : Int)))), okV y = true ∧ Asked K H' y := fun H' y hy => by
          rw [List.eq_of_mem_replicate hy]
          exact nameAsked hn1'
        -- _law_refused(long) != ("told", None)
        refine ⟨.ref p31, rfl, .ref p31, none, rfl, ans_row (sqT_new e31) (by rw [List.length_replicate]; exact Nat.le_refl _) (okL H31), fun H32 p32 s32 np32 ep32 => ?_⟩
        refine ⟨s1000 2 (by decide), fun t33 nt33 => ?_⟩
        have s33 := same_new (o := .tup [.str "told", .non]) nt33
        refine ne_res (o := none) (s33 _ _ ep32) upd_same ⟨_, rfl, iteF ?_⟩
        have r33 := s32.trans s33
        -- _law_refused(long + (name,)) != ("refused", 400, True)
        refine ⟨.ref p31, rfl, .str nme, rfl, s1000 1 (by show 1 ≤ 1000000; decide), fun t34 nt34 => ?_⟩
        have s34 := same_new (o := .tup [.str nme]) nt34
        refine catR (sqT_new (s34 _ _ (r33 _ _ e31))) (sqT_new upd_same) (by rw [List.length_replicate, List.length_singleton]; decide) fun H35 p35 s35 h35 => ?_
        have r35 := (r33.trans s34).trans s35
        refine ⟨.ref p35, some ((400 : Nat) : Int), rfl, ans_at (x := .str nme) h35 (fun y hy => ?_) ?_ (fun jj y hj hy => ?_) (Nat.le_refl _) (.inl rfl), fun H36 p36 s36 np36 ep36 => ?_⟩
        · rcases List.mem_append.mp hy with h | h
          · exact (okL H35 y h).2
          · rw [List.mem_singleton.mp h]
            exact (nameAsked hnme).2
        · rw [List.getElem?_append_right (by rw [List.length_replicate]; exact Nat.le_refl _), List.length_replicate]
          rfl
        · rw [List.getElem?_append_left (by rw [List.length_replicate]; exact hj)] at hy
          exact (okL H35 y (List.mem_of_getElem? hy)).1
        refine ⟨s1000 3 (by show 3 ≤ 1000000; decide), fun t37 nt37 => ?_⟩
        have s37 := same_new (o := .tup (resV (some ((400 : Nat) : Int)))) nt37
        refine ne_res (o := some ((400 : Nat) : Int)) (s37 _ _ ep36) (upd_same (o := .tup (resV (some ((400 : Nat) : Int))))) ⟨_, rfl, iteF ?_⟩
        have r37 := (r35.trans s36).trans s37
        -- _law_refused(long[:399] + (wrong, name)) == ("refused", 399, True)
        refine ⟨.ref p31, rfl, 399, rfl, slR_take (j := 399) (sqT_new (r37 _ _ e31)) fun H38 p38 s38 h38 => ?_⟩
        refine ⟨v2, rfl, .str nme, rfl, s1000 2 (by show 2 ≤ 1000000; decide), fun t39 nt39 => ?_⟩
        have s39 := same_new (o := .tup [v2, .str nme]) nt39
        rw [List.take_replicate] at h38
        refine catR (Same.sqT s39 h38) (sqT_new upd_same) (by rw [List.length_replicate]; show 399 + 2 ≤ 100000; decide) fun H40 p40 s40 h40 => ?_
        have r40 := ((r37.trans s38).trans s39).trans s40
        refine ⟨.ref p40, some ((399 : Nat) : Int), rfl, ans_at (x := v2) h40 (fun y hy => ?_) ?_ (fun jj y hj hy => ?_) (by decide) (.inr wbad), fun H41 p41 s41 np41 ep41 => ?_⟩
        · rcases List.mem_append.mp hy with h | h
          · have e := List.eq_of_mem_replicate h
            rw [e]
            exact (nameAsked hn1').2
          · rcases List.mem_cons.mp h with h | h
            · rw [h]
              exact ((wr29.mono (s31.trans r40)).bad (K := K)).2
            · rw [List.mem_singleton.mp h]
              exact (nameAsked hnme).2
        · rw [List.getElem?_append_right (by rw [List.length_replicate]; decide), List.length_replicate]
          rfl
        · rw [List.getElem?_append_left (by rw [List.length_replicate]; exact hj)] at hy
          have e := List.eq_of_mem_replicate (List.mem_of_getElem? hy)
          rw [e]
          exact hn1'
        refine ⟨s1000 3 (by show 3 ≤ 1000000; decide), fun t42 nt42 => ?_⟩
        have s42 := same_new (o := .tup (resV (some ((399 : Nat) : Int)))) nt42
        refine eq_res (o := some ((399 : Nat) : Int)) (s42 _ _ ep41) (upd_same (o := .tup (resV (some ((399 : Nat) : Int))))) ?_
        have sE := s31.trans ((r40.trans s41).trans s42)
        exact q _ (tot.trans (But.of sE)) (b29.mono sE)
    rcases ho with rfl | rfl
    · rw [decide_eq_true rfl]
      refine iteT ⟨s1000 2 (by decide), fun t12 nt12 => ?_⟩
      have s12 := same_new (o := .tup [.str "told", .non]) nt12
      refine ne_res (o := none) (s12 _ _ (s11 _ _ ep10)) upd_same ⟨_, rfl, iteF ?_⟩
      exact fin _ ((s10.trans s11).trans s12)
    · rw [decide_eq_false (fun e => by cases e)]
      refine iteF ⟨0, 1, rfl, rfl, s1000 3 (by decide), fun t12 nt12 => ?_⟩
      have s12 := same_new (o := .tup (resV (some (-1)))) nt12
      refine ne_res (o := some (-1)) (s12 _ _ (s11 _ _ ep10)) (upd_same (o := .tup (resV (some (-1))))) ⟨_, rfl, iteF ?_⟩
      exact fin _ ((s10.trans s11).trans s12)
end
end Kb
namespace Kb
open PySem PySem.Spec PyProof.Rows L2
/-- a def that is called by its name -/
structure Cal (K : PySem.W.Frag) (mg : Str → Option Value) (name : Str) (f : Addr) (fd : FuncData) (ps : List Str) : Prop where
  kp : PySem.W.keepIn K (.ref f) = true
  b : Binds K fd ps []
  g : mg name = some (.ref f)
/-- all but x and the tables stands -/
def ButN (x : Addr) (H H' : Hp) : Prop := ∀ c u, c ≠ x → H c = some u → (∀ ps, u ≠ .tbl ps) → H' c = some u
theorem ButN.of {x : Addr} {H H' : Hp} (k : But x H H') : ButN x H H' := fun c u h e _ => k c u h e
theorem ButN.ofN {x : Addr} {H H' : Hp} (k : LamX.ExtN H H') : ButN x H H' := fun c u _ e n => k c u e n
theorem ButN.trans {x : Addr} {H H' H'' : Hp} (a : ButN x H H') (b : ButN x H' H'') : ButN x H H'' := fun c u h e n => b c u h (a c u h e n) n
theorem Box.ext {x : Addr} {H H' : Hp} (b : Box H x) (k : LamX.ExtN H H') : Box H' x := let ⟨b0, b1, b2, e⟩ := b; ⟨b0, b1, b2, k _ _ e fun ps w => by cases w⟩
theorem tabs_box {T : List (Addr × Str)} {H H' : Hp} {x : Addr} (t : LamX.Tabs T H) (b : Box H x) (k : But x H H') : LamX.Tabs T H' := let ⟨_, _, _, e⟩ := b; tabs_but t e k
theorem tup_ne {x p : Addr} {H : Hp} {xs : List V} (b : Box H x) (h : H p = some (.tup xs)) : p ≠ x := fun w => by
  obtain ⟨b0, b1, b2, hb⟩ := b
  rw [w, hb] at h
  cases h
theorem cutV_to {xs : List V} {j : Nat} : cutV xs none (some (j : Int)) = xs.take j := by
  unfold cutV
  rw [HT.sIx_nat, HT.sIx_none, List.drop_zero, Nat.sub_zero]
  by_cases h : j ≤ xs.length
  · rw [Nat.min_eq_left h]
  · rw [Nat.min_eq_right (by omega), List.take_length, List.take_of_length_le (by omega)]
theorem adV_app (a b : List Ka.Row) : adV (a ++ b) = adV a ++ adV b := List.map_append
/-- what stands within a turn of the law: the box at x, the names, the three rows -/
structure St (T : List (Addr × Str)) (H1 G : Hp) (x pn pv pw pu : Addr) (nl zv zw zu : List Str) : Prop where
  b : Box G x
  k : ButN x H1 G
  t : LamX.Tabs T G
  nx : pn ≠ x
  en : G pn = some (.lst (nl.map V.str))
  ev : G pv = some (.tup (zv.map V.str))
  ew : G pw = some (.tup (zw.map V.str))
  eu : G pu = some (.tup (zu.map V.str))
theorem St.but {T : List (Addr × Str)} {H1 G G' : Hp} {x pn pv pw pu : Addr} {nl zv zw zu : List Str} (s : St T H1 G x pn pv pw pu nl zv zw zu) (k : But x G G') (b : Box G' x) : St T H1 G' x pn pv pw pu nl zv zw zu :=
  ⟨b, s.k.trans (ButN.of k), tabs_box s.t s.b k, s.nx, k _ _ s.nx s.en, k _ _ (tup_ne s.b s.ev) s.ev, k _ _ (tup_ne s.b s.ew) s.ew, k _ _ (tup_ne s.b s.eu) s.eu⟩
theorem St.same {T : List (Addr × Str)} {H1 G G' : Hp} {x pn pv pw pu : Addr} {nl zv zw zu : List Str} (s : St T H1 G x pn pv pw pu nl zv zw zu) (k : Same G G') : St T H1 G' x pn pv pw pu nl zv zw zu := s.but (But.of k) (s.b.mono k)
theorem St.ext {T : List (Addr × Str)} {H1 G G' : Hp} {x pn pv pw pu : Addr} {nl zv zw zu : List Str} (s : St T H1 G x pn pv pw pu nl zv zw zu) (k : LamX.ExtN G G') (t : LamX.Tabs T G') : St T H1 G' x pn pv pw pu nl zv zw zu :=
  ⟨s.b.ext k, s.k.trans (ButN.ofN k), t, s.nx, k _ _ s.en (fun ps w => by cases w), k _ _ s.ev (fun ps w => by cases w), k _ _ s.ew (fun ps w => by cases w), k _ _ s.eu (fun ps w => by cases w)⟩
theorem rows_but {H H' : Hp} {x : Addr} {rs : List Ka.Row} (h : Rows H rs) (b : Box H x) (k : But x H H') : Rows H' rs := fun r hr => k _ _ (tup_ne b (h r hr)) (h r hr)
section
variable {P : Program} {w : World} {K : PySem.W.Frag} {mg : Str → Option Value} {base : Heap}
abbrev nLaw : List Str := ["script", "k", "box", "names", "v", "w", "u", "rows", "turn"]
theorem scLaw : FnScope nLaw ["script"] (defScope sLaw) := ⟨rfl, rfl, rfl, by decide +kernel, rfl, by decide +kernel, by decide +kernel⟩
def spLaw (K : PySem.W.Frag) (Pt : Addr) : Sp := fun vs H Q _ => ∃ (a : Addr) (ns : List Int), vs = [.ref a] ∧ SqL K H a (intV ns) ∧ LamX.Tabs (TL Pt) H ∧ ∀ H', Q (.bl true) H'
theorem ok_law {f fB fNa fT fRo fS fRi fF fC fA fLi fCh fLo Pt : Addr} {fd dB dNa dT dRo dS dRi dF dC dA dLi dCh dLo : FuncData} (F : Fun K "law" "law" sLaw f fd) (N : Nones mg)
    (GB : FnOk P w K mg base CX0 1 fB dB ["script", "k"] (spBox K)) (CB : Cal K mg "_law_box" fB dB ["script", "k"])
    (GNa : FnOk P w K mg base CX0 3 fNa dNa ["box", "many"] spNames) (CNa : Cal K mg "_law_names" fNa dNa ["box", "many"])
    (GT : FnOk P w K mg base CX0 1 fT dT ["box", "many"] spTake) (CT : Cal K mg "_law_take" fT dT ["box", "many"])
    (GRo : FnOk P w K mg base CX0 3 fRo dRo ["box", "names", "most"] spRow) (CRo : Cal K mg "_law_row" fRo dRo ["box", "names", "most"])
    (GS : FnOk P w K mg base CX0 2 fS dS ["box", "row"] (spStruck K)) (CS : Cal K mg "_law_struck" fS dS ["box", "row"])
    (GRi : FnOk P w K mg base CX0 3 fRi dRi ["u", "v"] (spRight K)) (CRi : Cal K mg "_law_fits_right" fRi dRi ["u", "v"])
    (GF : FnOk P w K mg base CX0 1 fF dF ["u", "v"] (spFits K)) (CF : Cal K mg "fits" fF dF ["u", "v"])
    (GC : FnOk P w K mg base CX0 2 fC dC ["u", "v", "w"] (spCuts K)) (CC : Cal K mg "_law_cuts" fC dC ["u", "v", "w"])
    (GA : FnOk P w K mg base CX0 1 fA dA ["u", "v"] (spAll K)) (CA : Cal K mg "_law_all_fits" fA dA ["u", "v"])
    (GLi : FnOk P w K mg base CX0 3 fLi dLi ["rows"] (spLists K Pt)) (CLi : Cal K mg "_law_lists_right" fLi dLi ["rows"])
    (GCh : FnOk P w K mg base CX0 6 fCh dCh ["box", "row", "name"] spRows) (CCh : Cal K mg "_law_rows_checked" fCh dCh ["box", "row", "name"])
    (GLo : FnOk P w K mg base CX0 3 fLo dLo ["box", "one", "other"] spLong) (CLo : Cal K mg "_law_long_right" fLo dLo ["box", "one", "other"]) :
    FnOk P w K mg base CX0 7 f fd ["script"] (spLaw K Pt) := by
  refine F.ok scLaw (fun vs H Q E h => ?_) (fun cdv A outer s H vs Q E hr h => ?_)
  · obtain ⟨a, ns, rfl, _⟩ := h
    rfl
  · obtain ⟨a, ns, rfl, hA, hT, q⟩ := h
    have hr1 := hr.mono (show 1 ≤ 6 by decide)
    have hr2 := hr.mono (show 2 ≤ 6 by decide)
    have hr3 := hr.mono (show 3 ≤ 6 by decide)
    refine ⟨_, pss_cons (ps_for PassesOwn.never rfl (pi_range1 (by rfl) N.range (pa_cons pe_int pa_nil)) (pg_name (i := 1) scLaw.nd rfl (.inl rfl))
        (pss_cons (ps_set (i := 2) scLaw.nd rfl (.inr rfl) (pe_call GB hr1 (by rfl) CB.g CB.kp CB.b .nil pass0 (pa_cons (pv 0) (pa_cons (pv 1) pa_nil))))
        (pss_cons (ps_set (i := 3) scLaw.nd rfl (.inl rfl) (pe_call GNa hr3 (by rfl) CNa.g CNa.kp CNa.b .nil pass0 (pa_cons (pv 2) (pa_cons (pe_op op_add pe_int (pe_call GT hr1 (by rfl) CT.g CT.kp CT.b .nil pass0 (pa_cons (pv 2) (pa_cons pe_int pa_nil)))) pa_nil))))
        (pss_cons (ps_asg (pe_tup (pa_cons (pe_call GRo hr3 (by rfl) CRo.g CRo.kp CRo.b .nil pass0 (pa_cons (pv 2) (pa_cons (pv 3) (pa_cons pe_int pa_nil)))) (pa_cons (pe_call GRo hr3 (by rfl) CRo.g CRo.kp CRo.b .nil pass0 (pa_cons (pv 2) (pa_cons (pv 3) (pa_cons pe_int pa_nil)))) pa_nil)))
          (pg_tup rfl (pgs_cons (pg_name (i := 4) scLaw.nd rfl (.inr rfl)) (pgs_cons (pg_name (i := 5) scLaw.nd rfl (.inl rfl)) pgs_nil))))
        (pss_cons (ps_set (i := 6) scLaw.nd rfl (.inl rfl) (pe_ifExp (pt_cmpR op_eq (pe_call GT hr1 (by rfl) CT.g CT.kp CT.b .nil pass0 (pa_cons (pv 2) (pa_cons pe_int pa_nil))) pe_int (nomark _)) (pe_slice sl_tupA (pe_call GS hr2 (by rfl) CS.g CS.kp CS.b .nil pass0 (pa_cons (pv 2) (pa_cons (pv 4) pa_nil))) po_none (po_some pe_int))
          (pe_call GRo hr3 (by rfl) CRo.g CRo.kp CRo.b .nil pass0 (pa_cons (pv 2) (pa_cons (pv 3) (pa_cons pe_int pa_nil))))))
        (pss_cons (ps_if (PW.pt (pw_or (pt_not (pt_val (pe_call GRi hr3 (by rfl) CRi.g CRi.kp CRi.b .nil pass0 (pa_cons (pv 6) (pa_cons (pv 4) pa_nil))))) (pw_or (pt_not (pt_val (pe_call GRi hr3 (by rfl) CRi.g CRi.kp CRi.b .nil pass0 (pa_cons (pe_slice sl_tupA (pv 4) po_none (po_some pe_int)) (pa_cons (pv 6) pa_nil)))))
            (pw_or1 (pt_not (pt_val (pe_call GRi hr3 (by rfl) CRi.g CRi.kp CRi.b .nil pass0 (pa_cons (pe_tup pa_nil) (pa_cons (pv 5) pa_nil))))))))) (pss_one (ps_ret pe_bl)) pss_nil)
        (pss_cons (ps_if (PW.pt (pw_or (pt_cmpR op_ne (pe_call GF hr1 (by rfl) CF.g CF.kp CF.b .nil pass0 (pa_cons (pv 6) (pa_cons (pe_op op_catA (pv 4) (pv 5)) pa_nil))) (pe_call GC hr2 (by rfl) CC.g CC.kp CC.b .nil pass0 (pa_cons (pv 6) (pa_cons (pv 4) (pa_cons (pv 5) pa_nil)))) (nomark _))
            (pw_or1 (pt_cmpR op_ne (pe_call GF hr1 (by rfl) CF.g CF.kp CF.b .nil pass0 (pa_cons (pv 6) (pa_cons (pe_op op_catA (pv 4) (pv 5)) pa_nil))) (pe_callB call_len_seq (by rfl) N.len PySem.boot_len (pa_cons (pe_call GA hr1 (by rfl) CA.g CA.kp CA.b .nil pass0 (pa_cons (pv 6) (pa_cons (pe_op op_catA (pv 4) (pv 5)) pa_nil))) pa_nil)) (nomark _))))) (pss_one (ps_ret pe_bl)) pss_nil)
        (pss_cons (ps_set (i := 7) scLaw.nd rfl (.inl rfl) (pe_op op_cat (pe_lc (own := [("turn", 8)]) (g := gName 8) (tt := tYes) rfl scLaw.nd (pi_range1 (by rfl) N.range (pa_cons (pe_op op_add pe_int (pe_call GT hr1 (by rfl) CT.g CT.kp CT.b .nil pass0 (pa_cons (pv 2) (pa_cons pe_int pa_nil)))) pa_nil)) (blkOk_by (own := [("turn", 8)]) (N := nLaw) (sc := defScope sLaw) (by decide +kernel)) (fun _ _ _ _ _ => pg_name (i := 8) scLaw.nd rfl (Or.inl rfl)) (fun _ _ _ _ _ => pts_nil)
            (fun _ _ _ _ _ => pe_call GS hr2 (by rfl) CS.g CS.kp CS.b .nil pass0 (pa_cons (pv 2) (pa_cons (pv 4) pa_nil)))) (pe_lst (pa_cons (pv 5) (pa_cons (pv 6) pa_nil)))))
        (pss_cons (ps_if (PW.pt (pw_or (pt_not (pt_val (pe_call GLi hr3 (by rfl) CLi.g CLi.kp CLi.b .nil pass0 (pa_cons (pe_op op_cat (pv 7) (pe_slice sl_list (pv 7) po_none (po_some (pe_call GT hr1 (by rfl) CT.g CT.kp CT.b .nil pass0 (pa_cons (pv 2) (pa_cons pe_int pa_nil)))))) pa_nil))))
            (pw_or1 (pt_not (pt_val (pe_call GLi hr3 (by rfl) CLi.g CLi.kp CLi.b .nil pass0 (pa_cons (pe_lst pa_nil) pa_nil))))))) (pss_one (ps_ret pe_bl)) pss_nil)
        (pss_cons (ps_if (pt_not (pt_val (pe_call GCh hr (by rfl) CCh.g CCh.kp CCh.b .nil pass0 (pa_cons (pv 2) (pa_cons (pv 4) (pa_cons (pe_ix ix_list (pv 3) pe_int (fun _ _ => rfl)) pa_nil)))))) (pss_one (ps_ret pe_bl)) pss_nil)
        (pss_one (ps_if (PW.pt (pw_and (pt_cmpR op_eq (pe_call GT hr1 (by rfl) CT.g CT.kp CT.b .nil pass0 (pa_cons (pv 2) (pa_cons pe_int pa_nil))) pe_int (nomark _)) (pw_and1 (pt_not (pt_val (pe_call GLo hr3 (by rfl) CLo.g CLo.kp CLo.b .nil pass0 (pa_cons (pv 2) (pa_cons (pe_ix ix_list (pv 3) pe_int (fun _ _ => rfl)) (pa_cons (pe_ix ix_list (pv 3) pe_int (fun _ _ => rfl)) pa_nil))))))))) (pss_one (ps_ret pe_bl)) pss_nil))))))))))))
      (pss_one (ps_ret pe_bl)), ?_⟩
    have s1000 : ∀ n, n ≤ 1000000 → n ≤ sizeLine := fun n h => smallE h
    refine ⟨3, rfl, by decide, by decide, ?_⟩
    refine for_range (lo := 0) (n := 3) (fun i σ H' => ∃ d1 d2 d3 d4 d5 d6 d7, σ = [some (.ref a), d1, d2, d3, d4, d5, d6, d7, none] ∧ LamX.ExtN H H' ∧ LamX.Tabs (TL Pt) H') ⟨none, none, none, none, none, none, none, rfl, LamX.ExtN.refl H, hT⟩ ?_ ?_
    · rintro i σ H0 hi ⟨d1, d2, d3, d4, d5, d6, d7, rfl, x0, T0⟩
      rw [Int.zero_add]
      -- box, names
      refine ⟨.ref a, rfl, .int (i : Nat), rfl, a, i, ns, rfl, Ka.sqL_ext hA x0, by omega, fun H1 x s01 nx b1 => ?_⟩
      refine ⟨.ref x, rfl, .ref x, rfl, x, 3, rfl, b1, by decide, by decide, fun r3 H2 hr3' k2 b2 => ?_⟩
      refine ⟨2, _, rfl, rfl, x, 2 + r3, (by show [V.ref x, V.int (2 + (r3 : Int))] = _; rw [show (2 : Int) + (r3 : Int) = ((2 + r3 : Nat) : Int) by omega]), b2, by omega, fun pn nl H3 hnl nd nam k3 b3 npn epn => ?_⟩
      have hpx : pn ≠ x := b2.ne npn
      have nl0 : 0 < nl.length := by omega
      -- v, w
      refine ⟨.ref x, rfl, .ref pn, rfl, x, pn, 9, nl, rfl, b3, hpx, epn, nl0, by omega, by decide, fun pv zv H4 hv4 in4 k4 b4 np4 ep4 => ?_⟩
      refine ⟨.ref x, rfl, .ref pn, rfl, x, pn, 4, nl, rfl, b4, hpx, k4 _ _ hpx epn, nl0, by omega, by decide, fun pw zw H5 hv5 in5 k5 b5 np5 ep5 => ?_⟩
      refine ⟨s1000 2 (by decide), fun t6 nt6 => ⟨t6, [.ref pv, .ref pw], rfl, .inl (.inl upd_same), rfl, _, _, rfl, _, _, rfl, rfl, ?_⟩⟩
      have s6 := same_new (o := .tup [.ref pv, .ref pw]) nt6
      have b6 := b5.mono s6
      have ev6 := s6 _ _ (k5 _ _ (tup_ne b4 ep4) ep4)
      have ew6 := s6 _ _ ep5
      have en6 := s6 _ _ (k5 _ _ hpx (k4 _ _ hpx epn))
      have k16 : But x H1 _ := ((((k2.trans k3).trans k4).trans k5).trans (But.of s6))
      have T6 := tabs_box (T0.ext s01) b1 k16
      generalize upd H5 t6 (.tup [.ref pv, .ref pw]) = H6 at b6 ev6 ew6 en6 k16 T6 ⊢
      have nV : ∀ z ∈ zv, isName z = true := fun z hz => nam z (in4 z hz)
      have nW : ∀ z ∈ zw, isName z = true := fun z hz => nam z (in5 z hz)
      -- u
      refine ⟨.ref x, rfl, x, 2, rfl, b6, by decide, by decide, fun r2 H7 hr2' k7 b7 => ⟨rfl, _, rfl, ?_⟩⟩
      generalize hX : tSeq (tIfS (tOr (tNot (tB (tCall (spRight K) _ _ _))) _) _ _) _ _ = X
      have fin : ∀ (pu : Addr) (zu : List Str) (G : Hp), But x H7 G → Box G x → G pu = some (.tup (zu.map V.str)) → zu.length ≤ 9 → (∀ z ∈ zu, isName z = true) →
          X [some (.ref a), some (.int (i : Nat)), some (.ref x), some (.ref pn), some (.ref pv), some (.ref pw), some (.ref pu), d7, none] G := fun pu zu G kG bG eu hu nU => by
        rw [← hX]
        have k76 := k7.trans kG
        have S : St (TL Pt) H1 G x pn pv pw pu nl zv zw zu := ⟨bG, ButN.of (k16.trans k76), tabs_box T6 b6 k76, hpx, k76 _ _ hpx en6, k76 _ _ (tup_ne b6 ev6) ev6, k76 _ _ (tup_ne b6 ew6) ew6, eu⟩
        -- _law_fits_right(u, v)
        refine ⟨.ref pu, rfl, .ref pv, rfl, pu, pv, zu, zv, rfl, sqT_new S.eu, sqT_new S.ev, by omega, by omega, fun G1 s1 => ⟨true, rfl, iteF ?_⟩⟩
        have S1 := S.same s1
        -- _law_fits_right(v[:5], u)
        refine ⟨.ref pv, rfl, 5, rfl, slA_takeR (j := 5) (sqT_new S1.ev) fun G2 p2 s2 h2 => ?_⟩
        have S2 := S1.same s2
        refine ⟨.ref pu, rfl, p2, pu, zv.take 5, zu, rfl, h2, sqT_new S2.eu, Nat.le_trans (List.length_take_le' _ _) (by omega), by omega, fun G3 s3 => ⟨true, rfl, iteF ?_⟩⟩
        have S3 := S2.same s3
        -- _law_fits_right((), w)
        refine ⟨s1000 0 (by decide), fun t4 nt4 => ?_⟩
        have S4 := S3.same (same_new (o := .tup []) nt4)
        refine ⟨.ref pw, rfl, t4, pw, [], zw, rfl, sqT_new upd_same, sqT_new S4.ew, by decide, by omega, fun G5 s5 => ⟨true, rfl, iteF ?_⟩⟩
        have S5 := S4.same s5
        have eapp : zv.map V.str ++ zw.map V.str = (zv ++ zw).map V.str := List.map_append.symm
        have lapp : (zv ++ zw).length ≤ 18 := by rw [List.length_append]; omega
        have lcat : (zv.map V.str).length + (zw.map V.str).length ≤ 100000 := by rw [List.length_map, List.length_map]; omega
        -- fits(u, v + w) != _law_cuts(u, v, w)
        refine ⟨.ref pu, rfl, .ref pv, rfl, .ref pw, rfl, catR (sqT_new S5.ev) (sqT_new S5.ew) lcat fun G6 p6 s6 h6 => ?_⟩
        rw [eapp] at h6
        have S6 := S5.same s6
        refine ⟨pu, p6, zu, zv ++ zw, rfl, sqT_new S6.eu, h6, by omega, fun G7 s7 => ?_⟩
        have S7 := S6.same s7
        refine ⟨.ref pu, rfl, .ref pv, rfl, .ref pw, rfl, pu, pv, pw, zu, zv, zw, rfl, sqT_new S7.eu, sqT_new S7.ev, sqT_new S7.ew, by omega, by omega, fun G8 s8 => ⟨rfl, _, rfl, iteNS rfl ?_⟩⟩
        have S8 := S7.same s8
        -- fits(u, v + w) != len(_law_all_fits(u, v + w))
        refine ⟨.ref pu, rfl, .ref pv, rfl, .ref pw, rfl, catR (sqT_new S8.ev) (sqT_new S8.ew) lcat fun G9 p9 s9 h9 => ?_⟩
        rw [eapp] at h9
        have S9 := S8.same s9
        refine ⟨pu, p9, zu, zv ++ zw, rfl, sqT_new S9.eu, h9, by omega, fun G10 s10 => ?_⟩
        have S10 := S9.same s10
        refine ⟨.ref pu, rfl, .ref pv, rfl, .ref pw, rfl, catR (sqT_new S10.ev) (sqT_new S10.ew) lcat fun G11 p11 s11 h11 => ?_⟩
        rw [eapp] at h11
        have S11 := S10.same s11
        refine ⟨pu, p11, zu, zv ++ zw, rfl, sqT_new S11.eu, h11, by omega, lapp, fun G12 o12 fs s12 no12 eo12 hF12 ef12 => ?_⟩
        have S12 := S11.same s12
        have elen : (adF fs).length = Ka.cnt zu (zv ++ zw) := by
          unfold adF Ka.cnt
          rw [← ef12, List.length_map, List.length_map]
        refine ⟨o12, _, rfl, .inl (sqL_new eo12), rfl, _, rfl, iteNS (by rw [elen]) ?_⟩
        -- rows
        refine ⟨.ref x, rfl, x, 5, rfl, S12.b, by decide, by decide, fun r5 G13 hr5 k13 b13 => ?_⟩
        have S13 := S12.but k13 b13
        refine ⟨1, _, rfl, rfl, _, rfl, by omega, by omega, fun D nD => ?_⟩
        have en5 : ((1 : Int) + ((r5 : Nat) : Int)).toNat = r5 + 1 := by omega
        rw [en5]
        have hDx := b13.ne nD
        refine lc_it (walk_r0 (n := r5 + 1)) (fun j G2 => But x G13 G2 ∧ Box G2 x ∧ ∃ rs : List Ka.Row, rs.length = j ∧ Rows G2 rs ∧ (∀ r ∈ rs, r.2.length ≤ 18 ∧ ∀ z ∈ r.2, isName z = true) ∧ G2 D = some (.lst (adV rs)))
          ⟨But.of (same_new nD), b13.upd hDx, [], rfl, (fun r hr => by cases hr), (fun r hr => by cases hr), upd_same⟩ (fun _ _ _ _ => True.intro) (fun j y G2 G3 hj g2 yy => ?_) (fun G14 g14 => ?_)
        · obtain ⟨rfl, rfl⟩ := yy
          obtain ⟨kj, bj, rs, hl, hR, hok, eD⟩ := g2
          have Sj := S13.but kj bj
          refine ⟨rfl, ?_⟩
          refine ⟨.ref x, rfl, .ref pv, rfl, x, pv, zv, rfl, bj, Sj.ev, by omega, fun p z G4 hs k4 b4 np ep => ?_⟩
          have hpD : p ≠ D := fun w => by
            rw [w, eD] at np
            cases np
          refine ⟨_, k4 _ _ hDx eD, ?_, ?_, b4.upd hDx, rs ++ [(p, z)], by rw [List.length_append, hl]; rfl, fun r hr => ?_, fun r hr => ?_, ?_⟩
          · unfold adV
            rw [List.length_map]
            exact small (by omega)
          · intro c u hc e
            rw [upd_ne (ne_of_none e nD)]
            exact k4 _ _ hc (kj _ _ hc e)
          · rcases List.mem_append.mp hr with h | h
            · have e1 := k4 _ _ (tup_ne bj (hR r h)) (hR r h)
              rw [upd_ne (ne_of (hR r h) eD fun w => nomatch w)]
              exact e1
            · rw [List.mem_singleton.mp h, upd_ne hpD]
              exact ep
          · rcases List.mem_append.mp hr with h | h
            · exact hok r h
            · rw [List.mem_singleton.mp h]
              have := hs.length_le
              exact ⟨by show z.length ≤ 18; omega, fun y hy => nV y (hs.subset hy)⟩
          · rw [upd_same, adV_app]
            rfl
        · obtain ⟨k14, b14, rs, hl, hR, hok, eD⟩ := g14
          have S14 := S13.but k14 b14
          refine ⟨.ref pw, rfl, .ref pu, rfl, s1000 2 (by decide), fun l15 nl15 => ?_⟩
          have s15 := same_new (o := .lst [.ref pw, .ref pu]) nl15
          refine ⟨D, l15, adV rs, [.ref pw, .ref pu], rfl, rfl, s15 _ _ eD, upd_same, ?_, fun p16 np16 => ?_⟩
          · unfold adV
            rw [List.length_map]
            exact s1000 _ (by show rs.length + 2 ≤ 1000000; omega)
          have s16 := s15.trans (same_new (o := .lst (adV rs ++ [.ref pw, .ref pu])) np16)
          have e16 : upd (upd G14 l15 (.lst [.ref pw, .ref pu])) p16 (.lst (adV rs ++ [.ref pw, .ref pu])) p16 = some (.lst (adV (rs ++ [(pw, zw), (pu, zu)]))) := by
            rw [upd_same, adV_app]
            rfl
          have h16x : p16 ≠ x := (b14.mono s15).ne np16
          generalize upd (upd G14 l15 (.lst [.ref pw, .ref pu])) p16 (.lst (adV rs ++ [.ref pw, .ref pu])) = G16 at s16 e16 ⊢
          have S16 := S14.same s16
          have hR16 : Rows G16 (rs ++ [(pw, zw), (pu, zu)]) := fun r hr => by
            rcases List.mem_append.mp hr with h | h
            · exact s16 _ _ (hR r h)
            · rcases List.mem_cons.mp h with h | h
              · rw [h]
                exact S16.ew
              · rw [List.mem_singleton.mp h]
                exact S16.eu
          have ok16 : ∀ r ∈ rs ++ [(pw, zw), (pu, zu)], r.2.length ≤ 18 ∧ ∀ z ∈ r.2, isName z = true := fun r hr => by
            rcases List.mem_append.mp hr with h | h
            · exact hok r h
            · rcases List.mem_cons.mp h with h | h
              · rw [h]
                exact ⟨by show zw.length ≤ 18; omega, nW⟩
              · rw [List.mem_singleton.mp h]
                exact ⟨by show zu.length ≤ 18; omega, nU⟩
          have len16 : (rs ++ [(pw, zw), (pu, zu)]).length ≤ 8 := by
            rw [List.length_append, hl]
            show r5 + 1 + 2 ≤ 8
            omega
          generalize rs ++ [(pw, zw), (pu, zu)] = qs at e16 hR16 ok16 len16
          -- _law_lists_right(rows + rows[:_law_take(box, 3)])
          refine ⟨.ref p16, rfl, .ref p16, rfl, .ref x, rfl, x, 3, rfl, S16.b, by decide, by decide, fun r17 G17 hr17 k17 b17 => ?_⟩
          have S17 := S16.but k17 b17
          have e17 := k17 _ _ h16x e16
          have hR17 := rows_but hR16 S16.b k17
          refine ⟨_, rfl, p16, _, rfl, sqL_new e17, fun p18 np18 => ?_⟩
          rw [cutV_to]
          have s18 := same_new (o := .lst ((adV qs).take r17)) np18
          have e18 : upd G17 p18 (.lst ((adV qs).take r17)) p18 = some (.lst (adV (qs.take r17))) := by
            rw [upd_same]
            unfold adV
            rw [List.map_take]
          generalize upd G17 p18 (.lst ((adV qs).take r17)) = G18 at s18 e18 ⊢
          have S18 := S17.same s18
          have tl17 : (qs.take r17).length ≤ 8 := Nat.le_trans (List.length_take_le' _ _) len16
          refine ⟨p16, p18, adV qs, adV (qs.take r17), rfl, rfl, s18 _ _ e17, e18, ?_, fun p19 np19 => ?_⟩
          · unfold adV
            rw [List.length_map, List.length_map]
            exact s1000 _ (by omega)
          rw [← adV_app]
          have s19 := same_new (o := .lst (adV (qs ++ qs.take r17))) np19
          have S19 := S18.same s19
          refine ⟨p19, qs ++ qs.take r17, rfl, upd_same, fun r hr => ?_, by rw [List.length_append]; omega, fun r hr => ?_, S19.t, fun G20 x20 T20 => ⟨true, rfl, iteF ?_⟩⟩
          · rcases List.mem_append.mp hr with h | h
            · exact s19 _ _ (s18 _ _ (hR17 r h))
            · exact s19 _ _ (s18 _ _ (hR17 r (List.mem_of_mem_take h)))
          · rcases List.mem_append.mp hr with h | h
            · exact ok16 r h
            · exact ok16 r (List.mem_of_mem_take h)
          have S20 := S19.ext x20 T20
          -- _law_lists_right([])
          refine ⟨Nat.zero_le _, fun l21 nl21 => ?_⟩
          have S21 := S20.same (same_new (o := .lst []) nl21)
          refine ⟨l21, [], rfl, upd_same, (fun r hr => by cases hr), by decide, (fun r hr => by cases hr), S21.t, fun G22 x22 T22 => ⟨true, rfl, iteF ?_⟩⟩
          have S22 := S21.ext x22 T22
          -- _law_rows_checked(box, v, names[0])
          have g0 : (nl.map V.str)[0]? = some (.str (nl[0]'nl0)) := by
            rw [List.getElem?_map, List.getElem?_eq_getElem nl0]
            rfl
          have nl1 : 1 < nl.length := by omega
          have g1 : (nl.map V.str)[1]? = some (.str (nl[1]'nl1)) := by
            rw [List.getElem?_map, List.getElem?_eq_getElem nl1]
            rfl
          refine ⟨.ref x, rfl, .ref pv, rfl, .ref pn, rfl, pn, _, 0, _, rfl, rfl, sqL_new S22.en, atI_nat (j := 0) g0, x, pv, zv, _, rfl, S22.b, S22.ev, by omega, nV, nam _ (List.getElem_mem nl0), fun G23 k23 b23 => ⟨true, rfl, iteF ?_⟩⟩
          have S23 := S22.but k23 b23
          -- _law_take(box, 5) == 0 and not _law_long_right(box, names[0], names[1])
          have done : ∀ G, But x G23 G → Box G x → LamX.ExtN H G ∧ LamX.Tabs (TL Pt) G := fun G kg bg => by
            have Sg := S23.but kg bg
            refine ⟨fun c u e n => ?_, Sg.t⟩
            have e0 := x0 c u e n
            exact Sg.k c u (ne_of_none e0 nx) (s01 _ _ e0) n
          refine ⟨.ref x, rfl, x, 5, rfl, S23.b, by decide, by decide, fun r24 G24 hr24 k24 b24 => ⟨rfl, _, rfl, ite2 (fun c => ?_) (fun c => ?_)⟩⟩
          · have S24 := S23.but k24 b24
            have hne : nl[0]'nl0 ≠ nl[1]'nl1 := fun e => by
              have := (List.getElem_inj (h₀ := nl0) (h₁ := nl1) nd).mp e
              omega
            refine ⟨.ref x, rfl, .ref pn, rfl, pn, _, 0, _, rfl, rfl, sqL_new S24.en, atI_nat (j := 0) g0, .ref pn, rfl, pn, _, 1, _, rfl, rfl, sqL_new S24.en, atI_nat (j := 1) g1, x, _, _, rfl, S24.b, hne, fun G25 k25 b25 => ⟨true, rfl, iteF ?_⟩⟩
            obtain ⟨h1, h2⟩ := done G25 (k24.trans k25) b25
            exact ⟨_, _, _, _, _, _, _, rfl, h1, h2⟩
          · obtain ⟨h1, h2⟩ := done G24 k24 b24
            exact ⟨_, _, _, _, _, _, _, rfl, h1, h2⟩
      refine ite2 (fun c => ?_) (fun c => ?_)
      · refine ⟨.ref x, rfl, .ref pv, rfl, x, pv, zv, rfl, b7, k7 _ _ (tup_ne b6 ev6) ev6, by omega, fun p8 z8 H8 hs8 k8 b8 np8 ep8 => ⟨5, rfl, ?_⟩⟩
        have hl8 := hs8.length_le
        refine slA_take (j := 5) (sqT_new ep8) (fun e => ?_) (fun p9 np9 => ?_)
        · exact fin p8 z8 H8 k8 b8 ep8 (by omega) fun z hz => nV z (hs8.subset hz)
        · refine fin p9 (z8.take 5) _ (k8.trans (But.of (same_new np9))) (b8.mono (same_new np9)) ?_ (Nat.le_trans (List.length_take_le' _ _) (by omega)) fun z hz => nV z (hs8.subset (List.mem_of_mem_take hz))
          rw [upd_same, List.map_take]
      · refine ⟨.ref x, rfl, .ref pn, rfl, x, pn, 5, nl, rfl, b7, hpx, k7 _ _ hpx en6, nl0, by omega, by decide, fun p8 z8 H8 hv8 in8 k8 b8 np8 ep8 => ?_⟩
        exact fin p8 z8 H8 k8 b8 ep8 (by omega) fun z hz => nam z (in8 z hz)
    · rintro σ H' ⟨d1, d2, d3, d4, d5, d6, d7, rfl, _, _⟩
      exact q H'
end
end Kb
namespace Kb
open PySem PySem.Spec PyProof.Rows L2
/-! ### the end: what the top has written -/
theorem all_mk {l : PySem.W.OpenLaw} {w : World} {K : PySem.W.Frag} {h : Heap} {mg : Str → Option Value} {fa C S Pt cLi : Addr} (X : K.In h) (G : h.Ns mainGlobals mg) (hfa : mg "law" = some (.ref fa)) (hTab : h.get? Pt = some (PySem.W.tabObj #[]))
    {fWi fFi fFf fLf fIn fGr fCh fNa fLe fOr fBx fTk fPk fLt fNs fRw fSt fAl fRi fCu fLi fRe fCk fLo fLa fIt : Addr} {odWi anWi odFi anFi odFf anFf odLf anLf odIn anIn odGr anGr odCh anCh odNa anNa odLe anLe odOr anOr odBx anBx odTk anTk odPk anPk odLt anLt odNs anNs odRw anRw odSt anSt odAl anAl odRi anRi odCu anCu odLi anLi odRe anRe odCk anCk odLo anLo odLa anLa odIt anIt : Option Addr} {slWi slFi slFf slLf slIn slGr slCh slNa slLe slOr slBx slTk slPk slLt slNs slRw slSt slAl slRi slCu slLi slRe slCk slLo slLa slIt : Array (Option Value)}
    {ocWi kVWi dcWi pmWi ctWi cdWi ocFi kVFi dcFi pmFi ctFi cdFi ocFf kVFf dcFf pmFf ctFf cdFf ocLf kVLf dcLf pmLf ctLf cdLf ocIn kVIn dcIn pmIn ctIn cdIn ocGr kVGr dcGr pmGr ctGr cdGr ocCh kVCh dcCh pmCh ctCh cdCh ocNa kVNa dcNa pmNa ctNa cdNa ocLe kVLe dcLe pmLe ctLe cdLe ocOr kVOr dcOr pmOr ctOr cdOr ocBx kVBx dcBx pmBx ctBx cdBx ocTk kVTk dcTk pmTk ctTk cdTk ocPk kVPk dcPk pmPk ctPk cdPk ocLt kVLt dcLt pmLt ctLt cdLt ocNs kVNs dcNs pmNs ctNs cdNs ocRw kVRw dcRw pmRw ctRw cdRw ocSt kVSt dcSt pmSt ctSt cdSt ocAl kVAl dcAl pmAl ctAl cdAl ocRi kVRi dcRi pmRi ctRi cdRi ocCu kVCu dcCu pmCu ctCu cdCu ocLi kVLi dcLi pmLi ctLi ocRe kVRe dcRe pmRe ctRe cdRe ocCk kVCk dcCk pmCk ctCk cdCk ocLo kVLo dcLo pmLo ctLo cdLo ocLa kVLa dcLa pmLa ctLa cdLa ocIt kVIt dcIt pmIt ctIt cdIt : Value} {t5 t400 : Tok}
    (aWi : PySem.W.nsIn K mainGlobals "within" = some (some (.ref fWi)))
    (lWi : K.lookup fWi = some ⟨ocWi, odWi, .func (PySem.W.fnOf "within" "within" (defArgs sWithin) (defBody sWithin) (defScope sWithin) .none kVWi dcWi pmWi anWi cdWi ctWi), slWi⟩)
    (cWi : PySem.W.codeIn K cdWi "within" = true) (kWi : PySem.W.keepIn K (.ref fWi) = true)
    (aFi : PySem.W.nsIn K mainGlobals "fits" = some (some (.ref fFi)))
    (lFi : K.lookup fFi = some ⟨ocFi, odFi, .func (PySem.W.fnOf "fits" "fits" (defArgs sFits) (defBody sFits) (defScope sFits) .none kVFi dcFi pmFi anFi cdFi ctFi), slFi⟩)
    (cFi : PySem.W.codeIn K cdFi "fits" = true) (kFi : PySem.W.keepIn K (.ref fFi) = true)
    (aFf : PySem.W.nsIn K mainGlobals "first_fit" = some (some (.ref fFf)))
    (lFf : K.lookup fFf = some ⟨ocFf, odFf, .func (PySem.W.fnOf "first_fit" "first_fit" (defArgs sFirst) (defBody sFirst) (defScope sFirst) .none kVFf dcFf pmFf anFf cdFf ctFf), slFf⟩)
    (cFf : PySem.W.codeIn K cdFf "first_fit" = true) (kFf : PySem.W.keepIn K (.ref fFf) = true)
    (aLf : PySem.W.nsIn K mainGlobals "last_fit" = some (some (.ref fLf)))
    (lLf : K.lookup fLf = some ⟨ocLf, odLf, .func (PySem.W.fnOf "last_fit" "last_fit" (defArgs sLast) (defBody sLast) (defScope sLast) .none kVLf dcLf pmLf anLf cdLf ctLf), slLf⟩)
    (cLf : PySem.W.codeIn K cdLf "last_fit" = true) (kLf : PySem.W.keepIn K (.ref fLf) = true)
    (aIn : PySem.W.nsIn K mainGlobals "in_order" = some (some (.ref fIn)))
    (lIn : K.lookup fIn = some ⟨ocIn, odIn, .func (PySem.W.fnOf "in_order" "in_order" (defArgs sInOrder) (defBody sInOrder) (defScope sInOrder) .none kVIn dcIn pmIn anIn cdIn ctIn), slIn⟩)
    (cIn : PySem.W.codeIn K cdIn "in_order" = true) (kIn : PySem.W.keepIn K (.ref fIn) = true)
    (aGr : PySem.W.nsIn K mainGlobals "greatest_rows" = some (some (.ref fGr)))
    (lGr : K.lookup fGr = some ⟨ocGr, odGr, .func (PySem.W.fnOf "greatest_rows" "greatest_rows" (defArgs sGreat) (defBody sGreat) (defScope sGreat) .none kVGr dcGr pmGr anGr cdGr ctGr), slGr⟩)
    (cGr : PySem.W.codeIn K cdGr "greatest_rows" = true) (kGr : PySem.W.keepIn K (.ref fGr) = true)
    (aCh : PySem.W.nsIn K mainGlobals "check_row" = some (some (.ref fCh)))
    (lCh : K.lookup fCh = some ⟨ocCh, odCh, .func (PySem.W.fnOf "check_row" "check_row" (defArgs sCheck) (defBody sCheck) (defScope sCheck) .none kVCh dcCh pmCh anCh cdCh ctCh), slCh⟩)
    (cCh : PySem.W.codeIn K cdCh "check_row" = true) (kCh : PySem.W.keepIn K (.ref fCh) = true)
    (aNa : PySem.W.nsIn K mainGlobals "is_name" = some (some (.ref fNa)))
    (lNa : K.lookup fNa = some ⟨ocNa, odNa, .func (PySem.W.fnOf "is_name" "is_name" (defArgs sName) (defBody sName) (defScope sName) .none kVNa dcNa pmNa anNa cdNa ctNa), slNa⟩)
    (cNa : PySem.W.codeIn K cdNa "is_name" = true) (kNa : PySem.W.keepIn K (.ref fNa) = true)
    (aLe : PySem.W.nsIn K mainGlobals "is_letter" = some (some (.ref fLe)))
    (lLe : K.lookup fLe = some ⟨ocLe, odLe, .func (PySem.W.fnOf "is_letter" "is_letter" (defArgs sLetter) (defBody sLetter) (defScope sLetter) .none kVLe dcLe pmLe anLe cdLe ctLe), slLe⟩)
    (cLe : PySem.W.codeIn K cdLe "is_letter" = true) (kLe : PySem.W.keepIn K (.ref fLe) = true)
    (aOr : PySem.W.nsIn K mainGlobals "row_order" = some (some (.ref fOr)))
    (lOr : K.lookup fOr = some ⟨ocOr, odOr, .func (PySem.W.fnOf "row_order" "row_order" (defArgs sOrder) (defBody sOrder) (defScope sOrder) .none kVOr dcOr pmOr anOr cdOr ctOr), slOr⟩)
    (cOr : PySem.W.codeIn K cdOr "row_order" = true) (kOr : PySem.W.keepIn K (.ref fOr) = true)
    (aBx : PySem.W.nsIn K mainGlobals "_law_box" = some (some (.ref fBx)))
    (lBx : K.lookup fBx = some ⟨ocBx, odBx, .func (PySem.W.fnOf "_law_box" "_law_box" (defArgs sBox) (defBody sBox) (defScope sBox) .none kVBx dcBx pmBx anBx cdBx ctBx), slBx⟩)
    (cBx : PySem.W.codeIn K cdBx "_law_box" = true) (kBx : PySem.W.keepIn K (.ref fBx) = true)
    (aTk : PySem.W.nsIn K mainGlobals "_law_take" = some (some (.ref fTk)))
    (lTk : K.lookup fTk = some ⟨ocTk, odTk, .func (PySem.W.fnOf "_law_take" "_law_take" (defArgs sTake) (defBody sTake) (defScope sTake) .none kVTk dcTk pmTk anTk cdTk ctTk), slTk⟩)
    (cTk : PySem.W.codeIn K cdTk "_law_take" = true) (kTk : PySem.W.keepIn K (.ref fTk) = true)
    (aPk : PySem.W.nsIn K mainGlobals "_law_pick" = some (some (.ref fPk)))
    (lPk : K.lookup fPk = some ⟨ocPk, odPk, .func (PySem.W.fnOf "_law_pick" "_law_pick" (defArgs sPick) (defBody sPick) (defScope sPick) .none kVPk dcPk pmPk anPk cdPk ctPk), slPk⟩)
    (cPk : PySem.W.codeIn K cdPk "_law_pick" = true) (kPk : PySem.W.keepIn K (.ref fPk) = true)
    (aLt : PySem.W.nsIn K mainGlobals "_law_letter" = some (some (.ref fLt)))
    (lLt : K.lookup fLt = some ⟨ocLt, odLt, .func (PySem.W.fnOf "_law_letter" "_law_letter" (defArgs sLet) (defBody sLet) (defScope sLet) .none kVLt dcLt pmLt anLt cdLt ctLt), slLt⟩)
    (cLt : PySem.W.codeIn K cdLt "_law_letter" = true) (kLt : PySem.W.keepIn K (.ref fLt) = true)
    (aNs : PySem.W.nsIn K mainGlobals "_law_names" = some (some (.ref fNs)))
    (lNs : K.lookup fNs = some ⟨ocNs, odNs, .func (PySem.W.fnOf "_law_names" "_law_names" (defArgs sNames) (defBody sNames) (defScope sNames) .none kVNs dcNs pmNs anNs cdNs ctNs), slNs⟩)
    (cNs : PySem.W.codeIn K cdNs "_law_names" = true) (kNs : PySem.W.keepIn K (.ref fNs) = true)
    (aRw : PySem.W.nsIn K mainGlobals "_law_row" = some (some (.ref fRw)))
    (lRw : K.lookup fRw = some ⟨ocRw, odRw, .func (PySem.W.fnOf "_law_row" "_law_row" (defArgs sRow) (defBody sRow) (defScope sRow) .none kVRw dcRw pmRw anRw cdRw ctRw), slRw⟩)
    (cRw : PySem.W.codeIn K cdRw "_law_row" = true) (kRw : PySem.W.keepIn K (.ref fRw) = true)
    (aSt : PySem.W.nsIn K mainGlobals "_law_struck" = some (some (.ref fSt)))
    (lSt : K.lookup fSt = some ⟨ocSt, odSt, .func (PySem.W.fnOf "_law_struck" "_law_struck" (defArgs sStruck) (defBody sStruck) (defScope sStruck) .none kVSt dcSt pmSt anSt cdSt ctSt), slSt⟩)
    (cSt : PySem.W.codeIn K cdSt "_law_struck" = true) (kSt : PySem.W.keepIn K (.ref fSt) = true)
    (aAl : PySem.W.nsIn K mainGlobals "_law_all_fits" = some (some (.ref fAl)))
    (lAl : K.lookup fAl = some ⟨ocAl, odAl, .func (PySem.W.fnOf "_law_all_fits" "_law_all_fits" (defArgs sAll) (defBody sAll) (defScope sAll) .none kVAl dcAl pmAl anAl cdAl ctAl), slAl⟩)
    (cAl : PySem.W.codeIn K cdAl "_law_all_fits" = true) (kAl : PySem.W.keepIn K (.ref fAl) = true)
    (aRi : PySem.W.nsIn K mainGlobals "_law_fits_right" = some (some (.ref fRi)))
    (lRi : K.lookup fRi = some ⟨ocRi, odRi, .func (PySem.W.fnOf "_law_fits_right" "_law_fits_right" (defArgs sRight) (defBody sRight) (defScope sRight) .none kVRi dcRi pmRi anRi cdRi ctRi), slRi⟩)
    (cRi : PySem.W.codeIn K cdRi "_law_fits_right" = true) (kRi : PySem.W.keepIn K (.ref fRi) = true)
    (aCu : PySem.W.nsIn K mainGlobals "_law_cuts" = some (some (.ref fCu)))
    (lCu : K.lookup fCu = some ⟨ocCu, odCu, .func (PySem.W.fnOf "_law_cuts" "_law_cuts" (defArgs sCuts) (defBody sCuts) (defScope sCuts) .none kVCu dcCu pmCu anCu cdCu ctCu), slCu⟩)
    (cCu : PySem.W.codeIn K cdCu "_law_cuts" = true) (kCu : PySem.W.keepIn K (.ref fCu) = true)
    (aLi : PySem.W.nsIn K mainGlobals "_law_lists_right" = some (some (.ref fLi)))
    (lLi : K.lookup fLi = some ⟨ocLi, odLi, .func (PySem.W.fnOf "_law_lists_right" "_law_lists_right" (defArgs sLists) (defBody sLists) (defScope sLists) .none kVLi dcLi pmLi anLi (.ref cLi) ctLi), slLi⟩)
    (cLi' : PySem.W.codeIn K (.ref cLi) "_law_lists_right" = true) (kLi : PySem.W.keepIn K (.ref fLi) = true)
    (aRe : PySem.W.nsIn K mainGlobals "_law_refused" = some (some (.ref fRe)))
    (lRe : K.lookup fRe = some ⟨ocRe, odRe, .func (PySem.W.fnOf "_law_refused" "_law_refused" (defArgs sRefused) (defBody sRefused) (defScope sRefused) .none kVRe dcRe pmRe anRe cdRe ctRe), slRe⟩)
    (cRe : PySem.W.codeIn K cdRe "_law_refused" = true) (kRe : PySem.W.keepIn K (.ref fRe) = true)
    (aCk : PySem.W.nsIn K mainGlobals "_law_rows_checked" = some (some (.ref fCk)))
    (lCk : K.lookup fCk = some ⟨ocCk, odCk, .func (PySem.W.fnOf "_law_rows_checked" "_law_rows_checked" (defArgs sChecked) (defBody sChecked) (defScope sChecked) .none kVCk dcCk pmCk anCk cdCk ctCk), slCk⟩)
    (cCk : PySem.W.codeIn K cdCk "_law_rows_checked" = true) (kCk : PySem.W.keepIn K (.ref fCk) = true)
    (aLo : PySem.W.nsIn K mainGlobals "_law_long_right" = some (some (.ref fLo)))
    (lLo : K.lookup fLo = some ⟨ocLo, odLo, .func (PySem.W.fnOf "_law_long_right" "_law_long_right" (defArgs sLong) (defBody sLong) (defScope sLong) .none kVLo dcLo pmLo anLo cdLo ctLo), slLo⟩)
    (cLo : PySem.W.codeIn K cdLo "_law_long_right" = true) (kLo : PySem.W.keepIn K (.ref fLo) = true)
    (aLa : PySem.W.nsIn K mainGlobals "law" = some (some (.ref fLa)))
    (lLa : K.lookup fLa = some ⟨ocLa, odLa, .func (PySem.W.fnOf "law" "law" (defArgs sLaw) (defBody sLaw) (defScope sLaw) .none kVLa dcLa pmLa anLa cdLa ctLa), slLa⟩)
    (cLa : PySem.W.codeIn K cdLa "law" = true) (kLa : PySem.W.keepIn K (.ref fLa) = true)
    {nm q : Str} {Nn : Addr} {bs bm : List Value} {sn : List Str} {sub : List Value} {ab : Bool} {col : Option Bool} {dd : Option Addr} {m0 m1 m2 m3 m5 : Option Value}
    (aC : PySem.W.nsIn K mainGlobals "InvalidRow" = some (some (.ref C))) (aS : PySem.W.nsIn K mainGlobals "StillError" = some (some (.ref S)))
    (xL : K.lookup C = some (excClassObj nm q C Nn bs bm true sn sub ab col dd m0 m1 m2 m3 m5 "ValueError.__new__")) (hbm : PySem.HandSPX.refsVE bm = true)
    (sa : PySem.W.findIn K (.ref C) "__setattr__" = some (some (.builtin "object.__setattr__"))) (ga : PySem.W.findIn K (.ref C) "__getattribute__" = some (some (.builtin "BaseException.__getattribute__"))) (gg : PySem.W.findIn K (.ref C) "__getattr__" = some none) (nAt : PySem.W.findIn K (.ref C) "at" = some none)
    (aIt : PySem.W.findIn K (.ref C) "__init__" = some (some (.ref fIt))) (tIt : PySem.W.typeIn K (.ref fIt) = some (.type "function"))
    (lIt : K.lookup fIt = some ⟨ocIt, odIt, .func (PySem.W.fnOf "__init__" "InvalidRow.__init__" (defArgs sInit) (defBody sInit) (defScope sInit) .none kVIt dcIt pmIt anIt cdIt ctIt), slIt⟩) (cIt : PySem.W.codeIn K cdIt "InvalidRow.__init__" = true) (kIt : PySem.W.keepIn K (.ref fIt) = true)
    (kC : PySem.W.keepIn K (.ref C) = true) (eC : PySem.W.subIn K (.ref C) (.type "BaseException") = some true) (tC : PySem.W.typeIn K (.ref C) = some (.type "type")) (hC : PySem.W.hasDictIn K C = true) (iC : PySem.W.isClsIn K C = true) (sC : PySem.W.subIn K (.ref C) (.ref C) = some true)
    (xc : PySem.W.findIn K (.ref C) "__class__" = some (some (.builtin "object.__class__"))) (xn : PySem.W.specialIn K (.builtin "object.__class__") "__get__" = some (some (.builtin "getset_descriptor.__get__"))) (xt : PySem.W.takesIn K (.builtin "object.__class__") = some true) (xm : PySem.W.mroIn K C (.type "object") = some true)
    (kS : PySem.W.kitOne K (.ref C) (.ref S) = some true) (kV : PySem.W.kitOne K (.ref C) (.type "ValueError") = some true)
    (v5 : PySem.W.nsIn K mainGlobals "LONGEST_NAME" = some (some (.int 5 t5))) (v400 : PySem.W.nsIn K mainGlobals "LONGEST_ROW" = some (some (.int 400 t400)))
    (nPt : K.lookup Pt = none) (cPt : PySem.W.codeHdIn K cLi Pt = true)
    (z0 : PySem.W.nsIn K mainGlobals "len" = some none) (z1 : PySem.W.nsIn K mainGlobals "range" = some none) (z2 : PySem.W.nsIn K mainGlobals "iter" = some none) (z3 : PySem.W.nsIn K mainGlobals "enumerate" = some none) (z4 : PySem.W.nsIn K mainGlobals "reversed" = some none) (z5 : PySem.W.nsIn K mainGlobals "tuple" = some none) (z6 : PySem.W.nsIn K mainGlobals "list" = some none) (z7 : PySem.W.nsIn K mainGlobals "sorted" = some none) (z8 : PySem.W.nsIn K mainGlobals "any" = some none) (z9 : PySem.W.nsIn K mainGlobals "all" = some none) (z10 : PySem.W.nsIn K mainGlobals "int" = some none) (z11 : PySem.W.nsIn K mainGlobals "str" = some none) (z12 : PySem.W.nsIn K mainGlobals "bool" = some none) (z13 : PySem.W.nsIn K mainGlobals "abs" = some none) (z14 : PySem.W.nsIn K mainGlobals "min" = some none) (z15 : PySem.W.nsIn K mainGlobals "max" = some none) (z16 : PySem.W.nsIn K mainGlobals "sum" = some none) (z17 : PySem.W.nsIn K mainGlobals "isinstance" = some none) (z18 : PySem.W.nsIn K mainGlobals "ValueError" = some none) :
    LamX.LawAtS l w K CX0 7 63 "script" mg fa h := by
  have e := hfa.symm.trans (PySem.W.mg_of X G aLa)
  cases e
  have N : Nones mg := ⟨PySem.W.mg_none_of X G z0, PySem.W.mg_none_of X G z1, PySem.W.mg_none_of X G z2, PySem.W.mg_none_of X G z3, PySem.W.mg_none_of X G z4, PySem.W.mg_none_of X G z5, PySem.W.mg_none_of X G z6, PySem.W.mg_none_of X G z7, PySem.W.mg_none_of X G z8, PySem.W.mg_none_of X G z9, PySem.W.mg_none_of X G z10, PySem.W.mg_none_of X G z11, PySem.W.mg_none_of X G z12, PySem.W.mg_none_of X G z13, PySem.W.mg_none_of X G z14, PySem.W.mg_none_of X G z15, PySem.W.mg_none_of X G z16, PySem.W.mg_none_of X G z17, PySem.W.mg_none_of X G z18⟩
  have FWi := fun_mk (st := sWithin) lWi cWi kWi
  have gWi := PySem.W.mg_of X G aWi
  have bWi := FWi.binds (ps := ["u", "v"]) fun _ _ _ _ _ _ us hl => match us, hl with | [_, _], _ => rfl
  have FFi := fun_mk (st := sFits) lFi cFi kFi
  have gFi := PySem.W.mg_of X G aFi
  have bFi := FFi.binds (ps := ["u", "v"]) fun _ _ _ _ _ _ us hl => match us, hl with | [_, _], _ => rfl
  have FFf := fun_mk (st := sFirst) lFf cFf kFf
  have gFf := PySem.W.mg_of X G aFf
  have bFf := FFf.binds (ps := ["u", "v"]) fun _ _ _ _ _ _ us hl => match us, hl with | [_, _], _ => rfl
  have FLf := fun_mk (st := sLast) lLf cLf kLf
  have gLf := PySem.W.mg_of X G aLf
  have bLf := FLf.binds (ps := ["u", "v"]) fun _ _ _ _ _ _ us hl => match us, hl with | [_, _], _ => rfl
  have FIn := fun_mk (st := sInOrder) lIn cIn kIn
  have gIn := PySem.W.mg_of X G aIn
  have bIn := FIn.binds (ps := ["rows"]) fun _ _ _ _ _ _ us hl => match us, hl with | [_], _ => rfl
  have FGr := fun_mk (st := sGreat) lGr cGr kGr
  have gGr := PySem.W.mg_of X G aGr
  have bGr := FGr.binds (ps := ["rows"]) fun _ _ _ _ _ _ us hl => match us, hl with | [_], _ => rfl
  have FCh := fun_mk (st := sCheck) lCh cCh kCh
  have gCh := PySem.W.mg_of X G aCh
  have bCh := FCh.binds (ps := ["row"]) fun _ _ _ _ _ _ us hl => match us, hl with | [_], _ => rfl
  have FNa := fun_mk (st := sName) lNa cNa kNa
  have gNa := PySem.W.mg_of X G aNa
  have bNa := FNa.binds (ps := ["value"]) fun _ _ _ _ _ _ us hl => match us, hl with | [_], _ => rfl
  have FLe := fun_mk (st := sLetter) lLe cLe kLe
  have gLe := PySem.W.mg_of X G aLe
  have bLe := FLe.binds (ps := ["sign"]) fun _ _ _ _ _ _ us hl => match us, hl with | [_], _ => rfl
  have FOr := fun_mk (st := sOrder) lOr cOr kOr
  have gOr := PySem.W.mg_of X G aOr
  have bOr := FOr.binds (ps := ["row"]) fun _ _ _ _ _ _ us hl => match us, hl with | [_], _ => rfl
  have FBx := fun_mk (st := sBox) lBx cBx kBx
  have gBx := PySem.W.mg_of X G aBx
  have bBx := FBx.binds (ps := ["script", "k"]) fun _ _ _ _ _ _ us hl => match us, hl with | [_, _], _ => rfl
  have FTk := fun_mk (st := sTake) lTk cTk kTk
  have gTk := PySem.W.mg_of X G aTk
  have bTk := FTk.binds (ps := ["box", "many"]) fun _ _ _ _ _ _ us hl => match us, hl with | [_, _], _ => rfl
  have FPk := fun_mk (st := sPick) lPk cPk kPk
  have gPk := PySem.W.mg_of X G aPk
  have bPk := FPk.binds (ps := ["box", "some"]) fun _ _ _ _ _ _ us hl => match us, hl with | [_, _], _ => rfl
  have FLt := fun_mk (st := sLet) lLt cLt kLt
  have gLt := PySem.W.mg_of X G aLt
  have bLt := FLt.binds (ps := ["box"]) fun _ _ _ _ _ _ us hl => match us, hl with | [_], _ => rfl
  have FNs := fun_mk (st := sNames) lNs cNs kNs
  have gNs := PySem.W.mg_of X G aNs
  have bNs := FNs.binds (ps := ["box", "many"]) fun _ _ _ _ _ _ us hl => match us, hl with | [_, _], _ => rfl
  have FRw := fun_mk (st := sRow) lRw cRw kRw
  have gRw := PySem.W.mg_of X G aRw
  have bRw := FRw.binds (ps := ["box", "names", "most"]) fun _ _ _ _ _ _ us hl => match us, hl with | [_, _, _], _ => rfl
  have FSt := fun_mk (st := sStruck) lSt cSt kSt
  have gSt := PySem.W.mg_of X G aSt
  have bSt := FSt.binds (ps := ["box", "row"]) fun _ _ _ _ _ _ us hl => match us, hl with | [_, _], _ => rfl
  have FAl := fun_mk (st := sAll) lAl cAl kAl
  have gAl := PySem.W.mg_of X G aAl
  have bAl := FAl.binds (ps := ["u", "v"]) fun _ _ _ _ _ _ us hl => match us, hl with | [_, _], _ => rfl
  have FRi := fun_mk (st := sRight) lRi cRi kRi
  have gRi := PySem.W.mg_of X G aRi
  have bRi := FRi.binds (ps := ["u", "v"]) fun _ _ _ _ _ _ us hl => match us, hl with | [_, _], _ => rfl
  have FCu := fun_mk (st := sCuts) lCu cCu kCu
  have gCu := PySem.W.mg_of X G aCu
  have bCu := FCu.binds (ps := ["u", "v", "w"]) fun _ _ _ _ _ _ us hl => match us, hl with | [_, _, _], _ => rfl
  have FLi := fun_mk (st := sLists) lLi cLi' kLi
  have gLi := PySem.W.mg_of X G aLi
  have bLi := FLi.binds (ps := ["rows"]) fun _ _ _ _ _ _ us hl => match us, hl with | [_], _ => rfl
  have FRe := fun_mk (st := sRefused) lRe cRe kRe
  have gRe := PySem.W.mg_of X G aRe
  have bRe := FRe.binds (ps := ["value"]) fun _ _ _ _ _ _ us hl => match us, hl with | [_], _ => rfl
  have FCk := fun_mk (st := sChecked) lCk cCk kCk
  have gCk := PySem.W.mg_of X G aCk
  have bCk := FCk.binds (ps := ["box", "row", "name"]) fun _ _ _ _ _ _ us hl => match us, hl with | [_, _, _], _ => rfl
  have FLo := fun_mk (st := sLong) lLo cLo kLo
  have gLo := PySem.W.mg_of X G aLo
  have bLo := FLo.binds (ps := ["box", "one", "other"]) fun _ _ _ _ _ _ us hl => match us, hl with | [_, _, _], _ => rfl
  have FLa := fun_mk (st := sLaw) lLa cLa kLa
  have gLa := PySem.W.mg_of X G aLa
  have bLa := FLa.binds (ps := ["script"]) fun _ _ _ _ _ _ us hl => match us, hl with | [_], _ => rfl
  have FIt := fun_mk (st := sInit) lIt cIt kIt
  have bIt := FIt.binds (ps := ["self", "at"]) fun _ _ _ _ _ _ us hl => match us, hl with | [_, _], _ => rfl
  have kbWi : KBinds K _ ["u", "v"] ["v", "u"] Ka.swG Ka.swG := Ka.kb_swap (fd := PySem.W.fnOf "within" "within" (defArgs sWithin) (defBody sWithin) (defScope sWithin) .none kVWi dcWi pmWi anWi cdWi ctWi) fun x y => rfl
  have kbFi : KBinds K _ ["u", "v"] ["v", "u"] Ka.swG Ka.swG := Ka.kb_swap (fd := PySem.W.fnOf "fits" "fits" (defArgs sFits) (defBody sFits) (defScope sFits) .none kVFi dcFi pmFi anFi cdFi ctFi) fun x y => rfl
  have kbFf : KBinds K _ ["u", "v"] ["v", "u"] Ka.swG Ka.swG := Ka.kb_swap (fd := PySem.W.fnOf "first_fit" "first_fit" (defArgs sFirst) (defBody sFirst) (defScope sFirst) .none kVFf dcFf pmFf anFf cdFf ctFf) fun x y => rfl
  have kbLf : KBinds K _ ["u", "v"] ["v", "u"] Ka.swG Ka.swG := Ka.kb_swap (fd := PySem.W.fnOf "last_fit" "last_fit" (defArgs sLast) (defBody sLast) (defScope sLast) .none kVLf dcLf pmLf anLf cdLf ctLf) fun x y => rfl
  have kbIn : KBinds K _ ["rows"] ["rows"] Ka.snG Ka.snG := Ka.kb_one (fd := PySem.W.fnOf "in_order" "in_order" (defArgs sInOrder) (defBody sInOrder) (defScope sInOrder) .none kVIn dcIn pmIn anIn cdIn ctIn) fun x => rfl
  have kbGr : KBinds K _ ["rows"] ["rows"] Ka.snG Ka.snG := Ka.kb_one (fd := PySem.W.fnOf "greatest_rows" "greatest_rows" (defArgs sGreat) (defBody sGreat) (defScope sGreat) .none kVGr dcGr pmGr anGr cdGr ctGr) fun x => rfl
  have kbCh : KBinds K _ ["row"] ["row"] Ka.snG Ka.snG := Ka.kb_one (fd := PySem.W.fnOf "check_row" "check_row" (defArgs sCheck) (defBody sCheck) (defScope sCheck) .none kVCh dcCh pmCh anCh cdCh ctCh) fun x => rfl
  have gC := PySem.W.mg_of X G aC
  have gS := PySem.W.mg_of X G aS
  have oex : OexC K C := ⟨⟨nm, q, Nn, bs, bm, sn, sub, ab, col, dd, m0, m1, m2, m3, m5, xL, hbm⟩, sa, eC, tC, kC⟩
  have R : RowC K mg C fIt _ := ⟨oex, aIt, tIt, nAt, gC, FIt, bIt⟩
  have CF : CheckFn K mg C fIt fCh fNa fLe _ _ _ _ := ⟨R, FCh, FNa, FLe, bCh, bNa, bLe, gCh, gNa, gLe, ⟨_, PySem.W.mg_of X G v5⟩, ⟨_, PySem.W.mg_of X G v400⟩⟩
  have Z : CatchC K mg C S := ⟨PySem.W.exm_ref eC hC tC sC, ⟨ga, gg, eC, hC⟩, ⟨ga, gg, eC, hC, xc, xn, xt, xm⟩, iC, gS, kS, kV⟩
  have T5 : FiveFn K mg fAl fWi fFi fFf fLf _ _ _ _ _ := ⟨FAl, FWi, FFi, FFf, FLf, bAl, bWi, bFi, bFf, bLf, gAl, gWi, gFi, gFf, gLf⟩
  have T2 : TwoFn K mg fAl fIn fGr fOr fWi _ _ _ _ _ := ⟨FAl, FIn, FGr, FOr, FWi, bAl, bIn, bGr, bWi, kbIn, kbGr, gAl, gIn, gGr, gOr, gWi⟩
  refine ⟨PySem.W.fnOf "law" "law" (defArgs sLaw) (defBody sLaw) (defScope sLaw) .none kVLa dcLa pmLa anLa cdLa ctLa, [(cLi, Pt)], spLaw K Pt, fun p hp => ?_, fun p hp => ?_, fun p hp => ?_, fun s u => BindsTo.of_eq rfl, fun H a ns hl hb hP hS => ?_, fun base hb hg hTB => ?_⟩
  · rw [List.mem_singleton.mp hp]
    exact hTab
  · rw [List.mem_singleton.mp hp]
    exact nPt
  · rw [List.mem_singleton.mp hp]
    exact PySem.W.codeHd_of_K X cPt
  · exact ⟨a, ns, rfl, hS, (fun p hp => by
      rw [List.mem_singleton.mp hp]
      exact LamX.TabS.nil (hP _ List.mem_cons_self)), fun H' => rfl⟩
  · have TB := hTB (cLi, Pt) List.mem_cons_self
    have GLi := ok_lists (P := l.prog) (w := w) (base := base) lLi cLi' TB T2 N
    exact ok_law FLa N (ok_box FBx N.int N.len N.abs) ⟨kBx, bBx, gBx⟩ (ok_names FNs FTk bTk gTk FPk bPk gPk FLt bLt gLt N) ⟨kNs, bNs, gNs⟩ (ok_take FTk N.int) ⟨kTk, bTk, gTk⟩
      (ok_row FRw FTk bTk gTk FPk bPk gPk N.int N.len N.tuple N.range) ⟨kRw, bRw, gRw⟩ (ok_struck FSt FTk bTk gTk N.int N.tuple) ⟨kSt, bSt, gSt⟩ (ok_right FRi T5 N) ⟨kRi, bRi, gRi⟩
      (ok_fits FFi N.enumerate N.len N.reversed) ⟨kFi, bFi, gFi⟩ (ok_cuts FCu FFi bFi kbFi gFi N) ⟨kCu, bCu, gCu⟩ (ok_all FAl N.len N.range) ⟨kAl, bAl, gAl⟩ GLi ⟨kLi, bLi, gLi⟩
      (ok_rows FCk CF Z kbCh FRe bRe gRe FTk bTk gTk FPk bPk gPk N) ⟨kCk, bCk, gCk⟩ (ok_long FLo T5 ⟨kbWi, kbFf, kbLf⟩ FTk bTk gTk N) ⟨kLo, bLo, gLo⟩
end Kb
open PySem PySem.W PyProof.Rows in
set_option maxHeartbeats 0 in
theorem PySem.Challenge.cw_stillowed_k01_fits_of_rows_holds : PySem.Challenge.rw_stillowed_k01_fits_of_rows.Holds := by
  w_on; o_law; k_head; (case hw => w_witness2)
  k_fill
  refine LamX.walk_ofTs (l := PySem.Challenge.rw_stillowed_k01_fits_of_rows) (n := 63) (k := 7) (x := "script") (CX := fun _ => L2.CX0) rfl (by decide) rfl ⟨rfl, by decide, by decide⟩ (fun w h Y => PySem.W.km_in_of Y) ?F (fun _ _ _ _ _ z => z)
  case F =>
    intro w mg fa h Y KX G hmg
    refine' Kb.all_mk KX G hmg (PySem.W.km_tabs_of Y _ (List.mem_singleton.mpr rfl)) ?aWi ?lWi ?cWi ?kWi ?aFi ?lFi ?cFi ?kFi ?aFf ?lFf ?cFf ?kFf ?aLf ?lLf ?cLf ?kLf ?aIn ?lIn ?cIn ?kIn ?aGr ?lGr ?cGr ?kGr ?aCh ?lCh ?cCh ?kCh ?aNa ?lNa ?cNa ?kNa ?aLe ?lLe ?cLe ?kLe ?aOr ?lOr ?cOr ?kOr ?aBx ?lBx ?cBx ?kBx ?aTk ?lTk ?cTk ?kTk ?aPk ?lPk ?cPk ?kPk ?aLt ?lLt ?cLt ?kLt ?aNs ?lNs ?cNs ?kNs ?aRw ?lRw ?cRw ?kRw ?aSt ?lSt ?cSt ?kSt ?aAl ?lAl ?cAl ?kAl ?aRi ?lRi ?cRi ?kRi ?aCu ?lCu ?cCu ?kCu ?aLi ?lLi ?cLi' ?kLi ?aRe ?lRe ?cRe ?kRe ?aCk ?lCk ?cCk ?kCk ?aLo ?lLo ?cLo ?kLo ?aLa ?lLa ?cLa ?kLa ?aC ?aS ?xL ?hbm ?sa ?ga ?gg ?nAt ?aIt ?tIt ?lIt ?cIt ?kIt ?kC ?eC ?tC ?hC ?iC ?sC ?xc ?xn ?xt ?xm ?kS ?kV ?v5 ?v400 ?nPt ?cPt ?z0 ?z1 ?z2 ?z3 ?z4 ?z5 ?z6 ?z7 ?z8 ?z9 ?z10 ?z11 ?z12 ?z13 ?z14 ?z15 ?z16 ?z17 ?z18
    (case aWi => k_is)
    (case lWi => k_is)
    (case cWi => k_is)
    (case kWi => k_is)
    (case aFi => k_is)
    (case lFi => k_is)
    (case cFi => k_is)
    (case kFi => k_is)
    (case aFf => k_is)
    (case lFf => k_is)
    (case cFf => k_is)
    (case kFf => k_is)
    (case aLf => k_is)
    (case lLf => k_is)
    (case cLf => k_is)
    (case kLf => k_is)
    (case aIn => k_is)
    (case lIn => k_is)
    (case cIn => k_is)
    (case kIn => k_is)
    (case aGr => k_is)
    (case lGr => k_is)
    (case cGr => k_is)
    (case kGr => k_is)
    (case aCh => k_is)
    (case lCh => k_is)
    (case cCh => k_is)
    (case kCh => k_is)
    (case aNa => k_is)
    (case lNa => k_is)
    (case cNa => k_is)
    (case kNa => k_is)
    (case aLe => k_is)
    (case lLe => k_is)
    (case cLe => k_is)
    (case kLe => k_is)
    (case aOr => k_is)
    (case lOr => k_is)
    (case cOr => k_is)
    (case kOr => k_is)
    (case aBx => k_is)
    (case lBx => k_is)
    (case cBx => k_is)
    (case kBx => k_is)
    (case aTk => k_is)
    (case lTk => k_is)
    (case cTk => k_is)
    (case kTk => k_is)
    (case aPk => k_is)
    (case lPk => k_is)
    (case cPk => k_is)
    (case kPk => k_is)
    (case aLt => k_is)
    (case lLt => k_is)
    (case cLt => k_is)
    (case kLt => k_is)
    (case aNs => k_is)
    (case lNs => k_is)
    (case cNs => k_is)
    (case kNs => k_is)
    (case aRw => k_is)
    (case lRw => k_is)
    (case cRw => k_is)
    (case kRw => k_is)
    (case aSt => k_is)
    (case lSt => k_is)
    (case cSt => k_is)
    (case kSt => k_is)
    (case aAl => k_is)
    (case lAl => k_is)
    (case cAl => k_is)
    (case kAl => k_is)
    (case aRi => k_is)
    (case lRi => k_is)
    (case cRi => k_is)
    (case kRi => k_is)
    (case aCu => k_is)
    (case lCu => k_is)
    (case cCu => k_is)
    (case kCu => k_is)
    (case aLi => k_is)
    (case lLi => k_is)
    (case cLi' => k_is)
    (case kLi => k_is)
    (case aRe => k_is)
    (case lRe => k_is)
    (case cRe => k_is)
    (case kRe => k_is)
    (case aCk => k_is)
    (case lCk => k_is)
    (case cCk => k_is)
    (case kCk => k_is)
    (case aLo => k_is)
    (case lLo => k_is)
    (case cLo => k_is)
    (case kLo => k_is)
    (case aLa => k_is)
    (case lLa => k_is)
    (case cLa => k_is)
    (case kLa => k_is)
    (case aC => k_is)
    (case aS => k_is)
    (case xL => k_is)
    (case hbm => first | decide +kernel | rfl | k_is)
    (case sa => k_is)
    (case ga => k_is)
    (case gg => k_is)
    (case nAt => k_is)
    (case aIt => k_is)
    (case tIt => k_is)
    (case lIt => k_is)
    (case cIt => k_is)
    (case kIt => k_is)
    (case kC => k_is)
    (case eC => k_is)
    (case tC => k_is)
    (case hC => k_is)
    (case iC => k_is)
    (case sC => first | rfl | k_is)
    (case xc => k_is)
    (case xn => k_is)
    (case xt => k_is)
    (case xm => k_is)
    (case kS => first | k_is | rfl | decide +kernel)
    (case kV => first | k_is | rfl | decide +kernel)
    (case v5 => k_is)
    (case v400 => k_is)
    (case nPt => first | k_is | rfl | decide +kernel)
    (case cPt => first | k_is | rfl | decide +kernel)
    (case z0 => k_is)
    (case z1 => k_is)
    (case z2 => k_is)
    (case z3 => k_is)
    (case z4 => k_is)
    (case z5 => k_is)
    (case z6 => k_is)
    (case z7 => k_is)
    (case z8 => k_is)
    (case z9 => k_is)
    (case z10 => k_is)
    (case z11 => k_is)
    (case z12 => k_is)
    (case z13 => k_is)
    (case z14 => k_is)
    (case z15 => k_is)
    (case z16 => k_is)
    (case z17 => k_is)
    (case z18 => k_is)
