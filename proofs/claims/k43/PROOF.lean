import PyProof.Rows.All
import Wide.All
import OpenK.AllK
import Wide.FinOn
import PyProof.TupleIter
import PyProof.WalksMore
import HandS.ForMost
import HandS.IterNext
import HandS.IterVal
import KE.GoesMore
import PyProof.EnumMake
import HandS.Style
import KE.SortKeyHeap
import KE.KLam
import KE.KDictCopyH
import HandS.SortKw
import HandS.Lambda
import HandS.DictComp
import HandS.Walk
import HandS.Gcd
import KE.SortData
import KE.DataMinMax
import PyProof.DictUpdate
import PySem.Challenge.RW_stillowed_k43_whole_prices_at_all_moment
import HandS.Zip
import HandS.Rev
import HandS.Evl
import HandS.Wide
import HandS.TupLe
import HandS.Deep
import HandS.TupAny
import HandS.IsInst
import PyProof.P3Eq
import HandS.TupLen
import HandS.More
import HandS.Flow
import HandS.Conv
import HandS.List
import HandS.SetFor
import KE.LtData
import HandS.Strs
import HandS.ListItems
import HandS.DictTup
import KE.KDictList
import HandS.Small
import HandS.EndTab
import KE.KNestM
set_option Elab.async false
set_option linter.all false
set_option maxRecDepth 100000
set_option maxHeartbeats 32000000
/-! The mathematics of fits (own text; no part of the kit). -/
namespace Ka

variable {α : Type} [DecidableEq α]

/-- may the place stand behind the fit so far -/
def okAfter (fit : List Nat) (at_ : Nat) : Bool :=
  match fit.getLast? with
  | none => true
  | some l => decide (l < at_)

/-- the places by which a fit is lengthened -/
def nexts (v : List α) (x : α) (fit : List Nat) : List Nat :=
  (List.range v.length).filter fun i => decide (v[i]? = some x) && okAfter fit i

def growAll (v : List α) (x : α) (found : List (List Nat)) : List (List Nat) :=
  found.flatMap fun fit => (nexts v x fit).map fun i => fit ++ [i]

/-- all fits, as a loop over u finds them -/
def allFrom (v : List α) : List α → List (List Nat) → List (List Nat)
  | [], found => found
  | x :: u, found => allFrom v u (growAll v x found)

def allFits (u v : List α) : List (List Nat) := allFrom v u [[]]

theorem allFrom_append (v : List α) : ∀ (u w : List α) (found : List (List Nat)), allFrom v (u ++ w) found = allFrom v w (allFrom v u found)
  | [], _, _ => rfl
  | x :: u, w, found => allFrom_append v u w (growAll v x found)

theorem allFits_snoc (u : List α) (x : α) (v : List α) : allFits (u ++ [x]) v = growAll v x (allFits u v) := by
  unfold allFits
  rw [allFrom_append]
  rfl

/-! ### what a fit is -/
structure IsFit (u v : List α) (g : List Nat) : Prop where
  len : g.length = u.length
  asc : ∀ i j a b : Nat, i < j → g[i]? = some a → g[j]? = some b → a < b
  hit : ∀ i a : Nat, g[i]? = some a → v[a]? = u[i]?

theorem okAfter_iff (fit : List Nat) (i : Nat) : okAfter fit i = true ↔ ∀ l, fit.getLast? = some l → l < i := by
  unfold okAfter
  cases h : fit.getLast? with
  | none => simp
  | some l => simp

theorem mem_growAll {v : List α} {x : α} {found : List (List Nat)} {g : List Nat} :
    g ∈ growAll v x found ↔ ∃ fit i, fit ∈ found ∧ g = fit ++ [i] ∧ v[i]? = some x ∧ okAfter fit i = true := by
  unfold growAll nexts
  simp only [List.mem_flatMap, List.mem_map, List.mem_filter, List.mem_range, Bool.and_eq_true, decide_eq_true_eq]
  constructor
  · rintro ⟨fit, hf, i, ⟨hi, hx, ho⟩, rfl⟩
    exact ⟨fit, i, hf, rfl, hx, ho⟩
  · rintro ⟨fit, i, hf, rfl, hx, ho⟩
    refine ⟨fit, hf, i, ⟨?_, hx, ho⟩, rfl⟩
    exact (List.getElem?_eq_some_iff.mp hx).1

theorem snoc_get {β : Type} (l : List β) (x : β) (i : Nat) : (l ++ [x])[i]? = if i < l.length then l[i]? else if i = l.length then some x else none := by
  rw [List.getElem?_append]
  split
  · rfl
  · split
    · rename_i h1 h2
      subst h2
      simp
    · rename_i h1 h2
      have : 1 ≤ i - l.length := by omega
      rw [List.getElem?_eq_none]
      simpa using this

theorem isFit_snoc {u v : List α} {x : α} {fit : List Nat} {i : Nat} :
    IsFit (u ++ [x]) v (fit ++ [i]) ↔ IsFit u v fit ∧ v[i]? = some x ∧ okAfter fit i = true := by
  constructor
  · intro h
    have hl : fit.length = u.length := by
      have := h.len
      simp at this
      exact this
    refine ⟨⟨hl, fun a b p q hab hp hq => ?_, fun a p hp => ?_⟩, ?_, ?_⟩
    · have h1 := (List.getElem?_eq_some_iff.mp hp).1
      have h2 := (List.getElem?_eq_some_iff.mp hq).1
      refine h.asc a b p q hab ?_ ?_
      · rw [snoc_get, if_pos h1]; exact hp
      · rw [snoc_get, if_pos h2]; exact hq
    · have h1 := (List.getElem?_eq_some_iff.mp hp).1
      have := h.hit a p (by rw [snoc_get, if_pos h1]; exact hp)
      rw [this, snoc_get, if_pos (by omega)]
    · have := h.hit fit.length i (by rw [snoc_get, if_neg (Nat.lt_irrefl _), if_pos rfl])
      rw [this, snoc_get, if_neg (by omega), if_pos (by omega)]
    · rw [okAfter_iff]
      intro l hl'
      rw [List.getLast?_eq_getElem?] at hl'
      have h1 := (List.getElem?_eq_some_iff.mp hl').1
      exact h.asc (fit.length - 1) fit.length l i (by omega) (by rw [snoc_get, if_pos h1]; exact hl') (by rw [snoc_get, if_neg (Nat.lt_irrefl _), if_pos rfl])
  · rintro ⟨h, hx, ho⟩
    rw [okAfter_iff] at ho
    have hl := h.len
    refine ⟨by simp [hl], fun a b p q hab hp hq => ?_, fun a p hp => ?_⟩
    · rw [snoc_get] at hp hq
      split at hq
      · rename_i hb
        rw [if_pos (by omega)] at hp
        exact h.asc a b p q hab hp hq
      · split at hq
        · rename_i hb hb2
          cases hq
          rw [if_pos (by omega)] at hp
          have hlast : ∃ l, fit.getLast? = some l := by
            cases e : fit.getLast? with
            | none =>
              rw [List.getLast?_eq_none_iff] at e
              subst e
              simp at hb2
              omega
            | some l => exact ⟨l, rfl⟩
          obtain ⟨l, el⟩ := hlast
          have h1 := ho l el
          by_cases e : a = fit.length - 1
          · rw [List.getLast?_eq_getElem?, ← e, hp] at el
            cases el
            exact h1
          · rw [List.getLast?_eq_getElem?] at el
            have h2 : a < fit.length := by omega
            exact Nat.lt_trans (h.asc a (fit.length - 1) p l (by omega) hp el) h1
        · cases hq
    · rw [snoc_get] at hp
      split at hp
      · rename_i h1
        rw [h.hit a p hp, snoc_get, if_pos (by omega)]
      · split at hp
        · rename_i h1 h2
          cases hp
          rw [hx, snoc_get, if_neg (by omega), if_pos (by omega)]
        · cases hp

theorem isFit_nil {v : List α} {g : List Nat} : IsFit ([] : List α) v g ↔ g = [] := by
  constructor
  · intro h
    have := h.len
    simpa using this
  · rintro rfl
    exact ⟨rfl, fun i j a b _ h => by simp at h, fun i a h => by simp at h⟩

theorem snoc_ind {β : Type} {P : List β → Prop} (h0 : P []) (h1 : ∀ l x, P l → P (l ++ [x])) : ∀ l, P l := by
  intro l
  have : ∀ r : List β, P r.reverse := by
    intro r
    induction r with
    | nil => exact h0
    | cons x r ih => rw [List.reverse_cons]; exact h1 _ _ ih
  simpa using this l.reverse

theorem mem_allFits (v : List α) : ∀ (u : List α) (g : List Nat), g ∈ allFits u v ↔ IsFit u v g := by
  refine snoc_ind (fun g => ?_) fun u x ih g => ?_
  · rw [isFit_nil]
    simp [allFits, allFrom]
  · rw [allFits_snoc, mem_growAll]
    constructor
    · rintro ⟨fit, i, hf, rfl, hx, ho⟩
      exact isFit_snoc.mpr ⟨(ih fit).mp hf, hx, ho⟩
    · intro h
      have hl := h.len
      obtain ⟨fit, i, rfl⟩ : ∃ fit i, g = fit ++ [i] := by
        rcases List.eq_nil_or_concat g with e | ⟨fit, i, e⟩
        · subst e
          simp at hl
        · exact ⟨fit, i, by rw [e]; simp⟩
      obtain ⟨h1, h2, h3⟩ := isFit_snoc.mp h
      exact ⟨fit, i, (ih fit).mpr h1, rfl, h2, h3⟩

/-! ### how many fits there are -/
def cnt (u v : List α) : Nat := (allFits u v).length

theorem cnt_nil (v : List α) : cnt ([] : List α) v = 1 := rfl

theorem growAll_nil (x : α) (found : List (List Nat)) : growAll ([] : List α) x found = [] := by
  unfold growAll nexts
  simp

theorem cnt_snoc_nil (u : List α) (x : α) : cnt (u ++ [x]) ([] : List α) = 0 := by
  unfold cnt
  rw [allFits_snoc, growAll_nil]
  rfl

def low (n : Nat) (g : List Nat) : Bool := g.all fun i => decide (i < n)

theorem filter_map_comm {β γ : Type} (f : β → γ) (p : γ → Bool) (l : List β) : (l.map f).filter p = (l.filter (p ∘ f)).map f := List.filter_map

theorem nexts_snoc (v : List α) (d x : α) (fit : List Nat) :
    nexts (v ++ [d]) x fit = nexts v x fit ++ (if d = x ∧ okAfter fit v.length = true then [v.length] else []) := by
  unfold nexts
  rw [List.length_append, List.length_singleton, List.range_succ, List.filter_append]
  congr 1
  · apply List.filter_congr
    intro i hi
    have hi' : i < v.length := List.mem_range.mp hi
    rw [snoc_get, if_pos hi']
  · rw [List.filter_cons, List.filter_nil]
    rw [snoc_get, if_neg (Nat.lt_irrefl _), if_pos rfl]
    by_cases e : d = x
    · subst e
      simp
    · simp [e]

theorem nexts_lt {v : List α} {x : α} {fit : List Nat} {i : Nat} (h : i ∈ nexts v x fit) : i < v.length := by
  unfold nexts at h
  exact List.mem_range.mp (List.mem_filter.mp h).1

theorem low_snoc (n : Nat) (fit : List Nat) (i : Nat) : low n (fit ++ [i]) = (low n fit && decide (i < n)) := by
  unfold low
  simp

theorem last_high {v : List α} {fit : List Nat} {g : List Nat} {x : α} (h : fit.getLast? = some g.length) : True := trivial

/-- the fits in v ++ [d] that lie in v are those in v, in the same order -/
theorem filter_low (v : List α) (d : α) : ∀ u : List α, (∀ g ∈ allFits u (v ++ [d]), low v.length g = true ∨ g.getLast? = some v.length) ∧ (allFits u (v ++ [d])).filter (low v.length) = allFits u v := by
  refine snoc_ind ⟨fun g hg => ?_, ?_⟩ fun u x ih => ?_
  · have : g = [] := by simpa [allFits, allFrom] using hg
    subst this
    exact .inl rfl
  · rfl
  · obtain ⟨ih1, ih2⟩ := ih
    refine ⟨fun g hg => ?_, ?_⟩
    · rw [allFits_snoc, mem_growAll] at hg
      obtain ⟨fit, i, hf, rfl, hx, ho⟩ := hg
      have hi : i < (v ++ [d]).length := (List.getElem?_eq_some_iff.mp hx).1
      simp at hi
      rcases ih1 fit hf with h | h
      · by_cases e : i < v.length
        · left
          rw [low_snoc, h, decide_eq_true e]
          rfl
        · right
          have : i = v.length := by omega
          simp [this]
      · rw [okAfter_iff] at ho
        have := ho _ h
        omega
    · rw [allFits_snoc, allFits_snoc, ← ih2]
      unfold growAll
      generalize allFits u (v ++ [d]) = L at ih1
      clear ih2
      induction L with
      | nil => rfl
      | cons fit L ihL =>
        have ih1' : ∀ g ∈ L, low v.length g = true ∨ g.getLast? = some v.length := fun g hg => ih1 g (List.mem_cons_of_mem _ hg)
        rw [List.flatMap_cons, List.filter_append, ihL ih1', List.filter_cons]
        have hsplit : ((nexts (v ++ [d]) x fit).map fun i => fit ++ [i]).filter (low v.length) = if low v.length fit = true then (nexts v x fit).map fun i => fit ++ [i] else [] := by
          rw [List.filter_map, nexts_snoc, List.filter_append]
          have h2 : ((if d = x ∧ okAfter fit v.length = true then [v.length] else []).filter (low v.length ∘ fun i => fit ++ [i])) = [] := by
            split
            · simp [low_snoc]
            · rfl
          rw [h2, List.append_nil]
          by_cases hl : low v.length fit = true
          · rw [if_pos hl]
            congr 1
            rw [List.filter_eq_self]
            intro i hi
            have := nexts_lt hi
            simp [low_snoc, hl, this]
          · rw [if_neg hl]
            have : (nexts v x fit).filter (low v.length ∘ fun i => fit ++ [i]) = [] := by
              rw [List.filter_eq_nil_iff]
              intro i hi
              simp [low_snoc, hl]
            rw [this]
            rfl
        rw [hsplit]
        by_cases hl : low v.length fit = true
        · rw [if_pos hl, if_pos hl, List.flatMap_cons]
        · rw [if_neg hl, if_neg hl, List.nil_append]

theorem sum_nexts (v : List α) (x : α) (found : List (List Nat)) : (growAll v x found).length = (found.map fun fit => (nexts v x fit).length).sum := by
  unfold growAll
  rw [List.length_flatMap]
  congr 1
  apply List.map_congr_left
  intro fit _
  rw [List.length_map]

/-- the one recurrence -/
theorem cnt_snoc_snoc (u : List α) (x : α) (v : List α) (d : α) : cnt (u ++ [x]) (v ++ [d]) = cnt (u ++ [x]) v + (if d = x then cnt u v else 0) := by
  unfold cnt
  rw [allFits_snoc, allFits_snoc, sum_nexts, sum_nexts]
  obtain ⟨h1, h2⟩ := filter_low v d u
  rw [← h2]
  generalize allFits u (v ++ [d]) = L at h1
  clear h2
  induction L with
  | nil => simp
  | cons fit L ih =>
    have h1' : ∀ g ∈ L, low v.length g = true ∨ g.getLast? = some v.length := fun g hg => h1 g (List.mem_cons_of_mem _ hg)
    rw [List.map_cons, List.sum_cons, ih h1', List.filter_cons, nexts_snoc, List.length_append]
    rcases h1 fit (List.mem_cons_self) with h | h
    · rw [if_pos h, List.map_cons, List.sum_cons, List.length_cons]
      have ho : okAfter fit v.length = true := by
        rw [okAfter_iff]
        intro l hl
        have hm : l ∈ fit := List.mem_of_getLast? hl
        unfold low at h
        have := (List.all_eq_true.mp h) l hm
        simpa using this
      by_cases e : d = x
      · simp [e, ho]
        omega
      · simp [e]
        try omega
    · have hn : ¬ low v.length fit = true := by
        intro hl
        have hm : v.length ∈ fit := List.mem_of_getLast? h
        unfold low at hl
        have := (List.all_eq_true.mp hl) _ hm
        simp at this
      have ho : okAfter fit v.length = false := by
        unfold okAfter
        rw [h]
        simp
      have h0 : nexts v x fit = [] := by
        unfold nexts
        rw [List.filter_eq_nil_iff]
        intro i hi
        have hi' := List.mem_range.mp hi
        have : okAfter fit i = false := by
          unfold okAfter
          rw [h]
          simp
          omega
        simp [this]
      rw [if_neg hn, h0, ho]
      simp

end Ka
/-! iter(t) of a tuple of texts, and x in it. -/
namespace Ka
open PySem PySem.Spec PyProof.Rows L2

theorem entry_ci : entryFor table "proto.contains_iter" = some Builtin.«proto.contains_iter» := entryFor_of_fast (by kernel_rfl)
theorem tu_nocontains : typeLookup (.type "tuple_iterator") "__contains__" = pure none := by rw [typeLookup_type, builtinLookup_eq_fast]; kernel_rfl

section
variable {prog : Program} {w : World} {A : Around} {E : Value → Shared → Prop} {s : Shared}

/-- what has become of the iterator: the text was found at j, or it is used up -/
def Went (it t : Addr) (zs : List Str) (z : Str) (i : Nat) (h h' : Heap) (b : Bool) : Prop :=
  (b = true ∧ ∃ j, i ≤ j ∧ zs[j]? = some z ∧ (∀ k, i ≤ k → k < j → zs[k]? ≠ some z) ∧ h'.IsTupleIter it t (j + 1) ∧ Heap.ExtBut it h h') ∨
  (b = false ∧ (∀ k, i ≤ k → zs[k]? ≠ some z) ∧ Heap.ExtBut it h h')

theorem ci_loop {it t : Addr} {items : Array Value} {zs : List Str} {z : Str} {tk : Tok} {R : Result → Shared → Prop} (hne : t ≠ it) (hh : A.handled = none)
    (hs : Vals (zs.map V.str) items.toList) : ∀ (n i : Nat) (s : Shared), zs.length - i = n → s.heap.IsTupleIter it t i → s.heap.IsTuple t items →
      (∀ h' b, Went it t zs z i s.heap h' b → R (.ok (.ret (.bool b))) { s with heap := h' }) → codeAny (model prog w) A (.builtin "proto.contains_iter" ⟨[.ref it, .str z tk], []⟩) R s := by
  intro n
  induction n with
  | zero =>
    intro i s hn hit ht q
    have hx : items[i]? = none := by
      have hl := hs.length
      simp only [List.length_map, Array.length_toList] at hl
      rw [Array.getElem?_eq_none_iff]
      omega
    refine codeAny_builtin entry_ci ?_
    show wpAny _ _ (pyNext (.ref it) >>= _) _ _ s
    refine wpAny_bind (wpAny_pyNext_tuple_end hh hit ht hx fun h' e => ?_)
    refine wpAny_bind (wpAny_rule (wpAny_pure ?_))
    exact q h' false (.inr ⟨rfl, fun k hk hz => by
      have := (List.getElem?_eq_some_iff.mp hz).1
      omega, e⟩)
  | succ n ih =>
    intro i s hn hit ht q
    have hi : i < zs.length := by omega
    have hz : (zs.map V.str)[i]? = some (.str zs[i]) := by
      rw [List.getElem?_map, List.getElem?_eq_getElem hi]
      rfl
    obtain ⟨u, hu, ru⟩ := hs.get hz
    obtain ⟨t1, rfl⟩ := ru
    have hx : items[i]? = some (.str zs[i] t1) := by rw [← Array.getElem?_toList]; exact hu
    refine codeAny_builtin entry_ci ?_
    show wpAny _ _ (pyNext (.ref it) >>= _) _ _ s
    refine wpAny_bind (wpAny_pyNext_tuple_item hit ht hx fun h' hit' sb => ?_)
    show wpAny _ _ (eqBool (.str zs[i] t1) (.str z tk) >>= _) _ _ _
    refine wpAny_bind (wpAny_eqBool_str ?_)
    by_cases e : zs[i] = z
    · rw [decide_eq_true e]
      refine wpAny_bind (wpAny_rule (wpAny_pure ?_))
      exact q h' true (.inl ⟨rfl, i, Nat.le_refl _, by rw [List.getElem?_eq_getElem hi, e], fun k h1 h2 => by omega, hit', sb.extBut⟩)
    · rw [decide_eq_false e]
      refine wpAny_pure ⟨Code.quiet_builtin _ (by decide +kernel), ?_⟩
      refine ih (i + 1) { s with heap := h' } (by omega) hit' (by
        obtain ⟨o, ho, r⟩ := ht
        exact ⟨o, (sb.2 t hne).trans ho, r⟩) fun h2 b g => ?_
      refine q h2 b ?_
      have lift : ∀ k, i ≤ k → k ≠ i → i + 1 ≤ k := fun k h1 h2 => by omega
      have hzi : zs[i]? ≠ some z := by
        rw [List.getElem?_eq_getElem hi]
        exact fun w => e (Option.some.inj w)
      rcases g with ⟨rfl, j, h1, h3, h4, h5, h6⟩ | ⟨rfl, h1, h3⟩
      · refine .inl ⟨rfl, j, by omega, h3, fun k a c => ?_, h5, sb.extBut.trans h6⟩
        by_cases ek : k = i
        · rw [ek]; exact hzi
        · exact h4 k (lift k a ek) c
      · refine .inr ⟨rfl, fun k a => ?_, sb.extBut.trans h3⟩
        by_cases ek : k = i
        · rw [ek]; exact hzi
        · exact h1 k (lift k a ek)

theorem contains_ti {it t : Addr} {items : Array Value} {zs : List Str} {z : Str} {tk : Tok} {i : Nat} {Q : Bool → Shared → Prop} (hne : t ≠ it) (hh : A.handled = none)
    (hs : Vals (zs.map V.str) items.toList) (hit : s.heap.IsTupleIter it t i) (ht : s.heap.IsTuple t items)
    (q : ∀ h' b, Went it t zs z i s.heap h' b → Q b { s with heap := h' }) : wpAny (model prog w) A (contains (.ref it) (.str z tk)) Q E s := by
  unfold contains
  refine wpAny_holding ?_
  show wpAny _ _ (specialOf (.ref it) "__contains__" >>= _) _ _ s
  refine wpAny_bind (wpAny_specialOf hit.typeIs tu_nocontains ?_)
  refine wpAny_ite_split (fun hab => absurd hab (by decide)) (fun _ => ?_)
  refine wpAny_bind (wpAny_callSpecialUnlessNone?_none hit.typeIs tu_nocontains ?_)
  refine wpAny_bind (wpAny_rule ?_)
  refine wpAny_bind (wpAny_tryCatch (wpAny_mono (wpAny_pyIter_tupleiter (E := fun _ _ => False) hit (Q := fun v s' => v = .ref it ∧ s' = s) ⟨rfl, rfl⟩) (fun v s' hv => ?_) fun _ _ x => x.elim))
  obtain ⟨rfl, rfl⟩ := hv
  refine wpAny_bind (wpAny_runValue (ci_loop hne hh hs _ i _ rfl hit ht fun h' b g => ?_))
  exact wpAny_pure (q h' b g)

theorem call_iter_tuple {t : Addr} {items : Array Value} {Q : Value → Shared → Prop} (ht : s.heap.IsTuple t items)
    (h : Q (.ref s.heap.objs.size) { s with heap := s.heap.push { cls := .type "tuple_iterator", data := .fields #[.ref t, .int 0 0] } }) : wpAny (model prog w) A (call (.builtin "iter") [.ref t]) Q E s := by
  refine Calls.call_function_entry (by decide +kernel) (by decide +kernel) PySem.W.kdk_entry_iter (PySem.W.kdk_args_iter _) ?_
  unfold Builtin.«iter»
  refine wpAny_bind (m := someArgs "iter" 1 2 _) (wpAny_of_eq (a := [Value.ref t]) (by first | rfl | kernel_rfl!) ?_)
  show wpAny _ _ (pyIter (.ref t) >>= _) _ _ _
  refine wpAny_bind (wpAny_pyIter_tuple ht ?_)
  exact wpAny_pure ⟨_, rfl, h⟩
end

/-- at it an iterator over the tuple at t, the next place is i -/
def TupI (t it : Addr) (i : Nat) : HO := .ext fun h => h.IsTupleIter it t i
section
variable {X : Cx}
theorem ti_ok {P : Program} {w : World} {H : Hp} {h : Heap} {t it : Addr} {i : Nat} (e : h.IsTupleIter it t i) : ObjOk P w H h it (TupI t it i) :=
  ⟨e, let ⟨o, ho, _⟩ := e; ⟨o, ho⟩, fun h1 h2 q k => let ⟨o, ho, r⟩ := q; ⟨o, k _ ho, r⟩⟩

def rIterT (K : PySem.W.Frag) (n : Nat) : List V → Hp → VK → Prop := fun xs H Q => ∃ (t : Addr) (zs : List V), xs = [.ref t] ∧ SqT K H t zs ∧ ∀ it, H it = none → n ≤ it → Q (.ref it) (upd H it (TupI t it 0))
theorem call_iterT : CallR X (.builtin "iter") (rIterT X.K X.s_0.heap.objs.size) := by
  intro pins s σ H xs us Q I r h
  obtain ⟨l, zs, rfl, hq, q⟩ := h
  obtain rfl := Vals.ref1 r
  obtain ⟨its, rv, pl, hz⟩ := I.tuple hq
  refine call_iter_tuple pl ?_
  exact ⟨.ref s.heap.objs.size, _, I.laid (t' := s.toks) (fun b u e => Heap.get?_push_of_some _ e) (Nat.le_refl _) (ti_ok ⟨_, Heap.get?_push_size _ rfl, rfl, rfl⟩), rfl, q _ (I.hok.fresh (Nat.le_refl _)) I.sz⟩

/-- x in it; where it is used up, it is forgotten -/
def rInTI (K : PySem.W.Frag) (n : Nat) : R2 := fun x y H Q => ∃ (z : Str) (it t : Addr) (zs : List Str) (i : Nat), x = .str z ∧ y = .ref it ∧ n ≤ it ∧ H it = some (TupI t it i) ∧ SqT K H t (zs.map V.str) ∧
  ((∃ j, i ≤ j ∧ zs[j]? = some z ∧ (∀ k, i ≤ k → k < j → zs[k]? ≠ some z) ∧ Q (.bl true) (upd H it (TupI t it (j + 1)))) ∨ ((∀ k, i ≤ k → zs[k]? ≠ some z) ∧ Q (.bl false) (ItX.dropH H it)))
theorem op_inTI (hc : X.calm = true) : OpR X (compareOp .In) (rInTI X.K X.s_0.heap.objs.size) := by
  intro pins s σ H x y v u Q I rx ry h
  obtain ⟨z, it, t, zs, i, rfl, rfl, hn, hit, hq, q⟩ := h
  obtain ⟨tk, rfl⟩ := rx
  cases ry
  obtain ⟨its, rv, pl, hz⟩ := I.tuple hq
  have hI : s.heap.IsTupleIter it t i := (I.hok it _ hit).1
  have hne : t ≠ it := by
    intro e
    subst e
    obtain ⟨o, ho, hc, _⟩ := hI
    obtain ⟨o', ho', hc', _⟩ := pl
    rw [ho] at ho'
    cases ho'
    rw [hc] at hc'
    revert hc'
    simp
  have mu : Mut (H it) := by rw [hit]; exact True.intro
  show wpAny _ _ (contains (.ref it) (.str z tk) >>= fun b => pure (Value.bool b)) _ _ s
  refine wpAny_bind (contains_ti hne (I.ok.hd hc) (by simpa using rv) hI pl fun h' b g => wpAny_pure ?_)
  rcases g with ⟨rfl, j, h1, h3, h4, h5, h6⟩ | ⟨rfl, h1, h3⟩
  · rcases q with ⟨j', a1, a3, a4, q⟩ | ⟨a1, _⟩
    · have e : j' = j := by
        rcases Nat.lt_trichotomy j j' with l | l | l
        · exact absurd h3 (a4 j h1 l)
        · exact l.symm
        · exact absurd a3 (h4 j' a1 l)
      subst e
      exact ⟨.bl true, _, I.write (x := it) (e := it) (t' := s.toks) mu (.inl rfl) (fun b o nb e => h6 b o nb e) (let ⟨o, ho, _⟩ := h5; ⟨o, ho⟩) (ti_ok h5), rfl, q⟩
    · exact absurd h3 (a1 j h1)
  · rcases q with ⟨j', a1, a3, a4, q⟩ | ⟨a1, q⟩
    · exact absurd a3 (h1 j' a1)
    · have I2 := ItX.inv_drop I hit
      obtain ⟨f0, f1, f2, f3, f4, f5⟩ := ItX.inv_fp I hit hn
      exact ⟨.bl false, _, I2.turned (t' := s.toks) (fun b o nb e => h3 b o nb e) f0 f1 f3 f4 f5, rfl, q⟩
end
end Ka
/-! enumerate(t) of a tuple; xs[i] op= e of a list. -/
namespace Ka
open PySem PySem.Spec PyProof.Rows L2
open AutoSeq1 (wpAny_loadPart')

theorem meets_enumerate_newT (l : Addr) (items : Array Value) (o : Obj) (ho : o.cls = .type "tuple") (hd : ∃ n, o.data = .seq items n) :
    Meets (Builtin.«enumerate.__new__» ⟨[.type "enumerate", .ref l], []⟩) (fun _ R s => s.heap.get? l = some o ∧
      R (.ok (.ret (.ref (s.heap.push { cls := .type "tuple_iterator", data := .fields #[.ref l, .int 0 0] }).objs.size)))
        { s with heap := (s.heap.push { cls := .type "tuple_iterator", data := .fields #[.ref l, .int 0 0] }).push { cls := .type "enumerate", data := .fields #[.none, .bool false, .ref s.heap.objs.size, rawInt 0, .none, .none] } }) :=
  .of_wp fun prog w A R s h => by
    obtain ⟨hp, g, d, tk, os⟩ := s; obtain ⟨hl, h⟩ := h
    obtain ⟨c, dct, dt, sl⟩ := o
    obtain ⟨n, hd⟩ := hd
    replace ho : c = .type "tuple" := ho
    replace hd : dt = .seq items n := hd
    subst ho hd
    have hsub := sub_enumerate
    have hL : Heap.IsTuple (Shared.heap ⟨hp, g, d, tk, os⟩) l items := ⟨_, hl, rfl, n, rfl⟩
    wp_walk using wpAny_loadPart' hl
    refine wpAny_stack_any fun st => wpAny_pure ?_
    split
    · rename_i c _ _ _ _ _
      cases (c == Value.type "enumerate")
      · wp_walk using wpAny_loadPart' hl, wpAny_pyIter_tuple hL
        exact ⟨_, rfl, h⟩
      · wp_walk using wpAny_loadPart' hl, wpAny_pyIter_tuple hL
        exact ⟨_, rfl, h⟩
    · wp_walk using wpAny_loadPart' hl, wpAny_pyIter_tuple hL
      exact ⟨_, rfl, h⟩

section
variable {prog : Program} {w : World} {A : Around} {E : Value → Shared → Prop} {s : Shared}
theorem call_enumerate_tuple {l : Addr} {items : Array Value} {Q : Value → Shared → Prop} (hL : s.heap.IsTuple l items)
    (h : ∀ h', IsEnum h' (s.heap.objs.size + 1) s.heap.objs.size 0 .none → h'.IsTupleIter s.heap.objs.size l 0 → h'.objs.size = s.heap.objs.size + 2 →
      (∀ b o, s.heap.get? b = some o → h'.get? b = some o) → Q (.ref (s.heap.objs.size + 1)) { s with heap := h' }) :
    wpAny (model prog w) A (call (.type "enumerate") [.ref l]) Q E s := by
  obtain ⟨o, hl, hc, hd⟩ := hL
  refine callType_new F.called_enumerate (by decide) (F.typeCall_enumerate_1 _) (F.newCall_enumerate_1 _) (fun obj => F.args_object_init_2 obj _) F.entry_enumerate_new
    (meets_enumerate_newT l items o hc hd) ⟨hl, ?_⟩
  have hz : (s.heap.push { cls := .type "tuple_iterator", data := .fields #[.ref l, .int 0 0] }).objs.size = s.heap.objs.size + 1 := Heap.size_push ..
  show _ ∧ _
  rw [hz]
  have he : IsEnum ((s.heap.push { cls := .type "tuple_iterator", data := .fields #[.ref l, .int 0 0] }).push
      { cls := .type "enumerate", data := .fields #[.none, .bool false, .ref s.heap.objs.size, rawInt 0, .none, .none] }) (s.heap.objs.size + 1) s.heap.objs.size 0 .none := by
    have := Heap.get?_push_size (s.heap.push { cls := .type "tuple_iterator", data := .fields #[.ref l, .int 0 0] })
      (o := { cls := .type "enumerate", data := .fields #[.none, .bool false, .ref s.heap.objs.size, rawInt 0, .none, .none] }) rfl
    rw [hz] at this; exact this
  refine ⟨⟨_, he, rfl⟩, h _ he ⟨_, Heap.get?_push_of_some _ (Heap.get?_push_size _ rfl), rfl, rfl⟩ (by rw [Heap.size_push, hz]) fun b o x => Heap.get?_push_of_some _ (Heap.get?_push_of_some _ x)⟩
end

/-- the tuple at a, each item in a new pair -/
def Iet (K : PySem.W.Frag) (a : Addr) : It :=
  ⟨fun i H => ∃ (xs : List V) (x : V), SqT K H a xs ∧ xs[i]? = some x, fun i H v H' => ∃ T x, v = .ref T ∧ H T = none ∧ H' = upd H T (.tup [.int (i : Nat), x]) ∧ ∀ xs, SqT K H a xs → xs[i]? = some x, fun i H => ∃ xs : List V, SqT K H a xs ∧ xs.length ≤ i⟩
theorem turn_enumT {P : Program} {w : World} {K : PySem.W.Frag} {elts : List Expr} {kk : Nat} {tpos : Pos} (a e it : Addr) (hae : a ≠ e) (hai : a ≠ it) (len : Nat) :
    Turn P w K (.Tuple elts kk tpos) (Iet K a) [e, it] e (fun i h => (∃ old, IsEnum h e it ((i : Nat) : Int) old) ∧ h.IsTupleIter it a i ∧ e ≠ it) where
  mem := by simp
  obj := fun i h st b hb => by
    obtain ⟨⟨old, he⟩, ⟨o, ho, hc, hd⟩, _⟩ := st
    have e' : b = e ∨ b = it := by simpa using hb
    rcases e' with z | z
    · rw [z]; exact ⟨_, he, fun v q => nomatch q⟩
    · rw [z]; exact ⟨o, ho, fun v q => by rw [hd] at q; cases q⟩
  keep := fun i h h' st k => let ⟨⟨old, he⟩, hi, hne⟩ := st; ⟨⟨old, k e (by simp) _ he⟩, hi.at fun o q => k it (by simp) o q, hne⟩
  item := by
    intro X hP hw hK hc i pins s σ H E I hf st hg
    subst hP hw hK
    obtain ⟨⟨old, he⟩, hit, hne⟩ := st
    obtain ⟨xs, x, hq, hx⟩ := hg
    obtain ⟨its, rv, p, hz⟩ := I.tuple hq
    obtain ⟨u, hu, ru⟩ := rv.get hx
    have hel : e < s.heap.objs.size := Heap.lt_size he
    have hil : it < s.heap.objs.size := by obtain ⟨_, q, _⟩ := hit; exact Heap.lt_size q
    have hit0 : i < its.toArray.size := by
      have := (List.getElem?_eq_some_iff.mp hu).1
      simpa using this
    refine wpAny_pyNext_enum_itemD (Draws.tuple (A := X.A.in1) (by first | exact I.ok.hd hc | (show X.A.handled = none; exact I.ok.hd hc)) it a hai its.toArray) he ⟨hit, p⟩ hit0 hne (by simp [hne, Ne.symm hae]) fun x' h' tk hx' ho hst hT hsz hk => ?_
    have ex : x' = u := by
      have h2 : its.toArray[i]? = some u := by simpa using hu
      rw [h2] at hx'
      exact (Option.some.inj hx').symm
    subst ex
    refine ⟨_, rfl, wpAny_letOwnedTupleGo_enum (s := { s with heap := h', toks := tk + 1 }) ho fun h'' he' sb => ?_⟩
    have hT2 : h''.get? s.heap.objs.size = some { cls := .type "tuple", data := .seq #[.int i tk, x'] } := (sb.2 _ (Nat.ne_of_gt hel)).trans hT
    have new : ObjOk X.prog X.w (upd H s.heap.objs.size (.tup [.int (i : Nat), x])) h'' s.heap.objs.size (.tup [.int (i : Nat), x]) :=
      ⟨by show 2 ≤ sizeLine; decide, [.int i tk, x'], .cons ⟨_, rfl⟩ (.cons ru .nil), ⟨_, hT2, rfl, _, rfl⟩⟩
    have I1 : Inv X pins σ (upd H s.heap.objs.size (.tup [.int (i : Nat), x])) { s with heap := h'', toks := tk + 1 } :=
      I.turnedNew (ch := [e, it]) (fun b ob hb q => (sb.2 b (fun z => hb (by simp [z]))).trans (hk b ob (fun z => hb (by simp [z])) (fun z => hb (by simp [z])) q)) hf (Nat.le_refl _) new
    refine ⟨.ref s.heap.objs.size, _, I1, rfl, ⟨_, x, rfl, I.hok.fresh (Nat.le_refl _), rfl, fun ys hy => by rw [I.tuple_inj hy hq]; exact hx⟩, ⟨⟨x', ?_⟩, hst.1.at fun o q => (sb.2 it (Ne.symm hne)).trans q, hne⟩, fun b hb => ?_⟩
    · have e1 : ((i + 1 : Nat) : Int) = (i : Int) + 1 := by omega
      rw [e1]; exact he'
    · have hb' : b < s.heap.objs.size := by
        have e' : b = e ∨ b = it := by simpa using hb
        rcases e' with z | z
        · rw [z]; exact hel
        · rw [z]; exact hil
      rw [upd_ne (Nat.ne_of_lt hb')]
      exact (hf b hb).1
  done := by
    intro X hP hw hK hc i pins s σ H E I hf st hg
    subst hP hw hK
    obtain ⟨⟨old, he⟩, hit, hne⟩ := st
    obtain ⟨xs, hq, hx⟩ := hg
    obtain ⟨its, rv, p, hz⟩ := I.tuple hq
    obtain ⟨f0, f1, f2, f3, f4, f5⟩ := hf it (by simp)
    have hl := rv.length
    have hT : s.TypeIs (.ref e) "enumerate" := ⟨_, he, rfl⟩
    unfold pyNext
    refine wpAny_bind (wpAny_attempt (wpAny_callSpecial?_slot (name := Str.ofString "__next__") hT F.slot_enumerate_next
      (wpAny_call_entry F.slot_enumerate_next hT F.entry_enumerate_next ?_ (F.args_enumerate_next_1 _))))
    show wpAny _ _ (field (.ref e) 2 >>= _) _ _ _
    refine wpAny_bind (wpAny_field he rfl (x := .ref it) rfl ?_)
    refine wpAny_bind (wpAny_nextOf_tuple_end (by first | exact I.ok.hd hc | (show X.A.handled = none; exact I.ok.hd hc)) hit p (by rw [Array.getElem?_eq_none_iff]; simp; omega) fun h' x he' hx' => ?_)
    obtain ⟨o, ho, hc'⟩ := hx'
    refine wpAny_bind (wpAny_isInstance (T := "StopIteration") (b := true) ⟨o, ho, hc'⟩ isSubtype_stop ?_)
    exact wpAny_pure ⟨rfl, I.turned (t' := s.toks) (fun b o hb q => he' b o hb q) f0 f1 f3 f4 f5⟩
  self := fun A i s Q E st h => let ⟨⟨_, he⟩, _⟩ := st; wpAny_pyIter_enum he h
def iEnumT (K : PySem.W.Frag) (ta : TA) : TI := fun σ H R => ta σ H fun vs H1 => ∃ a xs, vs = [.ref a] ∧ SqT K H1 a xs ∧ R (Iet K a) H1
theorem pi_enumT {X : Cx} {e : Expr} {ta : TA} {p pos tpos : Pos} {elts : List Expr} {kk : Nat} (hg : Gl X "enumerate") (hm : X.mg "enumerate" = none) (ha : PA X [e] ta) (hs : starEach [e] X.env = [(false, eval e X.env)] := by rfl) :
    PI X (.Tuple elts kk tpos) (.Call (.Name "enumerate" p) [e] [] pos) (iEnumT X.K ta) := by
  refine ⟨fun pins s σ H R I h => ?_⟩
  refine Call_ (ld_blt I hg hm boot_enumerate (PyProof.Rows.callWith_type1 (thn (ha.run pos pins s σ H _ I h) fun us s1 ⟨vs, H1, I1, r1, q1⟩ => ?_) hs rfl))
  obtain ⟨a, xs, ex, hq, q⟩ := q1
  subst ex
  cases r1 with
  | cons r rr =>
    cases rr
    cases r
    obtain ⟨its, rv, p', hz⟩ := I1.tuple hq
    have hal : a < s1.heap.objs.size := by obtain ⟨_, z, _⟩ := p'; exact Heap.lt_size z
    refine call_enumerate_tuple p' fun h' he hit hsz hk => wpAny_pyIter_enum he ?_
    have I2 : Inv X pins σ H1 { s1 with heap := h' } := I1.kept (t' := s1.toks) hk
    refine ⟨s1.heap.objs.size + 1, [s1.heap.objs.size + 1, s1.heap.objs.size], _, _, H1, rfl, I2, turn_enumT a (s1.heap.objs.size + 1) s1.heap.objs.size (Nat.ne_of_lt (Nat.lt_succ_of_lt hal)) (Nat.ne_of_lt hal) 0, ⟨⟨.none, he⟩, hit, Nat.succ_ne_self _⟩, fun b hb => ?_, q⟩
    have e' : b = s1.heap.objs.size + 1 ∨ b = s1.heap.objs.size := by simpa using hb
    have hle : s1.heap.objs.size ≤ b := by
      rcases e' with z | z
      · rw [z]; exact Nat.le_add_right _ _
      · rw [z]; exact Nat.le_refl _
    exact I1.fpOk hle (I1.hok.fresh hle)

/-- a loop over enumerate(t), by one word a turn -/
theorem for_enumT {K : PySem.W.Frag} {a : Addr} {xs : List V} {g : TG} {tb : TS} {D : Ends} {σ : L2.St} {H : Hp} (Pv : Nat → L2.St → Hp → Prop) (h0 : Pv 0 σ H) (hl : ∀ i σ H, Pv i σ H → SqT K H a xs)
    (hs : ∀ i x T σ H, xs[i]? = some x → Pv i σ H → H T = none → g (.ref T) σ (upd H T (.tup [.int (i : Nat), x])) fun σ2 H2 => tb { D with nx := Pv (i + 1), ct := Pv (i + 1), bk := D.nx } σ2 H2)
    (hd : ∀ σ H, Pv xs.length σ H → D.nx σ H) :
    ∃ W : Nat → Nat → L2.St → Hp → Prop, (∃ m, W 0 m σ H) ∧ ∀ i m σ H, W i m σ H →
      ((Iet K a).stop i H ∧ D.nx σ H) ∨ ((Iet K a).go i H ∧ ∃ N : L2.St → Hp → Prop, (∀ σ' H', N σ' H' → ∃ m', m' < m ∧ W (i + 1) m' σ' H') ∧ ∀ x H', (Iet K a).yld i H x H' → g x σ H' fun σ2 H2 => tb { D with nx := N, ct := N, bk := D.nx } σ2 H2) := by
  refine ⟨fun i m σ H => m = xs.length - i ∧ i ≤ xs.length ∧ Pv i σ H, ⟨_, rfl, Nat.zero_le _, h0⟩, ?_⟩
  rintro i m σ H ⟨rfl, hi, p⟩
  have q := hl i σ H p
  by_cases hlt : i < xs.length
  · refine .inr ⟨⟨xs, xs[i], q, List.getElem?_eq_getElem hlt⟩, Pv (i + 1), fun σ' H' p' => ⟨xs.length - (i + 1), by omega, rfl, hlt, p'⟩, fun x H' y => ?_⟩
    obtain ⟨T, z, rfl, nT, rfl, hz⟩ := y
    exact hs i z T σ H (hz xs q) p nT
  · have e : i = xs.length := by omega
    refine .inl ⟨⟨xs, q, Nat.le_of_eq e.symm⟩, hd σ H ?_⟩
    rw [← e]
    exact p

/-! ### xs[i] op= e -/
def gtL (K : PySem.W.Frag) : V → V → Hp → VK → Prop := fun x y H Q => ∃ p xs j v, x = .ref p ∧ y = .int ((j : Nat) : Int) ∧ SqL K H p xs ∧ j < 2 ^ 62 ∧ xs[j]? = some v ∧ Q v H
theorem get_list {X : Cx} : PGet X (gtL X.K) := by
  intro pins s σ H o i ov iv Q I ro ri h
  obtain ⟨p, xs, j, v, rfl, rfl, hq, hj, hv, q⟩ := h
  cases ro
  obtain ⟨t, rfl⟩ := ri
  obtain ⟨its, r, pl, hz⟩ := I.list hq
  obtain ⟨u, hu, ru⟩ := r.get hv
  exact wpAny_getItem_list pl.isList (by omega) (by omega) (by simpa using hu) ⟨v, H, I, ru, q⟩
end Ka
/-! t[::-1] of a tuple. -/
namespace Ka
open PySem PySem.Spec PyProof.Rows L2 HT

theorem back_places (n : Nat) : Builtin.Slice.slicePlaces ((n : Int) - 1) (-1) (-1) = n := by
  unfold Builtin.Slice.slicePlaces
  rw [if_neg (by decide)]
  by_cases h : n = 0
  · subst h
    rfl
  · rw [if_pos (by omega)]
    have e : ((n : Int) - 1 - -1 - 1) / (- -1) + 1 = n := by
      rw [show (-(-1 : Int)) = 1 by decide, Int.ediv_one]
      omega
    rw [e]
    exact Int.toNat_natCast n

theorem back_some (xs : Array Value) (f : Nat → Option Value) (hf : ∀ k, k < xs.size → f k = xs.toList.reverse[k]?) : ∀ l : List Nat, (∀ k ∈ l, k < xs.size) → l.filterMap f = l.map fun k => xs.toList.reverse[k]?.getD .none
  | [], _ => rfl
  | k :: l, h => by
    have hk : k < xs.size := h k List.mem_cons_self
    have h2 : k < xs.toList.reverse.length := by simpa using hk
    rw [List.filterMap_cons, hf k hk, List.map_cons, back_some xs f hf l fun j hj => h j (List.mem_cons_of_mem _ hj), List.getElem?_eq_getElem h2]
    rfl
theorem back_items (xs : Array Value) : ((List.range xs.size).filterMap fun (k : Nat) => xs[((xs.size : Int) - 1 + (k : Int) * -1).toNat]?) = xs.toList.reverse := by
  rw [back_some xs _ (fun k hk => ?_) _ fun k hk => List.mem_range.mp hk]
  · apply List.ext_getElem?
    intro i
    rw [List.getElem?_map]
    by_cases hi : i < xs.size
    · have h2 : i < xs.toList.reverse.length := by simpa using hi
      rw [List.getElem?_range hi, Option.map_some, List.getElem?_eq_getElem h2]
      rfl
    · rw [List.getElem?_eq_none (by simpa using hi), List.getElem?_eq_none (by simpa using hi)]
      rfl
  · have e : ((xs.size : Int) - 1 + (k : Int) * -1).toNat = xs.size - 1 - k := by omega
    rw [e, List.getElem?_reverse (by simpa using hk), Array.length_toList, Array.getElem?_toList]

section
variable {prog : Program} {w : World} {A : Around} {E : Value → Shared → Prop} {s : Shared}
theorem applied_back {sl : Addr} {vl vu vs : Value} {n : Nat} {Q : Int × Int × Nat → Shared → Prop} (hs : s.heap.IsSliceOf sl vl vu vs) (pl : IsPart vl none) (pu : IsPart vu none) (ps : IsPart vs (some (-1)))
    (h : Q ((n : Int) - 1, -1, n) s) : wpAny (model prog w) A (Builtin.Slice.sliceApplied (.ref sl) (pure (n : Int))) Q E s := by
  obtain ⟨o, ho, _, hd⟩ := hs
  unfold Builtin.Slice.sliceApplied Builtin.Slice.sliceFields
  refine wpAny_bind (wpAny_bind (wpAny_field ho hd (x := vl) rfl (wpAny_bind (wpAny_field ho hd (x := vu) rfl (wpAny_bind (wpAny_field ho hd (x := vs) rfl (wpAny_pure ?_)))))))
  refine wpAny_bind (slicePart_ ps ?_)
  refine wpAny_ite_split (fun z => absurd z (by decide)) fun _ => ?_
  refine wpAny_bind (slicePart_ pl (wpAny_bind (slicePart_ pu (wpAny_bind (wpAny_pure (wpAny_pure ?_))))))
  have e : Builtin.Slice.slicePlaces ((n : Int) - 1) (-1) (-1) = n := back_places n
  show Q ((n : Int) - 1, -1, Builtin.Slice.slicePlaces ((n : Int) - 1) (-1) (-1)) s
  rw [e]
  exact h

theorem getItem_back {t sl : Addr} {items : Array Value} {vl vu vs : Value} {Q : Value → Shared → Prop} (ht : IsTup s.heap t items) (hs : s.heap.IsSliceOf sl vl vu vs) (pl : IsPart vl none) (pu : IsPart vu none) (ps : IsPart vs (some (-1)))
    (hz : items.size ≤ sizeLine) (h : Q (.ref s.heap.objs.size) { s with heap := s.heap.push { cls := .type "tuple", data := .seq items.toList.reverse.toArray } }) : wpAny (model prog w) A (getItem (.ref t) (.ref sl)) Q E s := by
  have hT : s.TypeIs (.ref sl) "slice" := let ⟨o, ho, hc, _⟩ := hs; ⟨o, ho, hc⟩
  have hok : sizeOk (.seq items.toList.reverse.toArray) := by
    show items.toList.reverse.toArray.size ≤ sizeLine
    simpa using hz
  unfold getItem
  try with_reducible refine wpAny_holding ?_
  first | refine wpAny_bind (wpAny_pure ?_) | skip
  refine wpAny_bind (wpAny_sequenceKey ht.typeIs (by decide) ?_)
  refine wpAny_bind (wpAny_callSpecial?_slot (name := Str.ofString "__getitem__") ht.typeIs PyProof.Rows.slot_tuple_getitem
    (wpAny_call_entry PyProof.Rows.slot_tuple_getitem ht.typeIs entry_tuple_getitem ?_ (args_tuple_getitem _ _)))
  show wpAny _ _ (Builtin.Tuple.tupleItemsOf (.ref t) >>= _) _ _ s
  refine wpAny_bind (tupleItemsOf_ ht (wpAny_bind (wpAny_typeOf hT ?_)))
  rw [if_pos (by decide)]
  refine wpAny_bind (applied_back hs pl pu ps ?_)
  refine wpAny_ite_split (fun z => ?_) fun _ => ?_
  · exfalso
    simp at z
  · rw [back_items]
    first
      | exact wpAny_bind (m := Builtin.Tuple.tupleExact _) (wpAny_newObj_type (wpAny_pure ⟨_, rfl, wpAny_pure h⟩) hok)
      | exact wpAny_bind (m := Builtin.Tuple.tupleExact _) (wpAny_newObj_type (wpAny_bind (wpAny_pure (wpAny_pure ⟨_, rfl, wpAny_pure h⟩))) hok)
      | exact wpAny_bind (wpAny_bind (m := Builtin.Tuple.tupleExact _) (wpAny_newObj_type (wpAny_pure (wpAny_pure ⟨_, rfl, wpAny_pure h⟩)) hok))
      | exact wpAny_bind (wpAny_bind (m := Builtin.Tuple.tupleExact _) (wpAny_newObj_type (wpAny_pure ⟨_, rfl, wpAny_pure h⟩) hok))
end

def tRevT (K : PySem.W.Frag) (te : TE) : TE := fun σ H Q => te σ H fun x H1 => ∃ a xs, x = .ref a ∧ SqT K H1 a xs ∧ ∀ p, H1 p = none → Q (.ref p) (upd H1 p (.tup xs.reverse))
theorem pe_revT {X : Cx} {e : Expr} {te : TE} {k : Nat} {p1 p2 p3 pos : Pos} (he : PE X e te) : PE X (.Subscript e (.Slice none none (some (.UnaryOp .USub (.Constant (.int 1) k p1) p2)) p3) pos) (tRevT X.K te) := by
  refine ⟨fun pins s σ H Q I h => Subscript_ (thn (he.run pins s σ H _ I h) fun v s1 ⟨x, H1, I1, r1, a, xs, ex, hx, q⟩ => ?_)⟩
  subst ex
  cases r1
  have hm : PO X (some (.UnaryOp .USub (.Constant (.int 1) k p1) p2)) (tPart (tUn (rU fun i => .int (-i)) (tC (.int 1)))) := po_some (pe_un un_neg pe_int)
  refine wpAny_Slice (thn (po_none.run pins s1 σ H1 (fun o H2 => o = none ∧ H2 = H1) I1 ⟨rfl, rfl⟩) fun vl s2 ⟨l, H2, I2, pl, el, e2⟩ => ?_)
  subst el e2
  refine thn (po_none.run pins s2 σ H2 (fun o H3 => o = none ∧ H3 = H2) I2 ⟨rfl, rfl⟩) fun vu s3 ⟨u, H3, I3, pu, eu, e3⟩ => ?_
  subst eu e3
  refine thn (hm.run pins s3 σ H3 (fun o H4 => o = some (-1) ∧ H4 = H3) I3 ⟨1, rfl, -1, rfl, rfl, rfl⟩) fun vs s4 ⟨o, H4, I4, ps, eo, e4⟩ => ?_
  subst eo e4
  have I5 : Inv X pins σ H4 { s4 with heap := s4.heap.push { cls := .type "slice", data := .fields #[vl, vu, vs] } } := I4.kept (t' := s4.toks) fun b ob z => Heap.get?_push_of_some _ z
  obtain ⟨its, r, ht, hz⟩ := I5.tuple hx
  have hl := r.length
  show wpAny (model X.prog X.w) X.A (subscriptTail e (.Slice none none (some (.UnaryOp .USub (.Constant (.int 1) k p1) p2)) p3) (.ref a) (.ref s4.heap.objs.size)) (EP X pins σ Q) X.xe { s4 with heap := s4.heap.push { cls := .type "slice", data := .fields #[vl, vu, vs] } }
  refine tail_any (ops := [.ref a, .ref s4.heap.objs.size]) ht.typeIs PyProof.Rows.slot_tuple_getitem.lookup ?_ (by with_unfolding_all rfl)
  refine getItem_back ht (Heap.IsSliceOf.new _ vl vu vs) pl pu ps (by rw [List.size_toArray]; omega) ?_
  refine ⟨.ref _, _, I5.laid (t' := s4.toks) (o := .tup xs.reverse) (fun b ob z => Heap.get?_push_of_some _ z) (Nat.le_refl _) ?_, rfl, q _ (I5.hok.fresh (Nat.le_refl _))⟩
  exact ⟨by rw [List.length_reverse]; exact hz, _, r.reverse, IsTup.new _ _⟩
end Ka
/-! sorted(rows, key=f), f(row) = (len(row), row), rows of texts. -/
namespace Ka
open PySem PySem.Spec PyProof.Rows L2 PySem.W

/-- a row of texts as data, and its key -/
def rowD (r : List Str) : PyData := .tuple (r.map .str)
def keyOf (r : List Str) : PyData := .tuple [.int r.length, rowD r]
/-- the order of rows -/
def rowLe : List Str → List Str → Bool := dataLe false keyOf

theorem reads_strs {h : Heap} : ∀ {zs : List Str} {us : List Value}, Vals (zs.map V.str) us → ReadsAll h us (zs.map .str) []
  | [], [], _ => .nil
  | z :: zs, u :: us, r => by
    cases r with
    | cons a b =>
      obtain ⟨t, rfl⟩ := a
      exact ReadsAll.cons (as := []) (bs := []) (.str z t) (reads_strs b)
  | [], _ :: _, r => nomatch r
  | _ :: _, [], r => nomatch r

theorem alike_strs : ∀ (a b : List Str), alikeAll (a.map PyData.str) (b.map PyData.str) = true
  | [], _ => by simp [alikeAll]
  | _ :: _, [] => by simp [alikeAll]
  | x :: a, y :: b => by
    rw [List.map_cons, List.map_cons, alikeAll, alike_strs a b]
    simp [alike]
theorem alike_keys (a b : List Str) : alike (keyOf a) (keyOf b) = true := by
  unfold keyOf rowD
  simp [alike, alikeAll, alike_strs]
theorem depth_strs : ∀ a : List Str, PyData.depthAll (a.map PyData.str) ≤ 1
  | [] => by simp [PyData.depthAll]
  | x :: a => by
    have := depth_strs a
    rw [List.map_cons]
    simp only [PyData.depthAll, PyData.depth]
    omega
theorem depth_key (a : List Str) : (keyOf a).depth ≤ 3 := by
  have := depth_strs a
  unfold keyOf rowD
  simp only [PyData.depth, PyData.depthAll]
  omega

section
variable {prog : Program} {w : World} {A : Around} {E : Value → Shared → Prop} {s : Shared}
/-- what the tuple (len(x), x) is worth, where x holds a row -/
theorem key_expr {env : Env} {a : Addr} {zs : List Str} {its : List Value} {x : Str} {p1 p2 p3 p4 p5 : Pos} {k : Nat} (hsx : starEach [.Name x p2] env = [(false, eval (.Name x p2) env)])
    (hst : starEach [.Call (.Name "len" p1) [.Name x p2] [] p3, .Name x p4] env = [(false, eval (.Call (.Name "len" p1) [.Name x p2] [] p3) env), (false, eval (.Name x p4) env)])
    (hrow : ∀ (p : Pos) (Q : Value → Shared → Prop) (tk : Nat), Q (.ref a) { s with toks := tk } → wpAny (model prog w) A (eval (.Name x p) env) Q E { s with toks := tk })
    (hlen : ∀ (Q : Value → Shared → Prop), Q (.builtin "len") s → wpAny (model prog w) A (eval (.Name "len" p1) env) Q E s)
    (rv : Vals (zs.map V.str) its) (ht : IsTup s.heap a its.toArray) (hz : zs.length ≤ sizeLine) : wpAny (model prog w) A (eval (.Tuple [.Call (.Name "len" p1) [.Name x p2] [] p3, .Name x p4] k p5) env) (KeyPure (keyOf zs) s) E s := by
  have hl := rv.length
  have hs : sizeLine = 16777216 := sizeLine_eq
  rw [List.length_map] at hl
  refine wpAny_Tuple_spliced ?_
  rw [hst]
  refine Calls.spliced_cons (wpAny_Call_Name_kw (hlen _ (PyProof.Rows.callWith_builtin1 ?_ (by rw [hsx]; rfl) rfl)))
  rw [hsx]
  refine Calls.spliced_cons (hrow p2 _ s.toks (Calls.spliced_nil ?_))
  refine len_tuple ht (by rw [List.size_toArray]; omega) ?_
  refine Calls.spliced_cons (hrow p4 _ _ (Calls.spliced_nil ⟨by show 2 ≤ sizeLine; rw [hs]; decide, ?_⟩))
  refine ⟨_, _, rfl, fun b o e => Heap.get?_push_of_some _ e, ?_⟩
  refine Reads.tuple (Heap.get?_push_size _ rfl) rfl rfl (ReadsAll.cons (as := []) (bs := []) ?_ (ReadsAll.cons (as := []) (bs := []) ?_ .nil))
  · have e : ((its.toArray.size : Nat) : Int) = zs.length := by rw [List.size_toArray, hl]
    rw [e]
    exact .int _ _
  · obtain ⟨o, ho, hc, n, hd⟩ := ht
    exact Reads.keeps (fun b o e => Heap.get?_push_of_some _ e) (Reads.tuple ho hc hd (reads_strs rv))

/-- the frame of such a def: where its names are found -/
theorem key_frame {scope : Scope} {qual x : Str} {f a : Addr} {cd : Value} {clos : List (Str × Addr)} {mg mb : Str → Option Value} {zs : List Str} {its : List Value} {p1 p2 p3 p4 p5 : Pos} {k : Nat} {h₁ : Heap} {tk : Nat}
    (hk : scope.kind = .function) (hx : scope.names.lookup x = some .local) (hl : scope.names.lookup ("len" : Str) = some .globalImplicit) (hdx : (x == ("__debug__" : Str)) = false)
    (hg : s.heap.Ns mainGlobals mg) (hm : mg ("len" : Str) = none) (hb : s.heap.Ns builtinsNs mb) (hv : mb ("len" : Str) = some (.builtin "len"))
    (hns : h₁.Ns s.heap.objs.size fun y => [(x, Value.ref a)].reverse.lookup y) (kp : ∀ b o, s.heap.get? b = some o → h₁.get? b = some o) (rv : Vals (zs.map V.str) its) (ht : IsTup s.heap a its.toArray) (hz : zs.length ≤ sizeLine) :
    wpAny (model prog w) A (eval (.Tuple [.Call (.Name "len" p1) [.Name x p2] [] p3, .Name x p4] k p5) (newEnv scope s.heap.objs.size mainGlobals clos qual (some f) cd none builtinsNs)) (KeyPure (keyOf zs) s) E { s with heap := h₁, toks := tk } := by
  have nsk : ∀ {b : Addr} {m : Str → Option Value}, s.heap.Ns b m → h₁.Ns b m := fun ⟨o, es, ep, e, r⟩ => ⟨o, es, ep, kp _ _ e, r⟩
  have hrow : ∀ (p : Pos) (Q : Value → Shared → Prop) (tk' : Nat), Q (.ref a) { s with heap := h₁, toks := tk' } → wpAny (model prog w) A (eval (.Name x p) (newEnv scope s.heap.objs.size mainGlobals clos qual (some f) cd none builtinsNs)) Q E { s with heap := h₁, toks := tk' } :=
    fun p Q tk' q => wpAny_Name (wpAny_loadName_local (m := fun y => [(x, Value.ref a)].reverse.lookup y) hk hx hns (by simp) q) hdx
  have hlen : ∀ (Q : Value → Shared → Prop), Q (.builtin "len") { s with heap := h₁, toks := tk } → wpAny (model prog w) A (eval (.Name "len" p1) (newEnv scope s.heap.objs.size mainGlobals clos qual (some f) cd none builtinsNs)) Q E { s with heap := h₁, toks := tk } :=
    fun Q q => Calls.Name_function_global hk hl (Calls.loadGlobal_builtin (nsk hg) hm (nsk hb) hv q) (by decide)
  have ht' : IsTup h₁ a its.toArray := let ⟨o, ho, r⟩ := ht; ⟨o, kp _ _ ho, r⟩
  refine wpAny_mono (key_expr (s := { s with heap := h₁, toks := tk }) (by rfl) (by rfl) hrow hlen rv ht' hz) (fun v s' q => ?_) fun _ _ e => e
  obtain ⟨h', tk', rfl, k', r⟩ := q
  exact ⟨h', tk', rfl, fun b o e => k' b o (kp b o e), r⟩

/-- def f(x): return (len(x), x) -/
theorem call_keyDef {name qual : Str} {params : Arguments} {scope : Scope} {dV kV doc pm cdv ct : Value} {an : Option Addr} {x : Str} {f a : Addr} {o : Obj} {mg mb : Str → Option Value} {zs : List Str} {its : List Value} {p1 p2 p3 p4 p5 p6 : Pos} {k : Nat}
    (ho : s.heap.get? f = some o) (hd : o.data = .func (fnOf name qual params [.Return (some (.Tuple [.Call (.Name "len" p1) [.Name x p2] [] p3, .Name x p4] k p5)) p6] scope dV kV doc pm an cdv ct))
    (hroom : A.depth < recursionLimit) (hlim : s.heap.NoLimit) (hcd : s.heap.CodeRec cdv qual) (hbind : bindArgs (fnOf name qual params [.Return (some (.Tuple [.Call (.Name "len" p1) [.Name x p2] [] p3, .Name x p4] k p5)) p6] scope dV kV doc pm an cdv ct) ⟨[.ref a], []⟩ = pure [(x, .ref a)])
    (hk : scope.kind = .function) (hco : scope.isCoroutine = false) (hge : scope.isGenerator = false) (hc : ∀ y ∈ scope.names, y.2 ≠ .cell) (hx : scope.names.lookup x = some .local) (hl : scope.names.lookup ("len" : Str) = some .globalImplicit) (hdx : (x == ("__debug__" : Str)) = false)
    (hg : s.heap.Ns mainGlobals mg) (hm : mg ("len" : Str) = none) (hb : s.heap.Ns builtinsNs mb) (hv : mb ("len" : Str) = some (.builtin "len")) (rv : Vals (zs.map V.str) its) (ht : IsTup s.heap a its.toArray) (hz : zs.length ≤ sizeLine) :
    wpAny (model prog w) A (call (.ref f) [.ref a]) (KeyPure (keyOf zs) s) E s := by
  refine wpAny_call (codeAny_mono (R := fun r s' => ∃ v, r = .ok (.ret v) ∧ KeyPure (keyOf zs) s v s') ?_ fun r s' ⟨v, e, q⟩ => by subst e; exact q)
  refine codeAny_call_function hroom ho hd hco hge rfl hcd ?_
  rw [hbind]
  refine wpAny_pure (wpAny_newFunctionEnv hc (fun y hy => by
    have e : y = (x, Value.ref a) := by simpa using hy
    rw [e]
    exact hx) (fun h₁ hns hsb => ⟨hlim.fresh _ hsb, ?_⟩) hk)
  refine codeAny_func (wpAny_execs_cons (wpAny_Return_some ?_))
  refine wpAny_mono (key_frame (E := fun _ _ => False) hk hx hl hdx hg hm hb hv hns (fun b o' e => hsb.extBut b o' (Nat.ne_of_lt (Heap.lt_size e)) (Heap.get?_push_of_some _ e)) rv ht hz) (fun v s' q => ⟨v, rfl, q⟩) fun _ _ z => z.elim

/-- lambda x: (len(x), x) -/
theorem call_keyLam {name qual : Str} {params : Arguments} {scope : Scope} {pm ct : Value} {c' : Addr} {x : Str} {f a : Addr} {clos : List (Str × Addr)} {mg mb : Str → Option Value} {zs : List Str} {its : List Value} {p1 p2 p3 p4 p5 : Pos} {k : Nat}
    (ho : s.heap.get? f = some (kla_obj name qual params (.Tuple [.Call (.Name "len" p1) [.Name x p2] [] p3, .Name x p4] k p5) scope clos pm c' ct))
    (hroom : A.depth < recursionLimit) (hlim : s.heap.NoLimit) (hcd : s.heap.CodeRec (.ref c') qual) (hbind : bindArgs (kla_fn name qual params (.Tuple [.Call (.Name "len" p1) [.Name x p2] [] p3, .Name x p4] k p5) scope clos pm (.ref c') ct) ⟨[.ref a], []⟩ = pure [(x, .ref a)])
    (hk : scope.kind = .function) (hco : scope.isCoroutine = false) (hge : scope.isGenerator = false) (hc : ∀ y ∈ scope.names, y.2 ≠ .cell) (hx : scope.names.lookup x = some .local) (hl : scope.names.lookup ("len" : Str) = some .globalImplicit) (hdx : (x == ("__debug__" : Str)) = false)
    (hg : s.heap.Ns mainGlobals mg) (hm : mg ("len" : Str) = none) (hb : s.heap.Ns builtinsNs mb) (hv : mb ("len" : Str) = some (.builtin "len")) (rv : Vals (zs.map V.str) its) (ht : IsTup s.heap a its.toArray) (hz : zs.length ≤ sizeLine) :
    wpAny (model prog w) A (call (.ref f) [.ref a]) (KeyPure (keyOf zs) s) E s := by
  refine wpAny_call (codeAny_mono (R := fun r s' => ∃ v, r = .ok (.ret v) ∧ KeyPure (keyOf zs) s v s') ?_ fun r s' ⟨v, e, q⟩ => by subst e; exact q)
  refine kla_callFunE hroom ho rfl hco hge rfl hcd ?_
  rw [hbind]
  refine wpAny_pure (wpAny_newFunctionEnv hc (fun y hy => by
    have e : y = (x, Value.ref a) := by simpa using hy
    rw [e]
    exact hx) (fun h₁ hns hsb => ⟨hlim.fresh _ hsb, ?_⟩) hk)
  refine kla_codeExpr ?_
  refine wpAny_mono (key_frame (E := fun _ _ => False) hk hx hl hdx hg hm hb hv hns (fun b o' e => hsb.extBut b o' (Nat.ne_of_lt (Heap.lt_size e)) (Heap.get?_push_of_some _ e)) rv ht hz) (fun v s' q => ⟨v, rfl, q⟩) fun _ _ z => z.elim
end

/-! ### over the layer -/
/-- a row of texts at an address -/
abbrev Row := Addr × List Str
def leRow (r q : Row) : Bool := rowLe r.2 q.2
/-- a call of the key: it keeps the heap, and gives the row's key -/
def KeyAt (X : Cx) (s : Shared) (f : Addr) : Prop := ∀ (h : Heap) (tk : Nat), (∀ b o, s.heap.get? b = some o → h.get? b = some o) → ∀ (a : Addr) (zs : List Str) (its : List Value), Vals (zs.map V.str) its → IsTup h a its.toArray → zs.length ≤ sizeLine →
  wpAny (model X.prog X.w) X.A.in1.in1 (call (.ref f) [.ref a]) (KeyPure (keyOf zs) { s with heap := h, toks := tk }) (fun _ _ => False) { s with heap := h, toks := tk }

theorem rows_each {rs : List Row} {us : List Value} (r : Vals (rs.map fun r => V.ref r.1) us) : EachIs (fun v (b : Row) => v = Value.ref b.1) us rs := by
  induction rs generalizing us with
  | nil =>
    cases r
    exact .nil
  | cons x rs ih =>
    cases r with
    | cons a b =>
      cases a
      exact .cons rfl (ih b)
theorem each_rows {rs : List Row} {us : List Value} (e : EachIs (fun v (b : Row) => v = Value.ref b.1) us rs) : Vals (rs.map fun r => V.ref r.1) us := by
  induction e with
  | nil => exact .nil
  | cons h t ih =>
    subst h
    exact .cons rfl ih
theorem all_alike (rs : List Row) : AllAlike (rs.map fun r => keyOf r.2) := by
  intro d hd d' hd'
  obtain ⟨r, _, rfl⟩ := List.mem_map.mp hd
  obtain ⟨q, _, rfl⟩ := List.mem_map.mp hd'
  exact alike_keys _ _
theorem all_sortable (rs : List Row) : Sortable (rs.map fun r => keyOf r.2) := Sortable.tuples fun r => ⟨_, _, rfl⟩

section
variable {X : Cx} {pins : List (Addr × Obj)} {σ : L2.St} {H : Hp} {s : Shared}
theorem sorted_list {a f : Addr} {rs : List Row} {Q : VK} (I : Inv X pins σ H s) (hu : X.A.units + 64 < cLine) (hs : SqL X.K H a (rs.map fun r => V.ref r.1)) (hr : ∀ r ∈ rs, SqT X.K H r.1 (r.2.map V.str)) (hf : KeyAt X s f)
    (q : ∀ p, H p = none → Q (.ref p) (upd H p (.lst ((rs.mergeSort leRow).map fun r => V.ref r.1)))) : wpAny (model X.prog X.w) X.A (call (.builtin "sorted") [.ref a] [(Str.ofString "key", .ref f)]) (EP X pins σ Q) X.xe s := by
  obtain ⟨its, rv, hl, hz⟩ := I.list hs
  rw [List.length_map] at hz
  have e := rows_each rv
  refine sorted_key_data (b := false) (fun r : Row => keyOf r.2) hl.isList e (all_alike rs) (all_sortable rs) hz (fun r _ => ?_) (ksk_s1 _ _) (fun _ => ksk_l1 _ _) (fun _ => ksk_t1 _ _) (fun v r ev hm h tk kp => ?_) fun out c h' tk kp hn hD hlen eo => ?_
  · have := depth_key r.2
    omega
  · subst ev
    obtain ⟨its', rv', ht, hz'⟩ := I.tuple (hr r hm)
    rw [List.length_map] at hz'
    obtain ⟨o, ho, hr'⟩ := ht
    exact hf h tk kp r.1 r.2 its' rv' ⟨o, kp _ _ ho, hr'⟩ hz'
  · have hle : ((rs.mergeSort leRow).map fun r => V.ref r.1).length ≤ sizeLine := by
      rw [List.length_map, List.length_mergeSort]
      exact hz
    refine ⟨.ref _, _, I.laid (t' := tk) (o := .lst ((rs.mergeSort leRow).map fun r => V.ref r.1)) kp (Nat.le_succ _) ⟨hle, out, c, each_rows eo, hD⟩, rfl, q _ (I.hok.fresh (Nat.le_succ _))⟩

/-- the keys of a dict of rows -/
theorem dict_rows {kvs : List (List Key × V)} {xs : List (List Key × Addr × Value)} (r : KT H kvs xs) {rows : List (List Str)} (hk : kvs.map (·.1) = rows.map fun r => r.map Sum.inr) :
    ∃ rs : List Row, rs.map (·.2) = rows ∧ rs.map (·.1) = xs.map (fun x => x.2.1) ∧ ∀ r ∈ rs, H r.1 = some (.tup (r.2.map V.str)) := by
  induction r generalizing rows with
  | nil =>
    cases rows with
    | nil => exact ⟨[], rfl, rfl, fun r h => by cases h⟩
    | cons x y => simp at hk
  | @cons p q ps qs hq t ih =>
    cases rows with
    | nil => simp at hk
    | cons x rows =>
      rw [List.map_cons, List.map_cons, List.cons.injEq] at hk
      obtain ⟨rs, h1, h2, h3⟩ := ih hk.2
      refine ⟨(q.2.1, x) :: rs, by rw [List.map_cons, h1], by rw [List.map_cons, List.map_cons, h2], fun r hr => ?_⟩
      rcases List.mem_cons.mp hr with e | hr
      · subst e
        have e2 := hq.2.1
        rw [hk.1, List.map_map] at e2
        exact e2
      · exact h3 r hr

theorem sorted_dict {a f : Addr} {kvs : List (List Key × V)} {rows : List (List Str)} {Q : VK} (I : Inv X pins σ H s) (hc : X.calm = true) (hu : X.A.units + 64 < cLine) (hd : H a = some (.dT kvs)) (hk : kvs.map (·.1) = rows.map fun r => r.map Sum.inr) (hf : KeyAt X s f)
    (q : ∀ (rs : List Row) (p : Addr), rs.map (·.2) = rows.mergeSort rowLe → (∀ r ∈ rs, H r.1 = some (.tup (r.2.map V.str))) → H p = none → Q (.ref p) (upd H p (.lst (rs.map fun r => V.ref r.1)))) :
    wpAny (model X.prog X.w) X.A (call (.builtin "sorted") [.ref a] [(Str.ofString "key", .ref f)]) (EP X pins σ Q) X.xe s := by
  obtain ⟨z, lo, xs, rel, o, es, ep, ho, hx, hdat, hes, hno⟩ := I.hok a _ hd
  obtain ⟨rs, h1, h2, h3⟩ := dict_rows rel hk
  have hlen : rs.length = es.size := by
    have e1 := congrArg List.length h2
    have e2 := congrArg List.length hes
    rw [List.length_map, List.length_map] at e1
    rw [Array.length_toList, List.length_map] at e2
    omega
  have hz : rs.length ≤ sizeLine := by
    have e1 := congrArg List.length h2
    have e2 := Paired.length rel
    rw [List.length_map, List.length_map] at e1
    omega
  have raw : s.heap.DictRaw a es ep := ⟨o, ho, hx, hdat⟩
  refine call_function_entry_kw PyProof.Rows.kind_sorted PyProof.Rows.plain_sorted PyProof.Rows.entry_sorted (ksk_s1 _ _) ?_
  unfold Builtin.«sorted»
  refine wpAny_bind (m := checkCount "sorted" 1 1 _) (wpAny_pure ?_)
  refine wpAny_bind (kdu_collect (A := X.A.in1) (KdlSrc.rawDict (es := es) (ep := ep) lo) (I.ok.hd hc) raw (by omega) fun h' tk acc hkp hacc => ?_)
  have hal : acc.toList.length = rs.length := by rw [Array.length_toList, hacc.1, hlen]
  have each : EachIs (fun v (b : Row) => v = Value.ref b.1) acc.toList rs := by
    refine EachIs.of_zip hal fun p hp => ?_
    obtain ⟨i, hi⟩ := List.getElem?_of_mem hp
    rw [List.getElem?_zip_eq_some] at hi
    obtain ⟨hia, hib⟩ := hi
    obtain ⟨hsz, ev⟩ := hacc.2 i p.1 (by rw [← Array.getElem?_toList]; exact hia)
    have e1 : (rs.map (·.1))[i]? = some p.2.1 := by rw [List.getElem?_map, hib]; rfl
    have e2 : es.toList[i]? = some es[i] := by rw [Array.getElem?_toList, Array.getElem?_eq_getElem hsz]
    rw [h2, List.getElem?_map] at e1
    rw [hes, List.getElem?_map] at e2
    cases ex : xs[i]? with
    | none =>
      rw [ex] at e1
      cases e1
    | some x =>
      rw [ex] at e1 e2
      have e1' : x.2.1 = p.2.1 := Option.some.inj e1
      have e2' := Option.some.inj e2
      rw [ev, ← e2', ← e1']
      rfl
  have I1 : Inv X pins σ H { s with heap := h', toks := tk } := I.kept hkp
  refine wpAny_bind (wpAny_newList ?_ (by omega))
  have hoL : (h'.push (seqObj "list" acc.toList.toArray 0)).get? h'.objs.size = some (seqObj "list" acc.toList.toArray 0) := Heap.get?_push_size _ rfl
  have ne : ∀ {b : Addr} {o : Obj}, s.heap.get? b = some o → b ≠ h'.objs.size := fun e => Nat.ne_of_lt (Heap.lt_size (hkp _ _ e))
  refine wpAny_bind (wpAny_holding ?_)
  show wpAny (model X.prog X.w) X.A.in1 (call (.builtin "list.sort") [.ref h'.objs.size] [(Str.ofString "key", .ref f)]) _ _ { s with heap := h'.push (seqObj "list" acc.toList.toArray 0), toks := tk }
  refine list_sort_key_data (b := false) (s := { s with heap := h'.push (seqObj "list" acc.toList.toArray 0), toks := tk }) (fun r : Row => keyOf r.2) hoL each (all_alike rs) (all_sortable rs) hz (fun r _ => ?_) (ksk_l1 _ _) (ksk_t1 _ _) (fun v r ev hm h tk kp => ?_) fun out c h'' tk' kp hD hle eo => ?_
  · have hdep := depth_key r.2
    show X.A.units + 1 + 1 + (keyOf r.2).depth < cLine
    omega
  · subst ev
    obtain ⟨its', rv', ht, hz'⟩ := I.tuple (.inl (.inl (h3 r hm)))
    rw [List.length_map] at hz'
    obtain ⟨o, ho, hr'⟩ := ht
    have up : ∀ b o, s.heap.get? b = some o → h.get? b = some o := fun b o e => kp b o (ne e) (Heap.get?_push_of_some _ (hkp _ _ e))
    exact hf h tk up r.1 r.2 its' rv' ⟨o, up _ _ ho, hr'⟩ hz'
  · have hle2 : ((rs.mergeSort leRow).map fun r => V.ref r.1).length ≤ sizeLine := by
      rw [List.length_map, List.length_mergeSort]
      exact hz
    have up : ∀ b o, h'.get? b = some o → h''.get? b = some o := fun b o e => kp b o (Nat.ne_of_lt (Heap.lt_size e)) (Heap.get?_push_of_some _ e)
    refine wpAny_pure ⟨_, rfl, .ref h'.objs.size, _, I1.laid (t' := tk') (o := .lst ((rs.mergeSort leRow).map fun r => V.ref r.1)) up (Nat.le_refl _) ⟨hle2, out, c, each_rows eo, hD⟩, rfl, q _ _ ?_ (fun r hr => h3 r (List.mem_mergeSort.mp hr)) (I1.hok.fresh (Nat.le_refl _))⟩
    rw [← h1]
    exact sort_maps (fun r : Row => r.2) fun _ _ _ _ => rfl
end
end Ka
/-! sorted(e, key=f) of rows: f a def of the text, or a lambda. -/
namespace Ka
open PySem PySem.Spec PyProof.Rows L2 PySem.W

section
variable {X : Cx} {pins : List (Addr × Obj)} {σ : L2.St} {H : Hp} {s : Shared}
theorem deep2 {k : Nat} (hr : Room k X.A) : X.A.in1.in1.depth < recursionLimit := hr.depth
theorem ns_up {h h' : Heap} (kp : ∀ b o, h.get? b = some o → h'.get? b = some o) {b : Addr} {m : Str → Option Value} (n : h.Ns b m) : h'.Ns b m :=
  let ⟨o, es, ep, e, r⟩ := n; ⟨o, es, ep, kp _ _ e, r⟩
theorem code_up {h h' : Heap} (kp : ∀ b o, h.get? b = some o → h'.get? b = some o) {c : Value} {q : Str} (n : h.CodeRec c q) : h'.CodeRec c q :=
  let ⟨c, oc, vs, t, e1, e2, r⟩ := n; ⟨c, oc, vs, t, e1, kp _ _ e2, r⟩

/-- a def of the text that gives the key -/
theorem keyAt_def {name qual : Str} {params : Arguments} {scope : Scope} {dV kV doc pm cdv ct oc : Value} {an od : Option Addr} {osl : Array (Option Value)} {x : Str} {f : Addr} {p1 p2 p3 p4 p5 p6 : Pos} {k j : Nat} (I : Inv X pins σ H s) (hr : Room j X.A)
    (lk : X.K.lookup f = some ⟨oc, od, .func (fnOf name qual params [.Return (some (.Tuple [.Call (.Name "len" p1) [.Name x p2] [] p3, .Name x p4] k p5)) p6] scope dV kV doc pm an cdv ct), osl⟩) (hcd : codeIn X.K cdv qual = true) (hm : X.mg "len" = none)
    (hbind : ∀ v : Value, bindArgs (fnOf name qual params [.Return (some (.Tuple [.Call (.Name "len" p1) [.Name x p2] [] p3, .Name x p4] k p5)) p6] scope dV kV doc pm an cdv ct) ⟨[v], []⟩ = pure [(x, v)])
    (hk : scope.kind = .function) (hco : scope.isCoroutine = false) (hge : scope.isGenerator = false) (hc : ∀ y ∈ scope.names, y.2 ≠ .cell) (hx : scope.names.lookup x = some .local) (hl : scope.names.lookup ("len" : Str) = some .globalImplicit) (hdx : (x == ("__debug__" : Str)) = false) : KeyAt X s f := by
  intro h tk kp a zs its rv ht hz
  obtain ⟨mb, b1, b2⟩ := I.mod.blt
  exact call_keyDef (s := { s with heap := h, toks := tk }) (kp _ _ (I.kIn _ _ lk)) rfl (deep2 hr) (I.nolimit.keeps kp) (code_up kp (codeRec_of I.kIn hcd)) (hbind _) hk hco hge hc hx hl hdx (ns_up kp (I.mod.glob.keeps I.bk)) hm (ns_up kp (b1.keeps I.bk)) ((b2 "len" (by decide)).trans PySem.boot_len) rv ht hz

/-- a lambda that gives the key -/
theorem keyAt_lam {params : Arguments} {scope : Scope} {pm ct : Value} {c' : Addr} {q : Str} {x : Str} {f : Addr} {clos : List (Str × Addr)} {p1 p2 p3 p4 p5 : Pos} {k j : Nat} (I : Inv X pins σ H s) (hr : Room j X.A)
    (hf : s.heap.get? f = some (kla_obj "<lambda>" q params (.Tuple [.Call (.Name "len" p1) [.Name x p2] [] p3, .Name x p4] k p5) scope clos pm c' ct)) (hcd : H c' = some (LamX.CodeO c' q)) (hm : X.mg "len" = none)
    (hbind : ∀ v : Value, bindArgs (kla_fn "<lambda>" q params (.Tuple [.Call (.Name "len" p1) [.Name x p2] [] p3, .Name x p4] k p5) scope clos pm (.ref c') ct) ⟨[v], []⟩ = pure [(x, v)])
    (hk : scope.kind = .function) (hco : scope.isCoroutine = false) (hge : scope.isGenerator = false) (hc : ∀ y ∈ scope.names, y.2 ≠ .cell) (hx : scope.names.lookup x = some .local) (hl : scope.names.lookup ("len" : Str) = some .globalImplicit) (hdx : (x == ("__debug__" : Str)) = false) : KeyAt X s f := by
  intro h tk kp a zs its rv ht hz
  obtain ⟨mb, b1, b2⟩ := I.mod.blt
  obtain ⟨⟨oc, vs, t, hoc, hdc, hvc⟩, _, _⟩ := I.hok c' _ hcd
  exact call_keyLam (s := { s with heap := h, toks := tk }) (kp _ _ hf) (deep2 hr) (I.nolimit.keeps kp) ⟨c', oc, vs, t, rfl, kp _ _ hoc, hdc, hvc⟩ (hbind _) hk hco hge hc hx hl hdx (ns_up kp (I.mod.glob.keeps I.bk)) hm (ns_up kp (b1.keeps I.bk)) ((b2 "len" (by decide)).trans PySem.boot_len) rv ht hz
end

section
variable {X : Cx}
/-- sorted(e, key=f), e a list of rows or a dict of rows -/
def rSortK (K : PySem.W.Frag) (f : Addr) : List V → List V → Hp → VK → Prop := fun vs zs H Q => zs = [.ref f] ∧
  ((∃ (a : Addr) (rs : List Row), vs = [.ref a] ∧ SqL K H a (rs.map fun r => V.ref r.1) ∧ (∀ r ∈ rs, SqT K H r.1 (r.2.map V.str)) ∧ ∀ p, H p = none → Q (.ref p) (upd H p (.lst ((rs.mergeSort leRow).map fun r => V.ref r.1)))) ∨
   (∃ (a : Addr) (kvs : List (List L2.Key × V)) (rows : List (List Str)), vs = [.ref a] ∧ H a = some (.dT kvs) ∧ kvs.map (·.1) = rows.map (fun r => r.map Sum.inr) ∧
     ∀ (rs : List Row) (p : Addr), rs.map (·.2) = rows.mergeSort rowLe → (∀ r ∈ rs, H r.1 = some (.tup (r.2.map V.str))) → H p = none → Q (.ref p) (upd H p (.lst (rs.map fun r => V.ref r.1)))))
theorem cr_sortRows {f : Addr} (hc : X.calm = true) (hu : X.A.units + 64 < cLine) (hf : ∀ (pins : List (Addr × Obj)) (s : Shared) (σ : L2.St) (H : Hp), Inv X pins σ H s → KeyAt X s f) : CallRK X (.builtin "sorted") [Str.ofString "key"] (rSortK X.K f) := by
  intro pins s σ H vs zs us ws Q I r rz h
  obtain ⟨rfl, h⟩ := h
  obtain ⟨w1, rfl, e1⟩ := vals1 rz
  obtain rfl : w1 = Value.ref f := e1
  rcases h with ⟨a, rs, rfl, hs, hr, q⟩ | ⟨a, kvs, rows, rfl, hd, hk, q⟩
  · obtain rfl := Vals.ref1 r
    exact sorted_list I hu hs hr (hf _ _ _ _ I) q
  · obtain rfl := Vals.ref1 r
    exact sorted_dict I hc hu hd hk (hf _ _ _ _ I) q

/-- sorted(e, key=lambda x: (len(x), x)) -/
def tSortLam (K : PySem.W.Frag) (T : List (Addr × Str)) (te : TE) : TE := fun σ H Q => te σ H fun v H1 => ∃ (a : Addr) (rs : List Row), v = .ref a ∧ SqL K H1 a (rs.map fun r => V.ref r.1) ∧ (∀ r ∈ rs, SqT K H1 r.1 (r.2.map V.str)) ∧ LamX.Tabs T H1 ∧
  ∀ H2 p, LamX.ExtN H1 H2 → LamX.Tabs T H2 → H2 p = none → Q (.ref p) (upd H2 p (.lst ((rs.mergeSort leRow).map fun r => V.ref r.1)))
theorem rd_ext {H H' : Hp} {a : Addr} {u : HO} (h : Rd H a u) (e : LamX.ExtN H H') (hn : ∀ ps, u ≠ .tbl ps) : Rd H' a u := by
  rcases h with h | ⟨o, h⟩
  · exact .inl (e _ _ h hn)
  · exact .inr ⟨o, e _ _ h fun ps z => by cases z⟩
theorem sqL_ext {K : PySem.W.Frag} {H H' : Hp} {a : Addr} {xs : List V} (h : SqL K H a xs) (e : LamX.ExtN H H') : SqL K H' a xs := by
  rcases h with h | h
  · exact .inl (rd_ext h e fun ps z => by cases z)
  · exact .inr h
theorem sqT_ext {K : PySem.W.Frag} {H H' : Hp} {a : Addr} {xs : List V} (h : SqT K H a xs) (e : LamX.ExtN H H') : SqT K H' a xs := by
  rcases h with h | h
  · exact .inl (rd_ext h e fun ps z => by cases z)
  · exact .inr h
theorem pe_sortedLam {T : List (Addr × Str)} {c P : Addr} {params : Arguments} {scope : Scope} {x : Str} {e : Expr} {te : TE} {p lpos kpos pos p1 p2 p3 p4 p5 : Pos} {k j : Nat} (hr : Room j X.A) (hu : X.A.units + 64 < cLine) (hg : Gl X "sorted") (hm : X.mg "sorted" = none) (hml : X.mg "len" = none) (he : PE X e te)
    (TB : LamX.TabB X.base X.mg c P) (hcode : X.env.code = .ref c) (hmT : (P, X.env.qual ++ "<lambda>") ∈ T) (hu2 : ∀ p ∈ T, p.1 = P → p.2 = X.env.qual ++ "<lambda>") (hdef : defaultsOf params X.env = ([], [])) (hfree : ∀ y ∈ scope.names, y.2 ≠ .free)
    (hbind : ∀ (q : Str) (clos : List (Str × Addr)) (pm cd ct v : Value), bindArgs (kla_fn "<lambda>" q params (.Tuple [.Call (.Name "len" p1) [.Name x p2] [] p3, .Name x p4] k p5) scope clos pm cd ct) ⟨[v], []⟩ = pure [(x, v)])
    (hk : scope.kind = .function) (hco : scope.isCoroutine = false) (hge : scope.isGenerator = false) (hc : ∀ y ∈ scope.names, y.2 ≠ .cell) (hx : scope.names.lookup x = some .local) (hl : scope.names.lookup ("len" : Str) = some .globalImplicit) (hdx : (x == ("__debug__" : Str)) = false)
    (h1 : backTo pos (starEach [e] X.env) = (false, eval e X.env) :: backTo pos (starEach [] X.env) := by rfl) :
    PE X (.Call (.Name "sorted" p) [e] [⟨some "key", .Lambda params (.Tuple [.Call (.Name "len" p1) [.Name x p2] [] p3, .Name x p4] k p5) scope lpos, kpos⟩] pos) (tSortLam X.K T te) := by
  refine ⟨fun pins s σ H Q I h => ?_⟩
  refine wpAny_Call_Name_kw (ld_blt (u := .builtin "sorted") I hg hm (by decide +kernel) ?_ (by decide) (by decide))
  refine PyProof.Rows.callWith_kw ?_ h1 (by rw [h1]; rfl) (by rfl) (by rfl)
  rw [h1]
  refine Calls.spliced_cons (thn (he.run pins s σ H _ I h) fun u s1 ⟨v, H1, I1, r1, a, rs, ev, hs, hr', hT, q⟩ => Calls.spliced_nil ?_)
  subst ev
  obtain rfl : u = Value.ref a := r1
  show wpAny _ _ (evalAll [do let v ← eval (.Lambda params (.Tuple [.Call (.Name "len" p1) [.Name x p2] [] p3, .Name x p4] k p5) scope lpos) X.env; standAt pos; pure v]) _ _ s1
  refine wpAny_evalAll_cons (wpAny_bind (LamX.lam_make2 I1 TB hcode hmT hu2 hT hdef (fun y hy e => absurd e (hfree y hy)) fun f c' pm' ctv H2 s2 I2 eN T2 hf hfn hfr hco' => wpAny_bind (wpAny_standAt (wpAny_pure (wpAny_evalAll_nil ?_)))))
  refine sorted_list I2 hu (sqL_ext hs eN) (fun r hr0 => sqT_ext (hr' r hr0) eN) (keyAt_lam I2 hr hf hco' hml (fun v => hbind _ _ _ _ _ v) hk hco hge hc hx hl hdx) fun p' np => q H2 p' eN T2 np
end
end Ka
/-! {k: v for target in iter if ..} whose keys are tuples of texts and ints. -/
namespace Ka
open PySem PySem.Spec PyProof.Rows L2

theorem dT_set {X : Cx} {pins : List (Addr × Obj)} {σ : L2.St} {H : Hp} {s : Shared} {E : Value → Shared → Prop} {D b : Addr} {kvs : List (List L2.Key × V)} {k : List L2.Key} {v : V} {u r : Value} {Q : Unit → Shared → Prop} (hu : X.A.units + 1 < cLine) (I : Inv X pins σ H s) (hD : H D = some (.dT kvs)) (hz : kvs.length < sizeLine)
    (hb : H b = some (.tup (k.map kV))) (ry : RelV (.ref b) u) (rv : RelV v r) (h : ∀ s', Inv X pins σ (upd H D (.dT (putK kvs k v))) s' → Q () s') : wpAny (model X.prog X.w) X.A (dictSet D u r) Q E s := by
  cases (show u = Value.ref b from ry)
  obtain ⟨z, hd, xs, rel, dd⟩ := dt_of I.hok hD
  have hzx : xs.length ≤ sizeLine := by rw [← Paired.length rel]; exact z
  have hl : (putK kvs k v).length ≤ sizeLine := by have := length_putK kvs k v; omega
  refine wpAny_dictSet_heap (hsz := hzx) (knd := tupleKind (mixKind X.prog X.w)) ?_ (key_of I.hok hb) dd fun h' dd' hs => h _ ?_
  · show X.A.units < cLine
    omega
  · obtain ⟨q, es, ep, hq, h2, h3, h4, _, h5⟩ := dd'
    refine d_write I (by rw [hD]; exact True.intro) hs ⟨q, hq⟩ ⟨hl, hd, _, (rel.put k hb rv).keeps fun c ys ec => ?_, q, es, ep, hq, h2, h3, h4, h5⟩
    rw [upd_ne (ne_of ec hD fun z => nomatch z)]
    exact ec

section
variable {X : Cx}
/-- {k: v for target in iter}, keys tuples: D the new dict -/
def tDcT (wi : TI) (g : TG) (tk tv : TE) (vs : List Nat) : TE := fun σ H Q => wi σ H fun J H1 => ∀ D, H1 D = none → ∃ W : Nat → Nat → Hp → Prop, (∃ m, W 0 m (upd H1 D (.dT []))) ∧ ∀ i m H, W i m H →
  (J.stop i H ∧ Q (.ref D) H) ∨ (J.go i H ∧ ∃ Nx : Hp → Prop, (∀ H', Nx H' → ∃ m', m' < m ∧ W (i + 1) m' H') ∧ ∀ x H', J.yld i H x H' → g x (wipe σ vs) H' fun σ2 H2 => wipe σ2 vs = wipe σ vs ∧
    tk σ2 H2 fun y H4 => tv σ2 H4 fun z H5 => ∃ kvs k b, y = .ref b ∧ H5 b = some (.tup (k.map kV)) ∧ H5 D = some (.dT kvs) ∧ kvs.length < sizeLine ∧ Nx (upd H5 D (.dT (putK kvs k z))))

/-- one turn of the block, from the item drawn on -/
theorem dct_turn {Z : Cx} {kx vx tg : Expr} {g : TG} {tk tv : TE} {D : Addr} {τ : L2.St} {vs : List Nat} {H : Hp} {s : Shared} {x : V} {u : Value} {Nx : Hp → Prop} {R : Shared → Prop} {pins : List (Addr × Obj)} {E' : Value → Shared → Prop} (hE : Z.xe = fun _ _ => False) (hu : Z.A.units + 1 < cLine)
    (pg : PG Z tg g) (pk : PE Z kx tk) (pe : PE Z vx tv) (I : Inv Z pins τ H s) (rx : RelV x u)
    (h : g x τ H fun σ2 H2 => wipe σ2 vs = τ ∧ tk σ2 H2 fun y H4 => tv σ2 H4 fun z H5 => ∃ kvs k b, y = .ref b ∧ H5 b = some (.tup (k.map kV)) ∧ H5 D = some (.dT kvs) ∧ kvs.length < sizeLine ∧ Nx (upd H5 D (.dT (putK kvs k z))))
    (fin : ∀ σ2 H' s', wipe σ2 vs = τ → Inv Z pins σ2 H' s' → Nx H' → R s') :
    wpAny (model Z.prog Z.w) Z.A (assign tg Z.env u) (fun _ s₂ => wpAny (model Z.prog Z.w) Z.A (forIn ([] : List Expr) true fun c r => if r = true then do let ok ← isTrue c Z.env (eval c Z.env); pure (ForInStep.yield ok) else pure (ForInStep.yield r)) (fun ok s₃ =>
      if ok = true then wpAny (model Z.prog Z.w) Z.A (eval kx Z.env) (fun kv s₄ => wpAny (model Z.prog Z.w) Z.A (eval vx Z.env) (fun vv s₅ => wpAny (model Z.prog Z.w) Z.A (dictSet D kv vv) (fun _ s₆ => R s₆) E' s₅) E' s₄) E' s₃ else R s₃) E' s₂) E' s := by
  have a1 := pg.run pins s τ H x u _ I rx h
  rw [hE] at a1
  refine thnF a1 fun _ s8 ⟨σ8, H8, I8, hw, q8⟩ => wpAny_tests_nil ?_
  rw [if_pos rfl]
  have a2 := pk.run pins s8 σ8 H8 _ I8 q8
  rw [hE] at a2
  refine thnF a2 fun kv s10 ⟨y, H10, I10, r10, q10⟩ => ?_
  have a3 := pe.run pins s10 σ8 H10 _ I10 q10
  rw [hE] at a3
  refine thnF a3 fun vv s11 ⟨z, H11, I11, r11, kvs, k, b, ey, hb, hD, hz, nx⟩ => ?_
  subst ey
  exact dT_set hu I11 hD hz hb r10 r11 fun s12 I12 => fin σ8 _ s12 hw I12 nx

/-- what stands between two turns of the block -/
def BetweenT (Z : Cx) (fp : List Addr) (tn : Nat → Heap → Prop) (τ : L2.St) (W : Nat → Nat → Hp → Prop) (n : Nat) (s : Shared) : Prop := ∃ i H, Inv Z [] τ H s ∧ tn i s.heap ∧ (∀ b ∈ fp, H b = none) ∧ W i n H

theorem pe_dcT {kx vx tg iter : Expr} {scope : Scope} {own : List (Str × Nat)} {pos : Pos} {wi : TI} {g : TG} {tk tv : TE} (hc : X.calm = true) (hu : X.A.units + 1 < cLine) (hN : X.N.Nodup) (hi : PI X tg iter wi) (ok : BlkOk X.N X.env.scope scope own)
    (hg : ∀ (s : Shared) (H : Hp) (C : Addr) (cl : List (Str × Addr)) (fp : List Addr), PG (X.blk s H scope (compEnvC scope cl C X.env) fp) tg g)
    (hk : ∀ (s : Shared) (H : Hp) (C : Addr) (cl : List (Str × Addr)) (fp : List Addr), PE (X.blk s H scope (compEnvC scope cl C X.env) fp) kx tk)
    (hv : ∀ (s : Shared) (H : Hp) (C : Addr) (cl : List (Str × Addr)) (fp : List Addr), PE (X.blk s H scope (compEnvC scope cl C X.env) fp) vx tv) (hs : ∀ x, foldedSetIterable iter X.env x = pure x := by intro _; rfl) :
    PE X (.DictComp kx vx [⟨tg, iter, [], 0⟩] scope pos) (tDcT wi g tk tv (own.map (·.2))) := by
  refine ⟨fun pins s σ H Q I h => ?_⟩
  rw [arm_eval_DictComp]
  have free : ∀ y ∈ scope.names, y.2 = .free → ∃ c, X.env.cells.lookup y.1 = some c := fun y hy e => (ok.free y hy e).elim (fun k => I.ok.has _ (.inl k)) (fun k => I.ok.has _ (.inr k))
  refine wpAny_comprehension_free rfl hs (closure_ok free) ok.kind (fun y hy e => by rw [ok.uniq y hy, e]) (thn (hi.run pins s σ H _ I h) fun _ s1 hx => thn hx fun _ s2 ⟨it, fp, tn, J, H2, e, I2, T, st2, f2, q⟩ => ?_)
  subst e
  refine wpAny_newObj_type (newEnv_comp ?_)
  generalize hD : s2.heap.objs.size = D
  have nD : H2 D = none := I2.hok.fresh (Nat.le_of_eq hD)
  obtain ⟨W, ⟨m0, w0⟩, turn⟩ := q D nD
  generalize hs3 : ({ s2 with heap := s2.heap.push { cls := .type "dict", data := .dict #[] } } : Shared) = s3
  have h3 : s3.heap = s2.heap.push { cls := .type "dict", data := .dict #[] } := by rw [← hs3]
  have I3 : Inv X pins σ (upd H2 D (.dT [])) s3 := by
    subst hs3 hD
    exact I2.laid (t' := s2.toks) (fun b o z => Heap.get?_push_of_some _ z) (Nat.le_refl _) (dt_empty s2.heap I2.big)
  have f3 : ∀ b ∈ fp, FpOk X pins (upd H2 D (.dT [])) b ∧ b < s3.heap.objs.size := fun b hb => by
    obtain ⟨o, e, _⟩ := T.obj _ _ st2 b hb
    have lt : b < s2.heap.objs.size := Heap.lt_size e
    refine ⟨⟨?_, (f2 b hb).2⟩, by rw [h3, Heap.size_push]; exact Nat.lt_succ_of_lt lt⟩
    rw [upd_ne (by rw [← hD]; exact Nat.ne_of_lt lt)]
    exact (f2 b hb).1
  have I4 := block_start I3 ok hN f3
  have pg := hg s3 (upd H2 D (.dT [])) s3.heap.objs.size (cellsFrom (s3.heap.objs.size + 1) scope.names (cloFrom X.env.cells scope.names [])) fp
  have pk := hk s3 (upd H2 D (.dT [])) s3.heap.objs.size (cellsFrom (s3.heap.objs.size + 1) scope.names (cloFrom X.env.cells scope.names [])) fp
  have pv := hv s3 (upd H2 D (.dT [])) s3.heap.objs.size (cellsFrom (s3.heap.objs.size + 1) scope.names (cloFrom X.env.cells scope.names [])) fp
  show codeAny _ _ (.compStart (.DictComp kx vx [⟨tg, iter, [], 0⟩] scope pos) 0 (.ref it) (.ref D) (compEnvC scope (cellsFrom (s3.heap.objs.size + 1) scope.names (cloFrom X.env.cells scope.names [])) s3.heap.objs.size X.env)) (compPost (model X.prog X.w) X.A X.xe none (EP X pins σ Q) (.ref D) s3.heap.objs.size) { s3 with heap := pushCells (s3.heap.push { cls := .type "dict", data := .dict #[] }) scope.names }
  generalize hce : compEnvC scope (cellsFrom (s3.heap.objs.size + 1) scope.names (cloFrom X.env.cells scope.names [])) s3.heap.objs.size X.env = ce at I4 pg pk pv ⊢
  have cL : ce.locals = s3.heap.objs.size := by subst hce; rfl
  generalize hH3 : upd H2 D (.dT []) = H3 at I3 I4 pg pk pv w0 f3
  generalize hs4 : ({ s3 with heap := pushCells (s3.heap.push { cls := .type "dict", data := .dict #[] }) scope.names } : Shared) = s4 at I4 ⊢
  have st4 : tn 0 s4.heap := T.keep _ _ _ st2 fun b _ o z => by
    rw [← hs4]
    exact pushCells_keeps _ _ _ _ (Heap.get?_push_of_some _ (by rw [h3]; exact Heap.get?_push_of_some _ z))
  have blk : ∀ {σ' : L2.St} {H' : Hp} {s' : Shared}, Inv (X.blk s3 H3 scope ce fp) [] σ' H' s' → (∀ b ∈ fp, H' b = none) → ∀ b ∈ fp, FpOk (X.blk s3 H3 scope ce fp) [] H' b := fun J' hn b hb =>
    ⟨hn b hb, (J'.ok.exf b hb).1, J'.ok.exfs b hb, .inl hb, fun x c z => (J'.ok.exf b hb).2 x c z, fun p hp => absurd (show p ∈ ([] : List (Addr × Obj)) ++ [] from hp) (by simp)⟩
  have loop : codeAny (model X.prog X.w) X.A (.compLoop (.DictComp kx vx [⟨tg, iter, [], 0⟩] scope pos) 0 (.ref it) (.ref D) ce) (compPost (model X.prog X.w) X.A X.xe none (EP X pins σ Q) (.ref D) s3.heap.objs.size) s4 := by
    refine compLoop_anyD (BetweenT (X.blk s3 H3 scope ce fp) fp tn (wipe σ (own.map (·.2))) W) ?_ m0 ⟨0, H3, I4, st4, fun b hb => (f3 b hb).1.1, w0⟩
    rintro n s5 ⟨i, H5, I5, st5, n5, w5⟩
    rcases turn i n H5 w5 with ⟨stop, qq⟩ | ⟨go, Nx, hNx, step⟩
    · refine thnF (T.done (X.blk s3 H3 scope ce fp) rfl rfl rfl hc i [] s5 _ H5 (fun _ _ => False) I5 (blk I5 n5) st5 stop) fun r s6 ⟨hr, I6⟩ => ?_
      subst hr
      have I7 : Inv X pins σ H5 s6 := I3.call' (ch := fp) I6.os I6.base I6.hok I6.bare fun b hb => ⟨(f3 b hb).1.2.2.2.1, (f3 b hb).1.2.1, (f3 b hb).1.2.2.2.2.1, (f3 b hb).1.2.2.2.2.2⟩
      have nC : H5 s3.heap.objs.size = none := by
        have z : H5 ce.locals = none := I6.free
        rwa [cL] at z
      obtain ⟨m, hn, _⟩ := I6.loc
      have hn : s6.heap.Ns ce.locals m := hn
      rw [cL] at hn
      obtain ⟨f0, f1, f2, f4, f5, f6⟩ := I3.fpOk (Nat.le_refl _) nC
      exact ⟨m, hn, fun h'' sb => ⟨.ref D, H5, I7.turned (t' := s6.toks) (fun b o hb z => (sb.2 b hb).trans z) f0 f1 f4 f5 f6, rfl, qq⟩⟩
    · refine thnF (T.item (X.blk s3 H3 scope ce fp) rfl rfl rfl hc i [] s5 _ H5 (fun _ _ => False) I5 (blk I5 n5) st5 go) fun r s6 ⟨u, hr, h6⟩ => ?_
      subst hr
      refine thnF h6 fun _ s7 ⟨x, H7, I7, r7, y7, st7, n7⟩ => ?_
      have I7' := I7.pinned (blk I7 n7) (T.obj _ _ st7)
      have main := dct_turn (s := s7) (Z := X.blk s3 H3 scope ce fp) (vs := own.map (·.2)) (D := D) (Nx := Nx) (E' := notedBy (model X.prog X.w) X.A ce fun e s' => compPost (model X.prog X.w) X.A X.xe none (EP X pins σ Q) (.ref D) s3.heap.objs.size (.error e) s') (R := fun s' => ∃ m, m < n ∧ BetweenT (X.blk s3 H3 scope ce fp) fp tn (wipe σ (own.map (·.2))) W m s') rfl hu pg pk pv I7' r7 (step x H7 y7) fun σ8 H' s' hw I' nx => by
        obtain ⟨m', hm, w'⟩ := hNx H' nx
        have keep : ∀ b ∈ fp, ∀ o, s7.heap.get? b = some o → s'.heap.get? b = some o ∧ H' b = none := fun b hb o z =>
          let y := I'.pin (b, o) (List.mem_append_right _ (List.mem_append_right _ (mem_pinsAt hb z)))
          ⟨y.1, y.2.1⟩
        refine ⟨m', hm, i + 1, H', (I'.unpinned (pins := [])).weak (by rw [← hw, wipe_length]) (fun j v z => ?_), T.keep _ _ _ st7 fun b hb o z => (keep b hb o z).1, fun b hb => ?_, w'⟩
        · rw [← hw] at z
          exact (wipe_some z).1
        · obtain ⟨o, z, _⟩ := T.obj _ _ st7 b hb
          exact (keep b hb o z).2
      exact main
  exact codeAny_compStart_dict loop (T.self X.A 0 _ _ _ st4 loop)
end
end Ka
/-! {k: v for t0 in i0 if .. for t1 in i1 if ..}, whatever the keys are. -/
namespace Ka
open PySem PySem.Spec PyProof.Rows L2
section
variable {P : Program} {w : World} {A : Around} {R : Result → Shared → Prop} {s : Shared} {kx vx t0 i0 t1 i1 : Expr} {f0 f1 : List Expr} {sc : Scope} {ps : Pos} {it : Value} {D : Addr} {ev : Env}
/-- the expression -/
abbrev dcE (kx vx t0 i0 : Expr) (f0 : List Expr) (t1 i1 : Expr) (f1 : List Expr) (sc : Scope) (ps : Pos) : Expr :=
  .DictComp kx vx [⟨t0, i0, f0, 0⟩, ⟨t1, i1, f1, 0⟩] sc ps
/-- whether a clause's tests hold -/
abbrev testsOf (fs : List Expr) (ev : Env) : Sem Bool :=
  forIn fs true fun c r => if r = true then do let ok ← isTrue c ev (eval c ev); pure (ForInStep.yield ok) else pure (ForInStep.yield r)
abbrev Raised (P : Program) (w : World) (A : Around) (ev : Env) (R : Result → Shared → Prop) : Value → Shared → Prop :=
  notedBy (model P w) A ev fun e s' => R (.error e) s'
theorem outer_eq : compTurn (dcE kx vx t0 i0 f0 t1 i1 f1 sc ps) 0 it (.ref D) ev = (do
    standAt i0.pos
    match ← pyNext it with
    | none => pure (.done .next)
    | some v =>
      letOwnedTupleGo t0 it v
      assign t0 ev v
      let ok ← testsOf f0 ev
      if ok then
        let z ← eval i1 ev
        standAt i1.pos
        let z ← foldedSetIterable i1 ev z
        let _ ← runOwn (.compStart (dcE kx vx t0 i0 f0 t1 i1 f1 sc ps) 1 (← holding [z] (pyIter z)) (.ref D) ev) ev
      again (.compLoop (dcE kx vx t0 i0 f0 t1 i1 f1 sc ps) 0 it (.ref D) ev)) := by rfl
theorem inner_eq : compTurn (dcE kx vx t0 i0 f0 t1 i1 f1 sc ps) 1 it (.ref D) ev = (do
    standAt i1.pos
    match ← pyNext it with
    | none => pure (.done .next)
    | some v =>
      letOwnedTupleGo t1 it v
      assign t1 ev v
      let ok ← testsOf f1 ev
      if ok then
        (do
          let y ← eval kx ev
          let z ← holding [y] (eval vx ev)
          standAt { kx.pos with endLine := vx.pos.endLine, endCol := vx.pos.endCol }
          holding [y, z] (dictSet D y z))
      again (.compLoop (dcE kx vx t0 i0 f0 t1 i1 f1 sc ps) 1 it (.ref D) ev)) := by rfl
/-- a turn of the first clause -/
def OutTurn (P : Program) (w : World) (A : Around) (R : Result → Shared → Prop) (kx vx t0 i0 : Expr) (f0 : List Expr) (t1 i1 : Expr) (f1 : List Expr) (sc : Scope) (ps : Pos) (it : Value) (D : Addr) (ev : Env) (go : Shared → Prop) (s : Shared) : Prop :=
  wpAny (model P w) A (pyNext it) (fun r s1 => match r with
    | none => R (.ok .next) s1
    | some v => wpAny (model P w) A (letOwnedTupleGo t0 it v) (fun _ s2 => wpAny (model P w) A (assign t0 ev v) (fun _ s3 => wpAny (model P w) A (testsOf f0 ev) (fun ok s4 =>
        if ok = true then wpAny (model P w) A (eval i1 ev) (fun z s5 => wpAny (model P w) A (pyIter z) (fun it1 s6 => codeAny (model P w) A (.compStart (dcE kx vx t0 i0 f0 t1 i1 f1 sc ps) 1 it1 (.ref D) ev) (fun r s' => match r with
            | .ok _ => go s'
            | .error _ => False) s6) (Raised P w A ev R) s5) (Raised P w A ev R) s4
        else go s4) (Raised P w A ev R) s3) (Raised P w A ev R) s2) (Raised P w A ev R) s1) (Raised P w A ev R) s
theorem outer_loop (hs : ∀ x, foldedSetIterable i1 ev x = pure x) (I : Nat → Shared → Prop) (turn : ∀ n s, I n s → OutTurn P w A R kx vx t0 i0 f0 t1 i1 f1 sc ps it D ev (fun s' => ∃ m, m < n ∧ I m s') s) (n : Nat) (h : I n s) :
    codeAny (model P w) A (.compLoop (dcE kx vx t0 i0 f0 t1 i1 f1 sc ps) 0 it (.ref D) ev) R s := by
  refine codeAny_loop rfl I (fun n s hI => ?_) n h
  have T := turn n s hI
  show wpAny _ A ((compTurn (dcE kx vx t0 i0 f0 t1 i1 f1 sc ps) 0 it (.ref D) ev).onRaise (fun x => do noteFrame x ev; theTreesLotGoes x)) _ _ s
  refine wpAny_noted ?_
  rw [outer_eq]
  refine wpAny_bind (wpAny_standAt (wpAny_bind (wpAny_mono T (fun r a1 b1 => ?_) fun _ _ z => z)))
  cases r with
  | none => exact wpAny_pure b1
  | some v =>
    refine wpAny_bind (wpAny_mono b1 (fun _ a2 b2 => wpAny_bind (wpAny_mono b2 (fun _ a3 b3 => wpAny_bind (wpAny_mono b3 (fun ok a4 b4 => ?_) fun _ _ z => z)) fun _ _ z => z)) fun _ _ z => z)
    cases ok with
    | false => exact wpAny_pure ⟨rfl, b4⟩
    | true =>
      refine wpAny_bind (wpAny_mono b4 (fun z a5 b5 => wpAny_bind (wpAny_standAt (wpAny_bind (wpAny_of_eq (hs z) (wpAny_bind (wpAny_holding (wpAny_mono b5 (fun it1 a6 b6 => ?_) fun _ _ z => z))))))) fun _ _ z => z)
      refine wpAny_bind (wpAny_runOwn ?_)
      rw [Around.mark_none]
      refine codeAny_mono b6 fun r s' hr => ?_
      cases r with
      | error e => exact hr.elim
      | ok f => first | exact wpAny_pure ⟨rfl, hr⟩ | exact wpAny_bind (wpAny_pure (wpAny_pure ⟨rfl, hr⟩))
/-- a turn of the second -/
def InTurn (P : Program) (w : World) (A : Around) (R : Result → Shared → Prop) (kx vx t1 : Expr) (f1 : List Expr) (it : Value) (D : Addr) (ev : Env) (go : Shared → Prop) (s : Shared) : Prop :=
  wpAny (model P w) A (pyNext it) (fun r s1 => match r with
    | none => R (.ok .next) s1
    | some v => wpAny (model P w) A (letOwnedTupleGo t1 it v) (fun _ s2 => wpAny (model P w) A (assign t1 ev v) (fun _ s3 => wpAny (model P w) A (testsOf f1 ev) (fun ok s4 =>
        if ok = true then wpAny (model P w) A (eval kx ev) (fun y s5 => wpAny (model P w) A (eval vx ev) (fun z s6 => wpAny (model P w) A (dictSet D y z) (fun _ s7 => go s7) (Raised P w A ev R) s6) (Raised P w A ev R) s5) (Raised P w A ev R) s4
        else go s4) (Raised P w A ev R) s3) (Raised P w A ev R) s2) (Raised P w A ev R) s1) (Raised P w A ev R) s
theorem inner_loop (I : Nat → Shared → Prop) (turn : ∀ n s, I n s → InTurn P w A R kx vx t1 f1 it D ev (fun s' => ∃ m, m < n ∧ I m s') s) (n : Nat) (h : I n s) :
    codeAny (model P w) A (.compLoop (dcE kx vx t0 i0 f0 t1 i1 f1 sc ps) 1 it (.ref D) ev) R s := by
  refine codeAny_loop rfl I (fun n s hI => ?_) n h
  have T := turn n s hI
  show wpAny _ A ((compTurn (dcE kx vx t0 i0 f0 t1 i1 f1 sc ps) 1 it (.ref D) ev).onRaise (fun x => do noteFrame x ev; theTreesLotGoes x)) _ _ s
  refine wpAny_noted ?_
  rw [inner_eq]
  refine wpAny_bind (wpAny_standAt (wpAny_bind (wpAny_mono T (fun r a1 b1 => ?_) fun _ _ z => z)))
  cases r with
  | none => exact wpAny_pure b1
  | some v =>
    refine wpAny_bind (wpAny_mono b1 (fun _ a2 b2 => wpAny_bind (wpAny_mono b2 (fun _ a3 b3 => wpAny_bind (wpAny_mono b3 (fun ok a4 b4 => ?_) fun _ _ z => z)) fun _ _ z => z)) fun _ _ z => z)
    cases ok with
    | false => exact wpAny_pure ⟨rfl, b4⟩
    | true =>
      exact wpAny_bind (wpAny_bind (wpAny_mono b4 (fun y a5 b5 => wpAny_bind (wpAny_holding (wpAny_mono b5 (fun z a6 b6 => wpAny_bind (wpAny_standAt (wpAny_holding (wpAny_mono b6 (fun _ a7 b7 => wpAny_pure ⟨rfl, b7⟩) fun _ _ z => z)))) fun _ _ z => z))) fun _ _ z => z))
/-- the second clause begins -/
theorem inner_start (h0 : codeAny (model P w) A (.compLoop (dcE kx vx t0 i0 f0 t1 i1 f1 sc ps) 1 it (.ref D) ev) R s)
    (h : wpAny (model P w) A (pyIter it) (fun j s' => codeAny (model P w) A (.compLoop (dcE kx vx t0 i0 f0 t1 i1 f1 sc ps) 1 j (.ref D) ev) R s') (Raised P w A ev R) s) :
    codeAny (model P w) A (.compStart (dcE kx vx t0 i0 f0 t1 i1 f1 sc ps) 1 it (.ref D) ev) R s := by
  refine codeAny_of_tree ?_
  show wpAny _ _ ((compStart (dcE kx vx t0 i0 f0 t1 i1 f1 sc ps) 1 it (.ref D) ev).onRaise (fun x => do noteFrame x ev; standAt theWindowsPlace)) _ _ s
  refine wpAny_notedAt ?_
  unfold compStart
  show wpAny _ _ (ask >>= _) _ _ s
  refine wpAny_bind (wpAny_askSetting (wpAny_ite ?_))
  have l1 : ∀ (j : Value) (s' : Shared), codeAny (model P w) A (.compLoop (dcE kx vx t0 i0 f0 t1 i1 f1 sc ps) 1 j (.ref D) ev) R s' → codeAny (model P w) A (.compLoop (dcE kx vx t0 i0 f0 t1 i1 f1 sc ps) 1 j (.ref D) ev) R s' := fun _ _ z => z
  split
  · first | exact wpAny_pure ⟨rfl, h0⟩ | exact wpAny_bind (wpAny_pure (wpAny_pure ⟨rfl, h0⟩))
  · refine wpAny_bind (wpAny_rule ?_)
    first
      | exact wpAny_bind (wpAny_standAt (wpAny_bind (wpAny_mono h (fun j s' z => wpAny_pure ⟨rfl, z⟩) fun _ _ z => z)))
      | (show wpAny _ _ (standAt i1.pos >>= _) _ _ s; exact wpAny_bind (wpAny_standAt (wpAny_bind (wpAny_mono h (fun j s' z => wpAny_pure ⟨rfl, z⟩) fun _ _ z => z))))
end
/-- what is stored: o0 an empty dict, up what it takes to put a key and a value into the dict at an address -/
structure Store (X : Cx) (o0 : HO) (up : Addr → V → V → Hp → (Hp → Prop) → Prop) : Prop where
  fresh : ∀ {pins : List (Addr × Obj)} {σ : L2.St} {H : Hp} {s : Shared}, Inv X pins σ H s → Inv X pins σ (upd H s.heap.objs.size o0) { s with heap := s.heap.push { cls := .type "dict", data := .dict #[] } }
  put : ∀ {Z : Cx} {pins : List (Addr × Obj)} {σ : L2.St} {H : Hp} {s : Shared} {E : Value → Shared → Prop} {D : Addr} {y z : V} {u r : Value} {Nx : Hp → Prop} {Q : Unit → Shared → Prop}, Z.A = X.A → Inv Z pins σ H s → RelV y u → RelV z r → up D y z H Nx →
    (∀ H' s', Inv Z pins σ H' s' → Nx H' → Q () s') → wpAny (model Z.prog Z.w) Z.A (dictSet D u r) Q E s
/-- keys numbers or texts -/
def upK : Addr → V → V → Hp → (Hp → Prop) → Prop := fun D y z H Nx => ∃ kvs k, y = kV k ∧ H D = some (.dK kvs) ∧ kvs.length < sizeLine ∧ Nx (upd H D (.dK (putK kvs k z)))
/-- keys tuples of them -/
def upT : Addr → V → V → Hp → (Hp → Prop) → Prop := fun D y z H Nx => ∃ kvs k b, y = .ref b ∧ H b = some (.tup (k.map kV)) ∧ H D = some (.dT kvs) ∧ kvs.length < sizeLine ∧ Nx (upd H D (.dT (putK kvs k z)))
theorem storeK {X : Cx} : Store X (.dK []) upK where
  fresh := fun {pins σ H s} I => I.laid (t' := s.toks) (fun b o z => Heap.get?_push_of_some _ z) (Nat.le_refl _) (dk_empty s.heap I.big)
  put := fun _ I ry rz ⟨kvs, k, ey, hD, hz, nx⟩ q => by
    subst ey
    exact d_dictSet I hD hz ry rz fun s' I' => q _ s' I' nx
theorem storeT {X : Cx} (hu : X.A.units + 1 < cLine) : Store X (.dT []) upT where
  fresh := fun {pins σ H s} I => I.laid (t' := s.toks) (fun b o z => Heap.get?_push_of_some _ z) (Nat.le_refl _) (dt_empty s.heap I.big)
  put := fun e I ry rz ⟨kvs, k, b, ey, hb, hD, hz, nx⟩ q => by
    subst ey
    exact dT_set (by rw [e]; exact hu) I hD hz hb ry rz fun s' I' => q _ s' I' nx
/-- the turns of the second clause, from which Nx is reached -/
def InP (up : Addr → V → V → Hp → (Hp → Prop) → Prop) (D : Addr) (g1 : TG) (tt1 : TT) (tk tv : TE) (vs1 : List Nat) (τ : L2.St) (Nx : Hp → Prop) (J : It) (H0 : Hp) : Prop :=
  ∃ W : Nat → Nat → Hp → Prop, (∃ m, W 0 m H0) ∧ ∀ j k H, W j k H → (J.stop j H ∧ Nx H) ∨ (J.go j H ∧ ∃ N1 : Hp → Prop, (∀ H', N1 H' → ∃ k', k' < k ∧ W (j + 1) k' H') ∧
    ∀ x H', J.yld j H x H' → g1 x (wipe τ vs1) H' fun τ2 H5 => wipe τ2 vs1 = wipe τ vs1 ∧ tt1 τ2 H5 fun b H6 => if b = true then tk τ2 H6 fun y H7 => tv τ2 H7 fun z H8 => up D y z H8 N1 else N1 H6)
/-- {k: v for target in iter if .. for target in iter if ..} -/
def tDc2 (o0 : HO) (up : Addr → V → V → Hp → (Hp → Prop) → Prop) (wi : TI) (g : TG) (tt : TT) (wi1 : TI) (g1 : TG) (tt1 : TT) (tk tv : TE) (vs vs1 : List Nat) : TE := fun σ H Q => wi σ H fun J H1 => ∀ D, H1 D = none →
  ∃ W : Nat → Nat → Hp → Prop, (∃ m, W 0 m (upd H1 D o0)) ∧ ∀ i m H, W i m H → (J.stop i H ∧ Q (.ref D) H) ∨ (J.go i H ∧ ∃ Nx : Hp → Prop, (∀ H', Nx H' → ∃ m', m' < m ∧ W (i + 1) m' H') ∧
    ∀ x H', J.yld i H x H' → g x (wipe σ vs) H' fun τ H2 => wipe τ vs = wipe σ vs ∧ tt τ H2 fun b H3 => if b = true then wi1 τ H3 fun J1 H4 => InP up D g1 tt1 tk tv vs1 τ Nx J1 H4 else Nx H3)
section
variable {X : Cx}
/-- a block's part, for any frame that it may get -/
abbrev inB (X : Cx) (sc : Scope) (s : Shared) (H : Hp) (C : Addr) (cl : List (Str × Addr)) (fp : List Addr) : Cx := X.blk s H sc (compEnvC sc cl C X.env) fp
theorem keep_out {σ τ : L2.St} {vs vs1 : List Nat} (hv : ∀ i ∈ vs1, i ∈ vs) (e : wipe τ vs = wipe σ vs) {j : Nat} {v : V} (h : (wipe σ vs)[j]? = some (some v)) : (wipe τ vs1)[j]? = some (some v) := by
  rw [← e] at h
  have h2 := wipe_some h
  rw [wipe_out fun z => h2.2 (hv j z)]
  exact h2.1
/-- what stands between two turns of a clause -/
def Btw (Z : Cx) (pins : List (Addr × Obj)) (fp : List Addr) (tn : Nat → Heap → Prop) (τ : L2.St) (W : Nat → Nat → Hp → Prop) (n : Nat) (s : Shared) : Prop :=
  ∃ i H, Inv Z pins τ H s ∧ tn i s.heap ∧ (∀ b ∈ fp, H b = none) ∧ W i n H
/-- from a turn to the next -/
theorem btw_next {Z : Cx} {pins : List (Addr × Obj)} {t : Expr} {J : It} {fp : List Addr} {it : Addr} {tn : Nat → Heap → Prop} {h : Heap} (T : Turn Z.prog Z.w Z.K t J fp it tn) {τ τ2 : L2.St} {W : Nat → Nat → Hp → Prop} {i n m : Nat} {H : Hp} {s : Shared} (sth : tn (i + 1) h)
    (I : Inv Z (pins ++ pinsAt fp h) τ2 H s) (hl : τ.length = τ2.length) (hk : ∀ (j : Nat) v, τ[j]? = some (some v) → τ2[j]? = some (some v)) (hm : m < n) (w : W (i + 1) m H) : ∃ m, m < n ∧ Btw Z pins fp tn τ W m s := by
  have pin : ∀ b ∈ fp, ∀ o, h.get? b = some o → s.heap.get? b = some o ∧ H b = none := fun b hb o e =>
    let z := I.pin (b, o) (List.mem_append_right _ (List.mem_append_right _ (mem_pinsAt hb e)))
    ⟨z.1, z.2.1⟩
  refine ⟨m, hm, i + 1, H, (I.unpinned (pins := pins)).weak hl hk, T.keep _ _ _ sth fun b hb o e => (pin b hb o e).1, fun b hb => ?_, w⟩
  obtain ⟨o, e, _⟩ := T.obj _ _ sth b hb
  exact (pin b hb o e).2
theorem len_of {τ τ2 : L2.St} {vs : List Nat} (e : wipe τ2 vs = wipe τ vs) : (wipe τ vs).length = τ2.length := by rw [← e, wipe_length]
theorem knows_of {τ τ2 : L2.St} {vs : List Nat} (e : wipe τ2 vs = wipe τ vs) (j : Nat) (v : V) (h : (wipe τ vs)[j]? = some (some v)) : τ2[j]? = some (some v) := by
  rw [← e] at h
  exact (wipe_some h).1
theorem in_turn {Z : Cx} {R : Result → Shared → Prop} {kx vx t1 : Expr} {f1 : List Expr} {o0 : HO} {up : Addr → V → V → Hp → (Hp → Prop) → Prop} (st : Store X o0 up) (zA : Z.A = X.A) (hE : Z.xe = fun _ _ => False) (hc : Z.calm = true) {D : Addr} {J1 : It} {fp1 : List Addr} {it1 : Addr} {tn1 : Nat → Heap → Prop} (T1 : Turn Z.prog Z.w Z.K t1 J1 fp1 it1 tn1)
    {τ : L2.St} {vs1 : List Nat} {pins : List (Addr × Obj)} {Nx : Hp → Prop} {W1 : Nat → Nat → Hp → Prop} {g1 : TG} {tt1 : TT} {tk tv : TE} (pg1 : PG Z t1 g1) (pt1 : PTs Z f1 tt1) (pk : PE Z kx tk) (px : PE Z vx tv) (far : ∀ {H' : Hp}, (∀ b ∈ fp1, H' b = none) → ∀ b ∈ fp1, FpOk Z pins H' b)
    (turn : ∀ j k H, W1 j k H → (J1.stop j H ∧ Nx H) ∨ (J1.go j H ∧ ∃ N1 : Hp → Prop, (∀ H', N1 H' → ∃ k', k' < k ∧ W1 (j + 1) k' H') ∧
      ∀ x H', J1.yld j H x H' → g1 x (wipe τ vs1) H' fun τ2 H5 => wipe τ2 vs1 = wipe τ vs1 ∧ tt1 τ2 H5 fun b H6 => if b = true then tk τ2 H6 fun y H7 => tv τ2 H7 fun z H8 => up D y z H8 N1 else N1 H6))
    (fin : ∀ {H' : Hp} {s' : Shared}, Inv Z pins (wipe τ vs1) H' s' → Nx H' → R (.ok .next) s') (k : Nat) (s : Shared) (h : Btw Z pins fp1 tn1 (wipe τ vs1) W1 k s) :
    InTurn Z.prog Z.w Z.A R kx vx t1 f1 (.ref it1) D Z.env (fun s' => ∃ m, m < k ∧ Btw Z pins fp1 tn1 (wipe τ vs1) W1 m s') s := by
  obtain ⟨j, H, I, stj, no, w⟩ := h
  rcases turn j k H w with ⟨stop, nx⟩ | ⟨go, N1, hN, step⟩
  · refine thnF (T1.done Z rfl rfl rfl hc j _ s _ H (fun _ _ => False) I (far no) stj stop) fun r a1 ⟨hr, I1⟩ => ?_
    subst hr
    exact fin I1 nx
  · refine thnF (T1.item Z rfl rfl rfl hc j _ s _ H (fun _ _ => False) I (far no) stj go) fun r a1 ⟨u, hr, h1⟩ => ?_
    subst hr
    refine thnF h1 fun _ a2 ⟨x, H2, I2, r2, y2, st2, n2⟩ => ?_
    have I2' := I2.pinned (far n2) (T1.obj _ _ st2)
    have b3 := pg1.run _ a2 _ H2 x u _ I2' r2 (step x H2 y2)
    rw [hE] at b3
    refine thnF b3 fun _ a3 ⟨τ2, H3, I3, e3, q3⟩ => ?_
    have b4 := pt1.run _ a3 τ2 H3 _ I3 q3
    rw [hE] at b4
    refine thnF b4 fun b a4 ⟨H4, I4, q4⟩ => ?_
    have next : ∀ {H' : Hp} {s' : Shared}, Inv Z (pins ++ pinsAt fp1 a2.heap) τ2 H' s' → N1 H' → ∃ m, m < k ∧ Btw Z pins fp1 tn1 (wipe τ vs1) W1 m s' := fun I' n' => by
      obtain ⟨m, hm, w'⟩ := hN _ n'
      exact btw_next T1 st2 I' (len_of e3) (knows_of e3) hm w'
    cases b with
    | false =>
      rw [if_neg Bool.false_ne_true] at q4 ⊢
      exact next I4 q4
    | true =>
      rw [if_pos rfl] at q4 ⊢
      have b5 := pk.run _ a4 τ2 H4 _ I4 q4
      rw [hE] at b5
      refine thnF b5 fun v5 a5 ⟨y, H5, I5, r5, q5⟩ => ?_
      have b6 := px.run _ a5 τ2 H5 _ I5 q5
      rw [hE] at b6
      refine thnF b6 fun v6 a6 ⟨z, H6, I6, r6, q6⟩ => ?_
      exact st.put zA I6 r5 r6 q6 fun H' s' I' n' => next I' n'
theorem out_turn {Z : Cx} {R : Result → Shared → Prop} {kx vx t0 i0 t1 i1 : Expr} {f0 f1 : List Expr} {sc : Scope} {ps : Pos} {o0 : HO} {up : Addr → V → V → Hp → (Hp → Prop) → Prop} (st : Store X o0 up) (zA : Z.A = X.A) (hE : Z.xe = fun _ _ => False) (hc : Z.calm = true) {D : Addr} {J : It} {fp : List Addr} {it : Addr} {tn : Nat → Heap → Prop} (T : Turn Z.prog Z.w Z.K t0 J fp it tn)
    {σ : L2.St} {vs vs1 : List Nat} (hv : ∀ i ∈ vs1, i ∈ vs) {Qd : Hp → Prop} {W : Nat → Nat → Hp → Prop} {wi1 : TI} {g g1 : TG} {tt tt1 : TT} {tk tv : TE} (pg : PG Z t0 g) (pt : PTs Z f0 tt) (pi1 : PI Z t1 i1 wi1) (pg1 : PG Z t1 g1) (pt1 : PTs Z f1 tt1) (pk : PE Z kx tk) (px : PE Z vx tv)
    (far : ∀ {τ' : L2.St} {H' : Hp} {s' : Shared}, Inv Z [] τ' H' s' → (∀ b ∈ fp, H' b = none) → ∀ b ∈ fp, FpOk Z [] H' b)
    (turn : ∀ i m H, W i m H → (J.stop i H ∧ Qd H) ∨ (J.go i H ∧ ∃ Nx : Hp → Prop, (∀ H', Nx H' → ∃ m', m' < m ∧ W (i + 1) m' H') ∧
      ∀ x H', J.yld i H x H' → g x (wipe σ vs) H' fun τ H2 => wipe τ vs = wipe σ vs ∧ tt τ H2 fun b H3 => if b = true then wi1 τ H3 fun J1 H4 => InP up D g1 tt1 tk tv vs1 τ Nx J1 H4 else Nx H3))
    (fin : ∀ {H' : Hp} {s' : Shared}, Inv Z [] (wipe σ vs) H' s' → Qd H' → R (.ok .next) s') (n : Nat) (s : Shared) (h : Btw Z [] fp tn (wipe σ vs) W n s) :
    OutTurn Z.prog Z.w Z.A R kx vx t0 i0 f0 t1 i1 f1 sc ps (.ref it) D Z.env (fun s' => ∃ m, m < n ∧ Btw Z [] fp tn (wipe σ vs) W m s') s := by
  obtain ⟨i, H, I, sti, no, w⟩ := h
  rcases turn i n H w with ⟨stop, qd⟩ | ⟨go, Nx, hN, step⟩
  · refine thnF (T.done Z rfl rfl rfl hc i _ s _ H (fun _ _ => False) I (far I no) sti stop) fun r a1 ⟨hr, I1⟩ => ?_
    subst hr
    exact fin I1 qd
  · refine thnF (T.item Z rfl rfl rfl hc i _ s _ H (fun _ _ => False) I (far I no) sti go) fun r a1 ⟨u, hr, h1⟩ => ?_
    subst hr
    refine thnF h1 fun _ a2 ⟨x, H2, I2, r2, y2, st2, n2⟩ => ?_
    have I2' := I2.pinned (far I2 n2) (T.obj _ _ st2)
    have b3 := pg.run _ a2 _ H2 x u _ I2' r2 (step x H2 y2)
    rw [hE] at b3
    refine thnF b3 fun _ a3 ⟨τ, H3, I3, e3, q3⟩ => ?_
    have b4 := pt.run _ a3 τ H3 _ I3 q3
    rw [hE] at b4
    refine thnF b4 fun b a4 ⟨H4, I4, q4⟩ => ?_
    have next : ∀ {τ2 : L2.St} {H' : Hp} {s' : Shared}, Inv Z ([] ++ pinsAt fp a2.heap) τ2 H' s' → (wipe σ vs).length = τ2.length → (∀ (j : Nat) v, (wipe σ vs)[j]? = some (some v) → τ2[j]? = some (some v)) → Nx H' → ∃ m, m < n ∧ Btw Z [] fp tn (wipe σ vs) W m s' := fun I' hl hk n' => by
      obtain ⟨m, hm, w'⟩ := hN _ n'
      exact btw_next T st2 I' hl hk hm w'
    cases b with
    | false =>
      rw [if_neg Bool.false_ne_true] at q4 ⊢
      exact next I4 (len_of e3) (knows_of e3) q4
    | true =>
      rw [if_pos rfl] at q4 ⊢
      have b5 := pi1.run _ a4 τ H4 _ I4 q4
      rw [hE] at b5
      refine thnF b5 fun xv a5 h5 => thnF h5 fun itv a6 ⟨it1, fp1, tn1, J1, H6, e6, I6, T1, st6, f6, W1, ⟨m1, w1⟩, turn1⟩ => ?_
      subst e6
      have loop := inner_loop (t0 := t0) (i0 := i0) (i1 := i1) (f0 := f0) (sc := sc) (ps := ps) (P := Z.prog) (w := Z.w) (A := Z.A) (kx := kx) (vx := vx) (t1 := t1) (f1 := f1) (it := .ref it1) (D := D) (ev := Z.env)
        (R := fun r s' => match r with
          | .ok _ => ∃ m, m < n ∧ Btw Z [] fp tn (wipe σ vs) W m s'
          | .error _ => False)
        (Btw Z ([] ++ pinsAt fp a2.heap) fp1 tn1 (wipe τ vs1) W1)
        (in_turn st zA hE hc T1 (Nx := Nx) pg1 pt1 pk px (fun hn b hb => ⟨hn b hb, (f6 b hb).2⟩) turn1 (fun I' nx => next I' ((len_of e3).trans (wipe_length τ vs1).symm) (fun j v z => keep_out hv e3 z) nx))
        m1 (s := a6) ⟨0, H6, I6.weak (wipe_length _ _) (fun j v z => (wipe_some z).1), st6, fun b hb => (f6 b hb).1, w1⟩
      exact inner_start loop (T1.self _ _ _ _ _ st6 loop)
theorem pe_dc2 {kx vx t0 i0 t1 i1 : Expr} {f0 f1 : List Expr} {sc : Scope} {own : List (Str × Nat)} {vs1 : List Nat} {ps : Pos} {o0 : HO} {up : Addr → V → V → Hp → (Hp → Prop) → Prop} {wi wi1 : TI} {g g1 : TG} {tt tt1 : TT} {tk tv : TE} (st : Store X o0 up) (hc : X.calm = true) (hN : X.N.Nodup) (hi : PI X t0 i0 wi) (ok : BlkOk X.N X.env.scope sc own) (hv : ∀ i ∈ vs1, i ∈ own.map (·.2))
    (hg : ∀ s H C cl fp, PG (inB X sc s H C cl fp) t0 g) (ht : ∀ s H C cl fp, PTs (inB X sc s H C cl fp) f0 tt) (hi1 : ∀ s H C cl fp, PI (inB X sc s H C cl fp) t1 i1 wi1) (hg1 : ∀ s H C cl fp, PG (inB X sc s H C cl fp) t1 g1) (ht1 : ∀ s H C cl fp, PTs (inB X sc s H C cl fp) f1 tt1) (hk : ∀ s H C cl fp, PE (inB X sc s H C cl fp) kx tk) (hx : ∀ s H C cl fp, PE (inB X sc s H C cl fp) vx tv)
    (hs : ∀ x, foldedSetIterable i0 X.env x = pure x := by intro _; rfl) (hs1 : ∀ ev x, foldedSetIterable i1 ev x = pure x := by intro _ _; rfl) : PE X (dcE kx vx t0 i0 f0 t1 i1 f1 sc ps) (tDc2 o0 up wi g tt wi1 g1 tt1 tk tv (own.map (·.2)) vs1) := by
  refine ⟨fun pins s σ H Q I h => ?_⟩
  rw [arm_eval_DictComp]
  have free : ∀ y ∈ sc.names, y.2 = .free → ∃ c, X.env.cells.lookup y.1 = some c := fun y hy e => (ok.free y hy e).elim (fun k => I.ok.has _ (.inl k)) (fun k => I.ok.has _ (.inr k))
  refine wpAny_comprehension_free rfl hs (closure_ok free) ok.kind (fun y hy e => by rw [ok.uniq y hy, e]) (thn (hi.run pins s σ H _ I h) fun _ s1 hx1 => thn hx1 fun _ s2 ⟨it, fp, tn, J, H2, e, I2, T, st2, f2, q⟩ => ?_)
  subst e
  refine wpAny_newObj_type (newEnv_comp ?_)
  have I3 := st.fresh I2
  generalize hD : s2.heap.objs.size = D at I3
  have nD : H2 D = none := I2.hok.fresh (Nat.le_of_eq hD)
  obtain ⟨W, ⟨m0, w0⟩, turn⟩ := q D nD
  generalize hs3 : ({ s2 with heap := s2.heap.push { cls := .type "dict", data := .dict #[] } } : Shared) = s3 at I3
  have h3 : s3.heap = s2.heap.push { cls := .type "dict", data := .dict #[] } := by rw [← hs3]
  have f3 : ∀ b ∈ fp, FpOk X pins (upd H2 D o0) b ∧ b < s3.heap.objs.size := fun b hb => by
    obtain ⟨o, e, _⟩ := T.obj _ _ st2 b hb
    have lt : b < s2.heap.objs.size := Heap.lt_size e
    exact ⟨⟨by rw [upd_ne (by rw [← hD]; exact Nat.ne_of_lt lt)]; exact (f2 b hb).1, (f2 b hb).2⟩, by rw [h3, Heap.size_push]; exact Nat.lt_succ_of_lt lt⟩
  have I4 := block_start I3 ok hN f3
  generalize hcl : cellsFrom (s3.heap.objs.size + 1) sc.names (cloFrom X.env.cells sc.names []) = cl at I4
  have pg := hg s3 (upd H2 D o0) s3.heap.objs.size cl fp
  have pt := ht s3 (upd H2 D o0) s3.heap.objs.size cl fp
  have pi1 := hi1 s3 (upd H2 D o0) s3.heap.objs.size cl fp
  have pg1 := hg1 s3 (upd H2 D o0) s3.heap.objs.size cl fp
  have pt1 := ht1 s3 (upd H2 D o0) s3.heap.objs.size cl fp
  have pk := hk s3 (upd H2 D o0) s3.heap.objs.size cl fp
  have px := hx s3 (upd H2 D o0) s3.heap.objs.size cl fp
  dsimp only [inB] at pg pt pi1 pg1 pt1 pk px
  show codeAny _ _ (.compStart (dcE kx vx t0 i0 f0 t1 i1 f1 sc ps) 0 (.ref it) (.ref D) (compEnvC sc cl s3.heap.objs.size X.env)) (compPost (model X.prog X.w) X.A X.xe none (EP X pins σ Q) (.ref D) s3.heap.objs.size) { s3 with heap := pushCells (s3.heap.push { cls := .type "dict", data := .dict #[] }) sc.names }
  generalize hce : compEnvC sc cl s3.heap.objs.size X.env = ce at I4 pg pt pi1 pg1 pt1 pk px ⊢
  have cL : ce.locals = s3.heap.objs.size := by subst hce; rfl
  generalize hH3 : upd H2 D o0 = H3 at I3 I4 pg pt pi1 pg1 pt1 pk px w0 f3
  generalize hs4 : ({ s3 with heap := pushCells (s3.heap.push { cls := .type "dict", data := .dict #[] }) sc.names } : Shared) = s4 at I4 ⊢
  have st4 : tn 0 s4.heap := T.keep _ _ _ st2 fun b _ o z => by
    rw [← hs4]
    exact pushCells_keeps _ _ _ _ (Heap.get?_push_of_some _ (by rw [h3]; exact Heap.get?_push_of_some _ z))
  have far : ∀ {τ : L2.St} {H' : Hp} {s' : Shared}, Inv (X.blk s3 H3 sc ce fp) [] τ H' s' → (∀ b ∈ fp, H' b = none) → ∀ b ∈ fp, FpOk (X.blk s3 H3 sc ce fp) [] H' b := fun J' hn b hb =>
    ⟨hn b hb, (J'.ok.exf b hb).1, J'.ok.exfs b hb, .inl hb, fun x c z => (J'.ok.exf b hb).2 x c z, fun p hp => absurd (show p ∈ ([] : List (Addr × Obj)) ++ [] from hp) (by simp)⟩
  have loop : codeAny (model X.prog X.w) X.A (.compLoop (dcE kx vx t0 i0 f0 t1 i1 f1 sc ps) 0 (.ref it) (.ref D) ce) (compPost (model X.prog X.w) X.A X.xe none (EP X pins σ Q) (.ref D) s3.heap.objs.size) s4 := by
    refine outer_loop (hs1 ce) (Btw (X.blk s3 H3 sc ce fp) [] fp tn (wipe σ (own.map (·.2))) W) (fun n s' b => ?_) m0 ⟨0, H3, I4, st4, fun b hb => (f3 b hb).1.1, w0⟩
    refine out_turn (Z := X.blk s3 H3 sc ce fp) st rfl rfl hc T hv (Qd := fun H => Q (.ref D) H) pg pt pi1 pg1 pt1 pk px far turn (fun {H' s'} I' qq => ?_) n s' b
    have I7 : Inv X pins σ H' s' := I3.call' (ch := fp) I'.os I'.base I'.hok I'.bare fun b hb => ⟨(f3 b hb).1.2.2.2.1, (f3 b hb).1.2.1, (f3 b hb).1.2.2.2.2.1, (f3 b hb).1.2.2.2.2.2⟩
    have nC : H' s3.heap.objs.size = none := by
      have z : H' ce.locals = none := I'.free
      rwa [cL] at z
    obtain ⟨m, hn, _⟩ := I'.loc
    have hn : s'.heap.Ns ce.locals m := hn
    rw [cL] at hn
    obtain ⟨z0, z1, z2, z4, z5, z6⟩ := I3.fpOk (Nat.le_refl _) nC
    exact ⟨m, hn, fun h'' sb => ⟨.ref D, H', I7.turned (t' := s'.toks) (fun b o hb z => (sb.2 b hb).trans z) z0 z1 z4 z5 z6, rfl, qq⟩⟩
  exact codeAny_compStart_dict loop (T.self X.A 0 _ _ _ st4 loop)
end
end Ka
/-! Heaps as lists (own text; no part of the kit). -/
namespace Kp
variable {α : Type} {lt : α → α → Bool}
/-- less, as a heap wants it -/
structure Ord (lt : α → α → Bool) : Prop where
  asym : ∀ a b, lt a b = true → lt b a = false
  cot : ∀ a b c, lt a b = false → lt b c = false → lt a c = false
theorem Ord.trans (o : Ord lt) {a b c : α} (h1 : lt a b = true) (h2 : lt b c = true) : lt a c = true := by
  cases h : lt a c with
  | true => rfl
  | false =>
    have := o.cot a c b h (o.asym b c h2)
    rw [h1] at this
    cases this
theorem Ord.irr (o : Ord lt) (a : α) : lt a a = false := by
  cases h : lt a a with
  | false => rfl
  | true => rw [← h]; exact o.asym a a h
def par (i : Nat) : Nat := (i - 1) / 2
theorem par_lt {i : Nat} (h : 0 < i) : par i < i := by unfold par; omega
/-- no item is less than the one above it -/
def IsHeap (lt : α → α → Bool) (l : List α) : Prop := ∀ (i : Nat) (x y : α), 0 < i → l[i]? = some x → l[par i]? = some y → lt x y = false
/-- so but at one place, which is as if it were not there -/
structure But (lt : α → α → Bool) (l : List α) (p : Nat) : Prop where
  far : ∀ (i : Nat) (x y : α), 0 < i → i ≠ p → par i ≠ p → l[i]? = some x → l[par i]? = some y → lt x y = false
  near : ∀ (i : Nat) (x y : α), 0 < i → 0 < p → par i = p → l[i]? = some x → l[par p]? = some y → lt x y = false
/-- so but the one at p may be less than the one above it -/
structure Up (lt : α → α → Bool) (l : List α) (p : Nat) : Prop where
  far : ∀ (i : Nat) (x y : α), 0 < i → i ≠ p → l[i]? = some x → l[par i]? = some y → lt x y = false
  near : ∀ (i : Nat) (x y : α), 0 < i → 0 < p → par i = p → l[i]? = some x → l[par p]? = some y → lt x y = false
theorem heap_nil : IsHeap lt ([] : List α) := fun i x y _ h => by simp at h
theorem root_least (o : Ord lt) {l : List α} (h : IsHeap lt l) {r : α} (hr : l[0]? = some r) : ∀ (i : Nat) (x : α), l[i]? = some x → lt x r = false := by
  intro i
  induction i using Nat.strongRecOn with
  | ind i ih =>
    intro x hx
    by_cases h0 : i = 0
    · subst h0
      rw [hr] at hx
      cases hx
      exact o.irr _
    · have hp := par_lt (i := i) (by omega)
      have hl := (List.getElem?_eq_some_iff.mp hx).1
      have hy : l[par i]? = some (l[par i]'(by omega)) := List.getElem?_eq_getElem (by omega)
      exact o.cot _ _ _ (h i x _ (by omega) hx hy) (ih _ hp _ hy)
/-- two exchanged -/
def swp (l : List α) (i j : Nat) (x y : α) : List α := (l.set i y).set j x
theorem swp_at {l : List α} {i j : Nat} {x y : α} (hi : i < l.length) (hj : j < l.length) (hij : i ≠ j) (k : Nat) : (swp l i j x y)[k]? = if k = j then some x else if k = i then some y else l[k]? := by
  unfold swp
  rw [List.getElem?_set]
  by_cases h1 : j = k
  · subst h1
    rw [if_pos rfl, if_pos rfl, if_pos (by rw [List.length_set]; exact hj)]
  · rw [if_neg h1, if_neg (fun e => h1 e.symm), List.getElem?_set]
    by_cases h2 : i = k
    · subst h2
      rw [if_pos rfl, if_pos rfl, if_pos hi]
    · rw [if_neg h2, if_neg (fun e => h2 e.symm)]
theorem swp_perm {l : List α} {i j : Nat} {x y : α} (hx : l[i]? = some x) (hy : l[j]? = some y) : (swp l i j x y).Perm l := by
  obtain ⟨hi, rfl⟩ := List.getElem?_eq_some_iff.mp hx
  obtain ⟨hj, rfl⟩ := List.getElem?_eq_some_iff.mp hy
  exact List.set_set_perm hi hj
theorem swp_len {l : List α} {i j : Nat} {x y : α} : (swp l i j x y).length = l.length := by
  unfold swp
  rw [List.length_set, List.length_set]
theorem up_done (l : List α) {p : Nat} (h : Up lt l p) (hp : p = 0 ∨ ∀ x y, l[p]? = some x → l[par p]? = some y → lt x y = false) : IsHeap lt l := by
  intro i x y h0 hx hy
  by_cases e : i = p
  · subst e
    rcases hp with z | z
    · omega
    · exact z x y hx hy
  · exact h.far i x y h0 e hx hy
theorem up_step (o : Ord lt) {l : List α} {p : Nat} {x y : α} (h : Up lt l p) (h0 : 0 < p) (hx : l[p]? = some x) (hy : l[par p]? = some y) (hxy : lt x y = true) : Up lt (swp l (par p) p y x) (par p) := by
  have hpl := par_lt h0
  have hp := (List.getElem?_eq_some_iff.mp hx).1
  have hq : par p < l.length := by omega
  have hat := fun k => swp_at (x := y) (y := x) hq hp (Nat.ne_of_lt hpl) k
  refine ⟨fun i a b hi0 hiq ha hb => ?_, fun i a b hi0 hq0 hpi ha hb => ?_⟩
  · rw [hat] at ha hb
    by_cases e1 : i = p
    · subst e1
      rw [if_pos rfl] at ha
      rw [if_neg (Nat.ne_of_lt hpl), if_pos rfl] at hb
      cases ha
      cases hb
      exact o.asym _ _ hxy
    · rw [if_neg e1, if_neg hiq] at ha
      by_cases e2 : par i = p
      · rw [if_pos e2] at hb
        cases hb
        exact h.near i a y hi0 h0 e2 ha hy
      · rw [if_neg e2] at hb
        by_cases e3 : par i = par p
        · rw [if_pos e3] at hb
          cases hb
          have h1 := h.far i a y hi0 e1 ha (by rw [e3]; exact hy)
          cases h2 : lt a x with
          | false => rfl
          | true =>
            have := o.trans h2 hxy
            rw [h1] at this
            cases this
        · rw [if_neg e3] at hb
          exact h.far i a b hi0 e1 ha hb
  · have hgq := par_lt hq0
    rw [hat] at ha hb
    rw [if_neg (by omega), if_neg (by omega)] at hb
    have hyb : lt y b = false := h.far (par p) y b hq0 (Nat.ne_of_lt hpl) hy hb
    by_cases e1 : i = p
    · rw [if_pos e1] at ha
      cases ha
      exact hyb
    · have hiq : i ≠ par p := by
        have := par_lt hi0
        omega
      rw [if_neg e1, if_neg hiq] at ha
      exact o.cot _ _ _ (h.far i a y hi0 e1 ha (by rw [hpi]; exact hy)) hyb
/-- no child: it may be as if less -/
theorem but_up {l : List α} {p : Nat} (h : But lt l p) (hp : ¬ p < l.length / 2) : Up lt l p := by
  refine ⟨fun i x y h0 hi hx hy => ?_, h.near⟩
  by_cases e : par i = p
  · have := (List.getElem?_eq_some_iff.mp hx).1
    unfold par at e
    omega
  · exact h.far i x y h0 hi e hx hy
/-- the child c, not greater than the other one, goes up -/
theorem but_step (o : Ord lt) {l : List α} {p c : Nat} {x y : α} (h : But lt l p) (hc0 : 0 < c) (hcp : par c = p) (hx : l[c]? = some x) (hy : l[p]? = some y) (hmin : ∀ (i : Nat) (z : α), 0 < i → par i = p → l[i]? = some z → lt z x = false) : But lt (swp l c p x y) c := by
  have hpc : p < c := by have := par_lt hc0; omega
  have hc := (List.getElem?_eq_some_iff.mp hx).1
  have hp : p < l.length := by omega
  have hat := fun k => swp_at (x := x) (y := y) hc hp (Nat.ne_of_gt hpc) k
  refine ⟨fun i a b hi0 hic hpi ha hb => ?_, fun i a b hi0 _ hpi ha hb => ?_⟩
  · rw [hat] at ha hb
    rw [if_neg hic] at ha
    rw [if_neg hpi] at hb
    by_cases e1 : i = p
    · subst e1
      rw [if_pos rfl] at ha
      have hpi0 := par_lt hi0
      rw [if_neg (Nat.ne_of_lt hpi0)] at hb
      cases ha
      exact h.near c x b hc0 hi0 hcp hx hb
    · rw [if_neg e1] at ha
      by_cases e2 : par i = p
      · rw [if_pos e2] at hb
        cases hb
        exact hmin i a hi0 e2 ha
      · rw [if_neg e2] at hb
        exact h.far i a b hi0 e1 e2 ha hb
  · rw [hat] at ha hb
    have hci : c < i := by have := par_lt hi0; omega
    rw [if_neg (by omega), if_neg (by omega)] at ha
    rw [hcp, if_pos rfl] at hb
    cases hb
    exact h.far i a x hi0 (by omega) (by omega) ha (by rw [hpi]; exact hx)
theorem but_of_heap {l : List α} (h : IsHeap lt l) (z : α) : But lt (l.set 0 z) 0 := by
  refine ⟨fun i x y h0 _ hp hx hy => ?_, fun i x y _ h0 => absurd h0 (Nat.lt_irrefl _)⟩
  rw [List.getElem?_set_ne (by omega)] at hx
  rw [List.getElem?_set_ne (fun e => hp e.symm)] at hy
  exact h i x y h0 hx hy
theorem up_of_heap {l : List α} (h : IsHeap lt l) (z : α) : Up lt (l ++ [z]) l.length := by
  refine ⟨fun i x y h0 hi hx hy => ?_, fun i x y h0 hp hpi hx hy => ?_⟩
  · have hl := (List.getElem?_eq_some_iff.mp hx).1
    rw [List.length_append, List.length_singleton] at hl
    have hil : i < l.length := by omega
    have hpl := par_lt h0
    rw [List.getElem?_append_left hil] at hx
    rw [List.getElem?_append_left (by omega)] at hy
    exact h i x y h0 hx hy
  · have hl := (List.getElem?_eq_some_iff.mp hx).1
    rw [List.length_append, List.length_singleton] at hl
    have := par_lt h0
    omega
theorem heap_dropLast {l : List α} (h : IsHeap lt l) : IsHeap lt l.dropLast := by
  intro i x y h0 hx hy
  rw [List.dropLast_eq_take, List.getElem?_take] at hx hy
  split at hx
  · split at hy
    · exact h i x y h0 hx hy
    · cases hy
  · cases hx
end Kp
/-! heappush and heappop of a list of tuples, by their data. -/
namespace Ka
open PySem PySem.Spec PyProof.Rows L2 PySem.W PySem.SeqAt
theorem plain_push : plainId "_heapq.heappush" = true := by decide +kernel
theorem plain_pop : plainId "_heapq.heappop" = true := by decide +kernel
theorem plain_sift : plainId "_heapq.heapify.sift" = true := by decide +kernel
theorem kind_push : builtinKind "_heapq.heappush" = none := by decide +kernel
theorem kind_pop : builtinKind "_heapq.heappop" = none := by decide +kernel
theorem entry_push : entryFor table "_heapq.heappush" = some Builtin.«_heapq.heappush» := entryFor_of_fast (by kernel_rfl)
theorem entry_pop : entryFor table "_heapq.heappop" = some Builtin.«_heapq.heappop» := entryFor_of_fast (by kernel_rfl)
theorem entry_sift : entryFor table "_heapq.heapify.sift" = some Builtin.«_heapq.heapify.sift» := entryFor_of_fast (by kernel_rfl)
theorem args_push (a b : Value) : argsOk "_heapq.heappush" ⟨[a, b], []⟩ := by unfold argsOk; kernel_rfl
theorem args_pop (a : Value) : argsOk "_heapq.heappop" ⟨[a], []⟩ := by unfold argsOk; kernel_rfl
theorem sub_list : isSubtype (.type "list") (.type "list") = pure true := by rw [isSubtype_type]; kernel_rfl
/-- an item with its data -/
abbrev HZ := V × PyData
def hzV (zs : List HZ) : List V := zs.map (·.1)
theorem hzV_len (zs : List HZ) : (hzV zs).length = zs.length := List.length_map _
def hzLt (a b : HZ) : Bool := dataLt a.2 b.2
/-- the data stands so long as the tuples stand -/
def DpS (K : PySem.W.Frag) (H : Hp) (z : HZ) : Prop := ∀ H' : Hp, (∀ b xs, H b = some (.tup xs) → H' b = some (.tup xs)) → Dp K H' z.1 z.2
structure HzOk (K : PySem.W.Frag) (H : Hp) (zs : List HZ) : Prop where
  st : ∀ z ∈ zs, DpS K H z
  al : ∀ z ∈ zs, ∀ y ∈ zs, alike z.2 y.2 = true
  nn : ∀ z ∈ zs, z.2 ≠ .none
  dep : ∀ z ∈ zs, z.2.depth ≤ 50
theorem HzOk.sub {K : PySem.W.Frag} {H : Hp} {zs ys : List HZ} (h : HzOk K H zs) (s : ∀ y ∈ ys, y ∈ zs) : HzOk K H ys :=
  ⟨fun z hz => h.st z (s z hz), fun z hz y hy => h.al z (s z hz) y (s y hy), fun z hz => h.nn z (s z hz), fun z hz => h.dep z (s z hz)⟩
theorem hz_at {zs : List HZ} {its : List Value} (r : Vals (hzV zs) its) {i : Nat} {z : HZ} (h : zs[i]? = some z) : ∃ u, its[i]? = some u ∧ RelV z.1 u := r.get (x := z.1) (by unfold hzV; rw [List.getElem?_map, h]; rfl)
theorem swp_vals {zs : List HZ} {its : List Value} (r : Vals (hzV zs) its) {i j : Nat} {x y : HZ} {u v : Value} (hu : RelV x.1 u) (hv : RelV y.1 v) : Vals (hzV (Kp.swp zs i j x y)) ((its.set i v).set j u) := by
  have := Vals.set hu j (Vals.set hv i r)
  unfold Kp.swp hzV
  rw [List.map_set, List.map_set]
  exact this
section
variable {X : Cx} {pins : List (Addr × Obj)} {σ : L2.St} {H : Hp} {a : Addr} {xs0 : List V}
/-- the heap with the list at a -/
abbrev HL (H : Hp) (a : Addr) (zs : List HZ) : Hp := upd H a (.lst (hzV zs))
theorem HL.lst (zs : List HZ) : HL H a zs a = some (.lst (hzV zs)) := upd_same
theorem hl_tup (ha : H a = some (.lst xs0)) (zs : List HZ) : ∀ b xs, H b = some (.tup xs) → HL H a zs b = some (.tup xs) := fun b xs e => by
  show upd H a _ b = _
  rw [upd_ne (fun q => by rw [q, ha] at e; cases e)]
  exact e
/-- two items compared, at any state on the way -/
theorem hz_less (hu : X.A.units + 64 < cLine) (ha : H a = some (.lst xs0)) {ys zs : List HZ} (ok : HzOk X.K H ys) {s : Shared} (I : Inv X pins σ (HL H a zs) s) {x y : HZ} (hx : x ∈ ys) (hy : y ∈ ys) {u v : Value} (ru : RelV x.1 u) (rv : RelV y.1 v) : RcLt X.A.in1 s u v (hzLt x y) := by
  obtain ⟨as, r1⟩ := Dp.reads I x.2 x.1 u (ok.st x hx _ (hl_tup ha zs)) ru
  obtain ⟨bs, r2⟩ := Dp.reads I y.2 y.1 v (ok.st y hy _ (hl_tup ha zs)) rv
  refine rcLt_alike _ _ _ s u v _ _ r1 r2 (ok.al x hx y hy) (ok.nn x hx) ?_
  have h1 := ok.dep x hx
  have h2 : X.A.in1.units = X.A.units + 1 := rfl
  have := Nat.min_le_left x.2.depth y.2.depth
  omega
theorem hl_obj {zs : List HZ} {s : Shared} (I : Inv X pins σ (HL H a zs) s) : ∃ (its : List Value) (n : Nat), Vals (hzV zs) its ∧ s.heap.get? a = some { cls := .type "list", data := .seq its.toArray n } ∧ (hzV zs).length ≤ sizeLine := I.lst HL.lst'
  where HL.lst' : HL H a zs a = some (.lst (hzV zs)) := upd_same
theorem hl_upd {zs zs' : List HZ} {s : Shared} {its its' : List Value} {n n' : Nat} {f : Obj → Obj} (I : Inv X pins σ (HL H a zs) s) (ho : s.heap.get? a = some { cls := .type "list", data := .seq its.toArray n })
    (hf : f { cls := .type "list", data := .seq its.toArray n } = { cls := .type "list", data := .seq its'.toArray n' }) (r : Vals (hzV zs') its') (hz : (hzV zs').length ≤ sizeLine) : Inv X pins σ (HL H a zs') { s with heap := s.heap.update a f } := by
  have := I.lstUpd (p := a) upd_same ho hf r hz s.toks
  rw [upd_upd] at this
  exact this
theorem hl_set {zs zs' : List HZ} {s : Shared} {its its' : List Value} {n : Nat} {f : Array Value → Array Value} (I : Inv X pins σ (HL H a zs) s) (ho : s.heap.get? a = some { cls := .type "list", data := .seq its.toArray n })
    (hf : f its.toArray = its'.toArray) (r : Vals (hzV zs') its') (hz : (hzV zs').length ≤ sizeLine) : Inv X pins σ (HL H a zs') { s with heap := s.heap.update a (Obj.mapSeq f) } := by
  have := I.lset (l := a) (t' := s.toks) upd_same ho hf r hz
  rw [upd_upd] at this
  exact this
/-- up -/
theorem sift_up (o : Kp.Ord hzLt) (hu : X.A.units + 64 < cLine) (ha : H a = some (.lst xs0)) {ys : List HZ} (ok : HzOk X.K H ys) {result : Value} {R : Result → Shared → Prop} : ∀ (n pos : Nat) (zs : List HZ) (s : Shared), pos ≤ n → pos < zs.length → zs.Perm ys → Inv X pins σ (HL H a zs) s → Kp.Up hzLt zs pos →
    (∀ (zs' : List HZ) (s' : Shared), zs'.Perm ys → Kp.IsHeap hzLt zs' → Inv X pins σ (HL H a zs') s' → R (.ok (.ret result)) s') →
    codeAny (model X.prog X.w) X.A (.builtin "_heapq.heapify.sift" ⟨[.ref a, .bool false, .bool false, rawInt pos, rawInt 0, result, rawInt (-1)], []⟩) R s := by
  intro n
  induction n with
  | zero =>
    intro pos zs s hpn hpl hp I hup hR
    obtain rfl : pos = 0 := by omega
    obtain ⟨its, m, rv, hob, hz⟩ := hl_obj I
    refine codeAny_builtin entry_sift ?_
    rw [Around.under_plainId plain_sift _]
    show wpAny _ X.A.in1 ((seqItems? (.ref a) >>= _) >>= _) _ _ s
    refine wpAny_bind (wpAny_bind (wpAny_seqItems hob rfl ?_))
    refine wpAny_pure ?_
    show wpAny _ X.A.in1 (ret result) _ _ s
    refine wpAny_pure ?_
    exact hR zs s hp (Kp.up_done zs hup (.inl rfl)) I
  | succ n ih =>
    intro pos zs s hpn hpl hp I hup hR
    obtain ⟨its, m, rv, hob, hz⟩ := hl_obj I
    have hlen : its.length = zs.length := by rw [← rv.length, hzV_len]
    refine codeAny_builtin entry_sift ?_
    rw [Around.under_plainId plain_sift _]
    show wpAny _ X.A.in1 ((seqItems? (.ref a) >>= _) >>= _) _ _ s
    refine wpAny_bind (wpAny_bind (wpAny_seqItems hob rfl ?_))
    refine wpAny_pure ?_
    by_cases h0 : pos = 0
    · subst h0
      show wpAny _ X.A.in1 (ret result) _ _ s
      refine wpAny_pure ?_
      exact hR zs s hp (Kp.up_done zs hup (.inl rfl)) I
    · have hq : Kp.par pos < pos := Kp.par_lt (by omega)
      have hx : zs[pos]? = some zs[pos] := List.getElem?_eq_getElem hpl
      have hy : zs[Kp.par pos]? = some (zs[Kp.par pos]'(by omega)) := List.getElem?_eq_getElem (by omega)
      generalize zs[pos] = x at hx
      generalize zs[Kp.par pos]'(by omega) = y at hy
      obtain ⟨u, hu1, ru⟩ := hz_at rv hx
      obtain ⟨v, hv1, rv1⟩ := hz_at rv hy
      have hxm : x ∈ ys := hp.subset (List.mem_of_getElem? hx)
      have hym : y ∈ ys := hp.subset (List.mem_of_getElem? hy)
      show wpAny _ X.A.in1 (if pos > 0 then _ else _) _ _ s
      rw [if_pos (by omega)]
      have e1 : its.toArray[pos]? = some u := by simpa using hu1
      have e2 : its.toArray[(pos - 1) / 2]? = some v := by
        show its.toArray[Kp.par pos]? = some v
        simpa using hv1
      refine wpAny_bind (wpAny_of_eq (a := u) (by show (match its.toArray[pos]? with | some v => (pure v : Sem Value) | none => unsupported _) = _; rw [e1]) ?_)
      refine wpAny_bind (wpAny_of_eq (a := v) (by show (match its.toArray[(pos - 1) / 2]? with | some v => (pure v : Sem Value) | none => unsupported _) = _; rw [e2]) ?_)
      show wpAny _ X.A.in1 ((holding [u, v] (richCompare .Lt u v >>= _) >>= _) >>= _) _ _ s
      refine wpAny_bind (wpAny_bind (wpAny_holding (wpAny_bind (hz_less hu ha ok I hxm hym ru rv1 _ _ _ _ ?_))))
      refine wpAny_truthy_bool ?_
      show wpAny _ X.A.in1 ((seqItems? (.ref a) >>= _) >>= _) _ _ s
      refine wpAny_bind (wpAny_bind (wpAny_seqItems hob rfl ?_))
      refine wpAny_pure ?_
      show wpAny _ X.A.in1 (if (its.toArray.size != its.toArray.size) = true then _ else pure (hzLt x y)) _ _ s
      rw [if_neg (by simp)]
      refine wpAny_pure ?_
      cases hxy : hzLt x y with
      | false =>
        show wpAny _ X.A.in1 (ret result) _ _ s
        refine wpAny_pure ?_
        exact hR zs s hp (Kp.up_done zs hup (.inr fun x' y' hx' hy' => by
          rw [hx] at hx'
          rw [hy] at hy'
          cases hx'
          cases hy'
          exact hxy)) I
      | true =>
        show wpAny _ X.A.in1 (((seqItems? (.ref a) >>= _) >>= _) >>= _) _ _ s
        refine wpAny_bind (wpAny_bind (wpAny_bind (wpAny_seqItems hob rfl ?_)))
        refine wpAny_pure ?_
        refine wpAny_bind (wpAny_of_eq (a := v) (by show (match its.toArray[(pos - 1) / 2]? with | some v => (pure v : Sem Value) | none => unsupported _) = _; rw [e2]) ?_)
        refine wpAny_bind (wpAny_of_eq (a := u) (by show (match its.toArray[pos]? with | some v => (pure v : Sem Value) | none => unsupported _) = _; rw [e1]) ?_)
        refine wpAny_updateSeq hob rfl ?_ (by rw [List.size_toArray, hlen, ← hzV_len]; exact hz) (by rw [Array.size_setIfInBounds, Array.size_setIfInBounds, List.size_toArray, hlen, ← hzV_len]; omega)
        refine wpAny_pure ⟨plainId_quiet plain_sift _, ih (Kp.par pos) (Kp.swp zs (Kp.par pos) pos y x) _ (by omega) (by rw [Kp.swp_len]; omega) ((Kp.swp_perm hy hx).trans hp) ?_ (Kp.up_step o hup (by omega) hx hy hxy) hR⟩
        exact hl_upd (its' := (its.set ((pos - 1) / 2) u).set pos v) (n' := m) I hob (by simp [Obj.mapSeq]) (swp_vals rv rv1 ru) (by rw [hzV_len, Kp.swp_len, ← hzV_len]; exact hz)
theorem par_l (p : Nat) : Kp.par (2 * p + 1) = p := by unfold Kp.par; omega
theorem par_r (p : Nat) : Kp.par (2 * p + 1 + 1) = p := by unfold Kp.par; omega
theorem par_two {i p : Nat} (h0 : 0 < i) (h : Kp.par i = p) : i = 2 * p + 1 ∨ i = 2 * p + 1 + 1 := by unfold Kp.par at h; omega
/-- down -/
theorem sift_down (o : Kp.Ord hzLt) (hu : X.A.units + 64 < cLine) (ha : H a = some (.lst xs0)) {ys : List HZ} (ok : HzOk X.K H ys) {result : Value} {R : Result → Shared → Prop} : ∀ (n pos : Nat) (zs : List HZ) (s : Shared), zs.length ≤ pos + n → pos < zs.length → zs.Perm ys → Inv X pins σ (HL H a zs) s → Kp.But hzLt zs pos →
    (∀ (zs' : List HZ) (s' : Shared), zs'.Perm ys → Kp.IsHeap hzLt zs' → Inv X pins σ (HL H a zs') s' → R (.ok (.ret result)) s') →
    codeAny (model X.prog X.w) X.A (.builtin "_heapq.heapify.sift" ⟨[.ref a, .bool false, .bool true, rawInt pos, rawInt 0, result, rawInt (-1)], []⟩) R s := by
  intro n
  induction n with
  | zero =>
    intro pos zs s hpn hpl
    omega
  | succ n ih =>
    intro pos zs s hpn hpl hp I hbut hR
    obtain ⟨its, m, rv, hob, hz⟩ := hl_obj I
    have hlen : its.length = zs.length := by rw [← rv.length, hzV_len]
    have hsz : its.toArray.size = zs.length := by rw [List.size_toArray, hlen]
    refine codeAny_builtin entry_sift ?_
    rw [Around.under_plainId plain_sift _]
    show wpAny _ X.A.in1 ((seqItems? (.ref a) >>= _) >>= _) _ _ s
    refine wpAny_bind (wpAny_bind (wpAny_seqItems hob rfl ?_))
    refine wpAny_pure ?_
    show wpAny _ X.A.in1 (if pos < its.toArray.size / 2 then _ else _) _ _ s
    by_cases hh : pos < zs.length / 2
    · rw [if_pos (by rw [hsz]; exact hh)]
      have hll : 2 * pos + 1 < zs.length := by omega
      have hyp : zs[pos]? = some zs[pos] := List.getElem?_eq_getElem hpl
      generalize zs[pos] = y at hyp
      obtain ⟨v, hv1, rvy⟩ := hz_at rv hyp
      have ey : its.toArray[pos]? = some v := by simpa using hv1
      -- the swap, once the child is known
      have swap : ∀ (c : Nat) (x : HZ) (jp : Unit → Nat → Sem Fin), 0 < c → Kp.par c = pos → zs[c]? = some x → (∀ (i : Nat) (z : HZ), 0 < i → Kp.par i = pos → zs[i]? = some z → hzLt z x = false) →
          ∀ (u : Value), its.toArray[c]? = some u → RelV x.1 u →
          ∃ s' : Shared, s' = { s with heap := s.heap.update a (Obj.mapSeq fun xs => (xs.setIfInBounds c v).setIfInBounds pos u) } ∧ Inv X pins σ (HL H a (Kp.swp zs c pos x y)) s' ∧
            codeAny (model X.prog X.w) X.A (.builtin "_heapq.heapify.sift" ⟨[.ref a, .bool false, .bool true, rawInt c, rawInt 0, result, rawInt (-1)], []⟩) R s' := by
        intro c x _ hc0 hcp hxc hmin u hu1 ru
        have hcl := (List.getElem?_eq_some_iff.mp hxc).1
        have hlt : pos < c := by have := Kp.par_lt hc0; omega
        have I' : Inv X pins σ (HL H a (Kp.swp zs c pos x y)) { s with heap := s.heap.update a (Obj.mapSeq fun xs => (xs.setIfInBounds c v).setIfInBounds pos u) } :=
          hl_upd (its' := (its.set c v).set pos u) (n' := m) I hob (by simp [Obj.mapSeq]) (swp_vals rv ru rvy) (by rw [hzV_len, Kp.swp_len, ← hzV_len]; exact hz)
        exact ⟨_, rfl, I', ih c _ _ (by rw [Kp.swp_len]; omega) (by rw [Kp.swp_len]; exact hcl) ((Kp.swp_perm hxc hyp).trans hp) I' (Kp.but_step o hbut hc0 hcp hxc hyp hmin) hR⟩
      have hxl : zs[2 * pos + 1]? = some zs[2 * pos + 1] := List.getElem?_eq_getElem hll
      generalize zs[2 * pos + 1] = xl at hxl
      obtain ⟨ul, hul, rul⟩ := hz_at rv hxl
      have el : its.toArray[2 * pos + 1]? = some ul := by simpa using hul
      show wpAny _ X.A.in1 (if 2 * pos + 1 + 1 < its.toArray.size then _ else _) _ _ s
      by_cases hr : 2 * pos + 1 + 1 < zs.length
      · rw [if_pos (by rw [hsz]; exact hr)]
        have hxr : zs[2 * pos + 1 + 1]? = some zs[2 * pos + 1 + 1] := List.getElem?_eq_getElem hr
        generalize zs[2 * pos + 1 + 1] = xr at hxr
        obtain ⟨ur, hur, rur⟩ := hz_at rv hxr
        have er : its.toArray[2 * pos + 1 + 1]? = some ur := by simpa using hur
        have hlm : xl ∈ ys := hp.subset (List.mem_of_getElem? hxl)
        have hrm : xr ∈ ys := hp.subset (List.mem_of_getElem? hxr)
        refine wpAny_bind (wpAny_of_eq (a := ul) (by show (match its.toArray[2 * pos + 1]? with | some v => (pure v : Sem Value) | none => unsupported _) = _; rw [el]) ?_)
        refine wpAny_bind (wpAny_of_eq (a := ur) (by show (match its.toArray[2 * pos + 1 + 1]? with | some v => (pure v : Sem Value) | none => unsupported _) = _; rw [er]) ?_)
        show wpAny _ X.A.in1 ((holding [ul, ur] (richCompare .Lt ul ur >>= _) >>= _) >>= _) _ _ s
        refine wpAny_bind (wpAny_bind (wpAny_holding (wpAny_bind (hz_less hu ha ok I hlm hrm rul rur _ _ _ _ ?_))))
        refine wpAny_truthy_bool ?_
        show wpAny _ X.A.in1 ((seqItems? (.ref a) >>= _) >>= _) _ _ s
        refine wpAny_bind (wpAny_bind (wpAny_seqItems hob rfl ?_))
        refine wpAny_pure ?_
        show wpAny _ X.A.in1 (if (its.toArray.size != its.toArray.size) = true then _ else pure (hzLt xl xr)) _ _ s
        rw [if_neg (by simp)]
        refine wpAny_pure ?_
        cases hlr : hzLt xl xr with
        | true =>
          obtain ⟨s', rfl, I', hC⟩ := swap (2 * pos + 1) xl (fun _ _ => ret result) (by omega) (par_l pos) hxl (fun i z hi0 hip hz' => by
            rcases par_two hi0 hip with rfl | rfl
            · rw [hxl] at hz'
              cases hz'
              exact o.irr _
            · rw [hxr] at hz'
              cases hz'
              exact o.asym _ _ hlr) ul el rul
          show wpAny _ X.A.in1 (((seqItems? (.ref a) >>= _) >>= _) >>= _) _ _ s
          refine wpAny_bind (wpAny_bind (wpAny_bind (wpAny_seqItems hob rfl ?_)))
          refine wpAny_pure ?_
          refine wpAny_bind (wpAny_of_eq (a := ul) (by show (match its.toArray[2 * pos + 1]? with | some v => (pure v : Sem Value) | none => unsupported _) = _; rw [el]) ?_)
          refine wpAny_bind (wpAny_of_eq (a := v) (by show (match its.toArray[pos]? with | some v => (pure v : Sem Value) | none => unsupported _) = _; rw [ey]) ?_)
          refine wpAny_updateSeq hob rfl ?_ (by rw [List.size_toArray, hlen, ← hzV_len]; exact hz) (by rw [Array.size_setIfInBounds, Array.size_setIfInBounds, List.size_toArray, hlen, ← hzV_len]; omega)
          exact wpAny_pure ⟨plainId_quiet plain_sift _, hC⟩
        | false =>
          obtain ⟨s', rfl, I', hC⟩ := swap (2 * pos + 1 + 1) xr (fun _ _ => ret result) (by omega) (par_r pos) hxr (fun i z hi0 hip hz' => by
            rcases par_two hi0 hip with rfl | rfl
            · rw [hxl] at hz'
              cases hz'
              exact hlr
            · rw [hxr] at hz'
              cases hz'
              exact o.irr _) ur er rur
          show wpAny _ X.A.in1 (((seqItems? (.ref a) >>= _) >>= _) >>= _) _ _ s
          refine wpAny_bind (wpAny_bind (wpAny_bind (wpAny_seqItems hob rfl ?_)))
          refine wpAny_pure ?_
          refine wpAny_bind (wpAny_of_eq (a := ur) (by show (match its.toArray[2 * pos + 1 + 1]? with | some v => (pure v : Sem Value) | none => unsupported _) = _; rw [er]) ?_)
          refine wpAny_bind (wpAny_of_eq (a := v) (by show (match its.toArray[pos]? with | some v => (pure v : Sem Value) | none => unsupported _) = _; rw [ey]) ?_)
          refine wpAny_updateSeq hob rfl ?_ (by rw [List.size_toArray, hlen, ← hzV_len]; exact hz) (by rw [Array.size_setIfInBounds, Array.size_setIfInBounds, List.size_toArray, hlen, ← hzV_len]; omega)
          exact wpAny_pure ⟨plainId_quiet plain_sift _, hC⟩
      · rw [if_neg (by rw [hsz]; exact hr)]
        obtain ⟨s', rfl, I', hC⟩ := swap (2 * pos + 1) xl (fun _ _ => ret result) (by omega) (par_l pos) hxl (fun i z hi0 hip hz' => by
          rcases par_two hi0 hip with rfl | rfl
          · rw [hxl] at hz'
            cases hz'
            exact o.irr _
          · have := (List.getElem?_eq_some_iff.mp hz').1
            omega) ul el rul
        show wpAny _ X.A.in1 (((seqItems? (.ref a) >>= _) >>= _) >>= _) _ _ s
        refine wpAny_bind (wpAny_bind (wpAny_bind (wpAny_seqItems hob rfl ?_)))
        refine wpAny_pure ?_
        refine wpAny_bind (wpAny_of_eq (a := ul) (by show (match its.toArray[2 * pos + 1]? with | some v => (pure v : Sem Value) | none => unsupported _) = _; rw [el]) ?_)
        refine wpAny_bind (wpAny_of_eq (a := v) (by show (match its.toArray[pos]? with | some v => (pure v : Sem Value) | none => unsupported _) = _; rw [ey]) ?_)
        refine wpAny_updateSeq hob rfl ?_ (by rw [List.size_toArray, hlen, ← hzV_len]; exact hz) (by rw [Array.size_setIfInBounds, Array.size_setIfInBounds, List.size_toArray, hlen, ← hzV_len]; omega)
        exact wpAny_pure ⟨plainId_quiet plain_sift _, hC⟩
    · rw [if_neg (by rw [hsz]; exact hh)]
      show wpAny _ X.A.in1 (again _) _ _ s
      refine wpAny_pure ⟨plainId_quiet plain_sift _, sift_up o hu ha ok pos pos zs s (Nat.le_refl _) hpl hp I (Kp.but_up hbut hh) hR⟩
theorem hz_ord : Kp.Ord hzLt where
  asym := fun a b h => by
    unfold hzLt dataLt at *
    cases h2 : PyProof.Rows.lexLt itemOrd (keyToks b.2) (keyToks a.2) with
    | false => rfl
    | true =>
      have := lex_trans _ _ _ h h2
      rw [lex_irrefl] at this
      cases this
  cot := fun a b c h1 h2 => by
    unfold hzLt dataLt at *
    cases h3 : PyProof.Rows.lexLt itemOrd (keyToks a.2) (keyToks c.2) with
    | false => rfl
    | true =>
      rcases lex_negTrans _ (keyToks b.2) _ h3 with z | z
      · rw [h1] at z
        cases z
      · rw [h2] at z
        cases z
/-- heappush(l, x) -/
def rPush (K : PySem.W.Frag) : List V → Hp → VK → Prop := fun vs H Q => ∃ (a : Addr) (z : HZ) (zs : List HZ), vs = [.ref a, z.1] ∧ H a = some (.lst (hzV zs)) ∧ HzOk K H (zs ++ [z]) ∧ zs.length < 1000000 ∧ Kp.IsHeap hzLt zs ∧
  ∀ ys, ys.Perm (zs ++ [z]) → Kp.IsHeap hzLt ys → Q .non (upd H a (.lst (hzV ys)))
theorem cr_push (hu : X.A.units + 64 < cLine) : CallR X (.builtin "_heapq.heappush") (rPush X.K) := by
  intro pins s σ H vs us Q I r h
  obtain ⟨a, z, zs, rfl, ha, ok, hlen, hh, q⟩ := h
  obtain ⟨u1, u, rfl, r1, ru⟩ := vals2 r
  cases (show u1 = Value.ref a from r1)
  have h0 : upd H a (.lst (hzV zs)) = H := by
    funext b
    by_cases e : b = a
    · rw [e, upd_same, ha]
    · rw [upd_ne e]
  have I0 : Inv X pins σ (HL H a zs) s := by
    show Inv X pins σ (upd H a (.lst (hzV zs))) s
    rw [h0]
    exact I
  obtain ⟨its, m, rv, hob, hz⟩ := hl_obj I0
  have hil : its.length = zs.length := by rw [← rv.length, hzV_len]
  refine call_function_tree kind_push plain_push entry_push (args_push _ _) ?_
  show wpAny _ X.A.in1 ((noKeywords "_heapq.heappush" ⟨[.ref a, u], []⟩ >>= _) >>= _) _ _ s
  refine wpAny_bind (wpAny_bind (wpAny_of_eq (show noKeywords "_heapq.heappush" ⟨[.ref a, u], []⟩ = pure () from rfl) ?_))
  refine wpAny_bind (wpAny_of_eq (show checkCount "heappush" 2 2 ([.ref a, u] : List Value).length = pure () from rfl) ?_)
  show wpAny _ X.A.in1 ((isInstance (.ref a) (.type "list") >>= _) >>= _) _ _ s
  refine wpAny_bind (wpAny_bind (wpAny_isInstance (T := "list") (b := true) ⟨_, hob, rfl⟩ sub_list ?_))
  show wpAny _ X.A.in1 (pure a) _ _ s
  refine wpAny_pure (wpAny_pure ?_)
  show wpAny _ X.A.in1 (updateSeq a (·.push u) >>= _) _ _ s
  refine wpAny_bind (wpAny_updateSeq hob rfl ?_ (by rw [List.size_toArray, hil, ← hzV_len]; exact hz) (by rw [Array.size_push, List.size_toArray, hil, ← hzV_len]; omega))
  have l6 : zs.length + 1 ≤ sizeLine := by rw [sizeLine_eq]; omega
  have I1 : Inv X pins σ (HL H a (zs ++ [z])) { s with heap := s.heap.update a (Obj.mapSeq (·.push u)) } :=
    hl_set (its' := its ++ [u]) I0 hob (by simp) (by unfold hzV; rw [List.map_append]; exact rv.append (.cons ru .nil)) (by rw [hzV_len, List.length_append, List.length_singleton]; exact l6)
  obtain ⟨its1, m1, rv1, hob1, hz1⟩ := hl_obj I1
  have hil1 : its1.length = zs.length + 1 := by rw [← rv1.length, hzV_len, List.length_append, List.length_singleton]
  show wpAny _ X.A.in1 (((seqItems? (.ref a) >>= _) >>= _)) _ _ _
  refine wpAny_bind (wpAny_bind (wpAny_seqItems hob1 rfl ?_))
  refine wpAny_pure ?_
  show wpAny _ X.A.in1 (again (.builtin "_heapq.heapify.sift" ⟨[.ref a, .bool false, .bool false, rawInt ((its1.toArray.size - 1 : Nat)), rawInt ((0 : Nat)), .none, rawInt (-1)], []⟩)) _ _ _
  have hsz1 : its1.toArray.size - 1 = zs.length := by
    rw [List.size_toArray, hil1]
    omega
  rw [hsz1]
  refine wpAny_pure ⟨plainId_quiet plain_sift _, sift_up hz_ord hu ha ok zs.length zs.length (zs ++ [z]) _ (Nat.le_refl _) (by rw [List.length_append, List.length_singleton]; omega) (List.Perm.refl _) I1 (Kp.up_of_heap hh z) fun ys s' hp hh' I' => ?_⟩
  exact ⟨.non, _, I', rfl, q ys hp hh'⟩
/-- heappop(l), l not empty -/
def rPop (K : PySem.W.Frag) : List V → Hp → VK → Prop := fun vs H Q => ∃ (a : Addr) (zs : List HZ), vs = [.ref a] ∧ H a = some (.lst (hzV zs)) ∧ HzOk K H zs ∧ 0 < zs.length ∧ Kp.IsHeap hzLt zs ∧
  ∀ (z : HZ) (ys : List HZ), zs.Perm (z :: ys) → Kp.IsHeap hzLt ys → (∀ y ∈ ys, hzLt y z = false) → Q z.1 (upd H a (.lst (hzV ys)))
theorem cr_pop (hu : X.A.units + 64 < cLine) : CallR X (.builtin "_heapq.heappop") (rPop X.K) := by
  intro pins s σ H vs us Q I r h
  obtain ⟨a, zs, rfl, ha, ok, hpos, hh, q⟩ := h
  rw [Vals.ref1 r]
  have h0 : upd H a (.lst (hzV zs)) = H := by
    funext b
    by_cases e : b = a
    · rw [e, upd_same, ha]
    · rw [upd_ne e]
  have I0 : Inv X pins σ (HL H a zs) s := by
    show Inv X pins σ (upd H a (.lst (hzV zs))) s
    rw [h0]
    exact I
  obtain ⟨its, m, rv, hob, hz⟩ := hl_obj I0
  have hil : its.length = zs.length := by rw [← rv.length, hzV_len]
  have hxl : zs[zs.length - 1]? = some (zs[zs.length - 1]'(by omega)) := List.getElem?_eq_getElem (by omega)
  generalize zs[zs.length - 1]'(by omega) = zl at hxl
  obtain ⟨ul, hul, rul⟩ := hz_at rv hxl
  have hx0 : zs[0]? = some (zs[0]'hpos) := List.getElem?_eq_getElem hpos
  generalize zs[0]'hpos = z0 at hx0
  obtain ⟨u0, hu0, ru0⟩ := hz_at rv hx0
  have hback : its.toArray.back? = some ul := by
    rw [Array.back?_eq_getElem?]
    simp only [List.size_toArray, List.getElem?_toArray]
    rw [hil]
    exact hul
  have hroot := Kp.root_least hz_ord hh hx0
  refine call_function_tree kind_pop plain_pop entry_pop (args_pop _) ?_
  show wpAny _ X.A.in1 ((oneArg "_heapq.heappop" ⟨[.ref a], []⟩ >>= _) >>= _) _ _ s
  refine wpAny_bind (wpAny_bind (wpAny_of_eq (show oneArg "_heapq.heappop" ⟨[.ref a], []⟩ = pure (.ref a) from rfl) ?_))
  show wpAny _ X.A.in1 ((isInstance (.ref a) (.type "list") >>= _) >>= _) _ _ s
  refine wpAny_bind (wpAny_bind (wpAny_isInstance (T := "list") (b := true) ⟨_, hob, rfl⟩ sub_list ?_))
  show wpAny _ X.A.in1 (pure a) _ _ s
  refine wpAny_pure (wpAny_pure ?_)
  show wpAny _ X.A.in1 ((seqItems? (.ref a) >>= _) >>= _) _ _ s
  refine wpAny_bind (wpAny_bind (wpAny_seqItems hob rfl ?_))
  refine wpAny_pure ?_
  simp only [hback]
  have hlz : (hzV zs).length = zs.length := hzV_len zs
  refine wpAny_bind (wpAny_updateSeq hob rfl ?_ (by rw [List.size_toArray, hil, ← hzV_len]; exact hz) (by rw [Array.size_pop, List.size_toArray, hil]; omega))
  have I1 : Inv X pins σ (HL H a zs.dropLast) { s with heap := s.heap.update a (Obj.mapSeq (·.pop)) } :=
    hl_set (its' := its.dropLast) I0 hob (by simp) (by unfold hzV; rw [List.map_dropLast, List.dropLast_eq_take, List.dropLast_eq_take, List.length_map, hil]; exact rv.take _) (by rw [hzV_len, List.length_dropLast]; omega)
  obtain ⟨its1, m1, rv1, hob1, hz1⟩ := hl_obj I1
  by_cases h1 : zs.length = 1
  · rw [if_pos (by rw [List.size_toArray, hil, h1]; rfl)]
    match zs, h1, hxl, q, I1 with
    | [z], _, hxl, q, I1 =>
      cases hxl
      refine wpAny_pure ⟨zl.1, _, I1, rul, ?_⟩
      exact q zl [] (List.Perm.refl _) Kp.heap_nil fun y hy => nomatch hy
  · rw [if_neg (by rw [List.size_toArray, hil]; simpa using h1)]
    obtain ⟨mid, hmid⟩ : ∃ mid, zs = z0 :: (mid ++ [zl]) := by
      match zs, h1, hx0, hxl with
      | [], _, hx0, _ => cases hx0
      | x :: rest, h1, hx0, hxl =>
        cases hx0
        have hr : rest ≠ [] := fun e => h1 (by rw [e]; rfl)
        refine ⟨rest.dropLast, ?_⟩
        have hg : rest.getLast hr = zl := by
          have : (z0 :: rest)[(z0 :: rest).length - 1]? = some (rest.getLast hr) := by
            rw [List.length_cons, Nat.add_sub_cancel]
            cases rest with
            | nil => exact absurd rfl hr
            | cons y t =>
              rw [List.length_cons, List.getElem?_cons_succ, List.getLast_eq_getElem]
              simp
          rw [hxl] at this
          exact (Option.some.inj this).symm
        rw [← hg, List.dropLast_concat_getLast]
    have e0 : its.toArray[0]? = some u0 := by simpa using hu0
    refine wpAny_bind (wpAny_of_eq (a := u0) (by show (match its.toArray[0]? with | some v => (pure v : Sem Value) | none => unsupported _) = _; rw [e0]) ?_)
    have hil1 : its1.length = zs.dropLast.length := by rw [← rv1.length, hzV_len]
    refine wpAny_bind (wpAny_updateSeq hob1 rfl ?_ (by rw [List.size_toArray, hil1, ← hzV_len]; exact hz1) (by rw [Array.size_setIfInBounds, List.size_toArray, hil1, ← hzV_len]; omega))
    have hdl : zs.dropLast = z0 :: mid := by
      rw [hmid, ← List.cons_append, List.dropLast_concat]
    have hset : zs.dropLast.set 0 zl = zl :: mid := by rw [hdl]; rfl
    have hperm : (zl :: mid).Perm (zl :: mid) := List.Perm.refl _
    have hsub : ∀ y ∈ zl :: mid, y ∈ zs := fun y hy => by
      rw [hmid]
      rcases List.mem_cons.mp hy with e | e
      · rw [e]
        exact List.mem_cons_of_mem _ (List.mem_append_right _ List.mem_cons_self)
      · exact List.mem_cons_of_mem _ (List.mem_append_left _ e)
    have I2 := hl_set (zs' := zl :: mid) (its' := its1.set 0 ul) (f := fun xs => xs.setIfInBounds 0 ul) I1 hob1 (by simp) (by rw [← hset]; unfold hzV; rw [List.map_set]; exact Vals.set rul 0 rv1) (by rw [hzV_len, ← hset, List.length_set, ← hzV_len]; exact hz1)
    have hbut : Kp.But hzLt (zl :: mid) 0 := by
      rw [← hset]
      exact Kp.but_of_heap (Kp.heap_dropLast hh) zl
    refine wpAny_pure ⟨plainId_quiet plain_sift _, sift_down hz_ord hu ha (ok.sub hsub) (zl :: mid).length 0 (zl :: mid) _ (by omega) (Nat.succ_pos _) hperm I2 hbut fun ys s' hp hh' I' => ?_⟩
    refine ⟨z0.1, _, I', ru0, q z0 ys ?_ hh' fun y hy => ?_⟩
    · rw [hmid]
      refine List.Perm.cons _ ?_
      exact (List.perm_append_comm (l₁ := mid) (l₂ := [zl])).trans hp.symm
    · obtain ⟨i, hi⟩ := List.mem_iff_getElem?.mp (hsub y (hp.subset hy))
      exact hroot i y hi
end
end Ka
/-! sorted(l) of a list of tuples by their data; sorted(d) of a dict whose keys are tuples. -/
namespace Ka
open PySem PySem.Spec PyProof.Rows L2 PySem.W PySem.SeqAt
def hzLe (a b : HZ) : Bool := !hzLt b a
theorem hz_each : ∀ {zs : List HZ} {us : List Value}, Vals (hzV zs) us → EachIs (fun v (b : HZ) => RelV b.1 v) us zs
  | [], _, r => by
    cases r
    exact .nil
  | x :: zs, _, r => by
    cases r with
    | cons a b => exact .cons a (hz_each b)
theorem each_hz : ∀ {zs : List HZ} {us : List Value}, EachIs (fun v (b : HZ) => RelV b.1 v) us zs → Vals (hzV zs) us
  | _, _, .nil => .nil
  | _, _, .cons h t => .cons h (each_hz t)
def rSortG (K : PySem.W.Frag) : List V → Hp → VK → Prop := fun vs H Q => ∃ (a : Addr) (zs : List HZ), vs = [V.ref a] ∧ SqL K H a (hzV zs) ∧ (∀ z ∈ zs, Dp K H z.1 z.2) ∧ (∀ z ∈ zs, ∀ y ∈ zs, alike z.2 y.2 = true) ∧ (∀ z ∈ zs, ∃ x r, z.2 = .tuple (x :: r)) ∧ (∀ z ∈ zs, z.2.depth ≤ 50) ∧
  ∀ p, H p = none → Q (.ref p) (upd H p (.lst (hzV (zs.mergeSort hzLe))))
theorem cr_sortG {X : Cx} (hu : X.A.units + 64 < cLine) : CallR X (.builtin "sorted") (rSortG X.K) := by
  intro pins s σ H vs us Q I r h
  obtain ⟨a, zs, rfl, hs, hr, hal, ht, hdep, q⟩ := h
  obtain ⟨its, rv, hl, hz⟩ := I.list hs
  rw [Vals.ref1 r]
  rw [hzV_len] at hz
  have e := hz_each rv
  have er : EachIs (fun v (b : HZ) => ∃ as, Reads s.heap v b.2 as) its zs := (each_mem e).mono fun v b ⟨ev, hm⟩ => Dp.reads I b.2 b.1 v (hr b hm) ev
  refine sorted_data (enc := fun r : HZ => r.2) hl.isList e er (fun d hd d' hd' => ?_) (.inl fun d hd => ?_) hz (fun b hb => ?_) fun out hol eo => ?_
  · obtain ⟨r, h1, rfl⟩ := List.mem_map.mp hd
    obtain ⟨q, h2, rfl⟩ := List.mem_map.mp hd'
    exact hal r h1 q h2
  · obtain ⟨r, hm, rfl⟩ := List.mem_map.mp hd
    exact ht r hm
  · have := hdep b hb
    omega
  · obtain ⟨ep, he'⟩ := PyProof.Rows.sortedAll_at s.heap its out.toArray
    have hle : (hzV (zs.mergeSort hzLe)).length ≤ sizeLine := by
      rw [hzV_len, List.length_mergeSort]
      exact hz
    exact ⟨.ref _, upd H (s.heap.objs.size + 1) (.lst (hzV (zs.mergeSort hzLe))), I.laid (t' := s.toks) (fun _ _ => PyProof.Rows.sortedAll_old) (Nat.le_succ _) ⟨hle, out, ep, each_hz eo, he'⟩, rfl, q _ (I.hok.fresh (Nat.le_succ _))⟩
/-! ### keys that are tuples -/
def keyD : L2.Key → PyData
  | .inl i => .int i
  | .inr x => .str x
def keysD (k : List L2.Key) : PyData := .tuple (k.map keyD)
def kLe (a b : List L2.Key) : Bool := !dataLt (keysD b) (keysD a)
theorem depth_keys : ∀ k : List L2.Key, PyData.depthAll (k.map keyD) ≤ 1
  | [] => by simp [PyData.depthAll]
  | x :: k => by
    have := depth_keys k
    rw [List.map_cons]
    simp only [PyData.depthAll]
    have : (keyD x).depth ≤ 1 := by cases x <;> simp [keyD, PyData.depth]
    omega
theorem depth_keysD (k : List L2.Key) : (keysD k).depth ≤ 2 := by
  have := depth_keys k
  unfold keysD
  simp only [PyData.depth]
  omega
theorem reads_keys {h : Heap} : ∀ {k : List L2.Key} {us : List Value}, Vals (k.map kV) us → ReadsAll h us (k.map keyD) []
  | [], _, r => by
    cases r
    exact .nil
  | x :: k, _, r => by
    rw [List.map_cons] at r
    cases r with
    | cons a b =>
      cases x with
      | inl i =>
        obtain ⟨t, rfl⟩ := a
        exact .cons (as := []) (bs := []) (.int i t) (reads_keys b)
      | inr z =>
        obtain ⟨t, rfl⟩ := a
        exact .cons (as := []) (bs := []) (.str z t) (reads_keys b)
/-- a key at its place -/
abbrev KR := Addr × List L2.Key
theorem krs_of {H : Hp} {kvs : List (List L2.Key × V)} {xs : List (List L2.Key × Addr × Value)} (r : KT H kvs xs) :
    ∃ rs : List KR, rs.map (·.2) = kvs.map (·.1) ∧ rs.map (·.1) = xs.map (fun x => x.2.1) ∧ ∀ r ∈ rs, H r.1 = some (.tup (r.2.map kV)) := by
  induction r with
  | nil => exact ⟨[], rfl, rfl, fun r h => by cases h⟩
  | @cons p q ps qs hq t ih =>
    obtain ⟨rs, h1, h2, h3⟩ := ih
    refine ⟨(q.2.1, p.1) :: rs, by rw [List.map_cons, h1]; rfl, by rw [List.map_cons, List.map_cons, h2], fun r hr => ?_⟩
    rcases List.mem_cons.mp hr with e | hr
    · subst e
      exact hq.2.1
    · exact h3 r hr
theorem kr_each {rs : List KR} {us : List Value} (e : EachIs (fun v (b : KR) => v = Value.ref b.1) us rs) : Vals (rs.map fun r => V.ref r.1) us := by
  induction e with
  | nil => exact .nil
  | cons h t ih =>
    subst h
    exact .cons rfl ih
def rSortT : List V → Hp → VK → Prop := fun vs H Q => ∃ (a : Addr) (kvs : List (List L2.Key × V)), vs = [.ref a] ∧ Rd H a (.dT kvs) ∧ (∀ x ∈ kvs, ∀ y ∈ kvs, alike (keysD x.1) (keysD y.1) = true) ∧ (∀ x ∈ kvs, x.1 ≠ []) ∧
  ∀ (rs : List KR) (p : Addr), rs.map (·.2) = (kvs.map (·.1)).mergeSort kLe → (∀ r ∈ rs, H r.1 = some (.tup (r.2.map kV))) → H p = none → Q (.ref p) (upd H p (.lst (rs.map fun r => V.ref r.1)))
theorem cr_sortT {X : Cx} (hc : X.calm = true) (hu : X.A.units + 64 < cLine) : CallR X (.builtin "sorted") rSortT := by
  intro pins s σ H vs us Q I r h
  obtain ⟨a, kvs, rfl, hd, halk, hne, q⟩ := h
  obtain rfl := Vals.ref1 r
  obtain ⟨z, lo, xs, rel, o, es, ep, ho, hx, hdat, hes, hno⟩ := (show ObjOk X.prog X.w H s.heap a (.dT kvs) from hd.ok I.hok)
  obtain ⟨rs, h1, h2, h3⟩ := krs_of rel
  have hlen : rs.length = es.size := by
    have e1 := congrArg List.length h2
    have e2 := congrArg List.length hes
    rw [List.length_map, List.length_map] at e1
    rw [Array.length_toList, List.length_map] at e2
    omega
  have hz : rs.length ≤ sizeLine := by
    have e1 := congrArg List.length h2
    have e2 := Paired.length rel
    rw [List.length_map, List.length_map] at e1
    omega
  have hmem : ∀ r ∈ rs, ∃ x ∈ kvs, x.1 = r.2 := fun r hr => by
    have : r.2 ∈ kvs.map (·.1) := by rw [← h1]; exact List.mem_map.mpr ⟨r, hr, rfl⟩
    obtain ⟨x, hx, e⟩ := List.mem_map.mp this
    exact ⟨x, hx, e⟩
  have hall : AllAlike (rs.map fun r => keysD r.2) := fun d hd d' hd' => by
    obtain ⟨r, hr, rfl⟩ := List.mem_map.mp hd
    obtain ⟨r', hr', rfl⟩ := List.mem_map.mp hd'
    obtain ⟨x, hx, e⟩ := hmem r hr
    obtain ⟨y, hy, e'⟩ := hmem r' hr'
    rw [← e, ← e']
    exact halk x hx y hy
  have hso : Sortable (rs.map fun r => keysD r.2) := .inl fun d hd => by
    obtain ⟨r, hr, rfl⟩ := List.mem_map.mp hd
    obtain ⟨x, hx, e⟩ := hmem r hr
    have := hne x hx
    rw [e] at this
    cases h : r.2 with
    | nil => exact absurd h this
    | cons y l => exact ⟨keyD y, l.map keyD, rfl⟩
  have raw : s.heap.DictRaw a es ep := ⟨o, ho, hx, hdat⟩
  refine Calls.call_function_entry PyProof.Rows.kind_sorted PyProof.Rows.plain_sorted PyProof.Rows.entry_sorted (PyProof.Rows.args_sorted1 _) ?_
  unfold Builtin.«sorted»
  refine wpAny_bind (m := checkCount "sorted" 1 1 _) (wpAny_pure ?_)
  refine wpAny_bind (kdu_collect (A := X.A.in1) (KdlSrc.rawDict (es := es) (ep := ep) lo) (I.ok.hd hc) raw (by omega) fun h' tk acc hkp hacc => ?_)
  have hal : acc.toList.length = rs.length := by rw [Array.length_toList, hacc.1, hlen]
  have each : EachIs (fun v (b : KR) => v = Value.ref b.1) acc.toList rs := by
    refine EachIs.of_zip hal fun p hp => ?_
    obtain ⟨i, hi⟩ := List.getElem?_of_mem hp
    rw [List.getElem?_zip_eq_some] at hi
    obtain ⟨hia, hib⟩ := hi
    obtain ⟨hsz, ev⟩ := hacc.2 i p.1 (by rw [← Array.getElem?_toList]; exact hia)
    have e1 : (rs.map (·.1))[i]? = some p.2.1 := by rw [List.getElem?_map, hib]; rfl
    have e2 : es.toList[i]? = some es[i] := by rw [Array.getElem?_toList, Array.getElem?_eq_getElem hsz]
    rw [h2, List.getElem?_map] at e1
    rw [hes, List.getElem?_map] at e2
    cases ex : xs[i]? with
    | none =>
      rw [ex] at e1
      cases e1
    | some x =>
      rw [ex] at e1 e2
      have e1' : x.2.1 = p.2.1 := Option.some.inj e1
      have e2' := Option.some.inj e2
      rw [ev, ← e2', ← e1']
      rfl
  have I1 : Inv X pins σ H { s with heap := h', toks := tk } := I.kept hkp
  refine wpAny_bind (wpAny_newList ?_ (by omega))
  have hoL : (h'.push (seqObj "list" acc.toList.toArray 0)).get? h'.objs.size = some (seqObj "list" acc.toList.toArray 0) := Heap.get?_push_size _ rfl
  have ne : ∀ {b : Addr} {o : Obj}, s.heap.get? b = some o → b ≠ h'.objs.size := fun e => Nat.ne_of_lt (Heap.lt_size (hkp _ _ e))
  refine wpAny_bind (wpAny_holding ?_)
  show wpAny (model X.prog X.w) X.A.in1 (call (.builtin "list.sort") [.ref h'.objs.size]) _ _ { s with heap := h'.push (seqObj "list" acc.toList.toArray 0), toks := tk }
  have er : EachIs (fun v (b : KR) => ∃ as, Reads (h'.push (seqObj "list" acc.toList.toArray 0)) v (keysD b.2) as ∧ h'.objs.size ∉ as) acc.toList rs := (each_mem each).mono fun v b ⟨ev, hm⟩ => by
    subst ev
    obtain ⟨its', rv', ht, hz'⟩ := I.tuple (.inl (.inl (h3 b hm)))
    obtain ⟨o2, ho2, hc2, n2, hd2⟩ := ht
    refine ⟨_, Reads.tuple (Heap.get?_push_of_some _ (hkp _ _ ho2)) hc2 hd2 (reads_keys rv'), fun hmm => ?_⟩
    have hb := Heap.lt_size (hkp _ _ ho2)
    simp at hmm
  refine list_sort_data (s := { s with heap := h'.push (seqObj "list" acc.toList.toArray 0), toks := tk }) (enc := fun r : KR => keysD r.2) hoL each er hall hso hz (fun r _ => ?_) fun out ho2 eo => ?_
  · have hdep := depth_keysD r.2
    show X.A.units + 1 + 1 + (keysD r.2).depth < cLine
    omega
  · obtain ⟨e', he'⟩ := PyProof.Rows.sortedHeap_at (vs := acc.toList) (out := out.toArray) hoL
    have hle2 : ((rs.mergeSort fun a b => kLe a.2 b.2).map fun r => V.ref r.1).length ≤ sizeLine := by
      rw [List.length_map, List.length_mergeSort]
      exact hz
    have up : ∀ b o, h'.get? b = some o → (sortedHeap (h'.push (seqObj "list" acc.toList.toArray 0)) h'.objs.size acc.toList out.toArray).get? b = some o := fun b u e => by
      have hb : b < h'.objs.size := Heap.lt_size e
      rw [PyProof.Rows.sortedHeap_old (Nat.ne_of_lt hb) (by rw [size_push']; exact Nat.lt_succ_of_lt hb)]
      exact Heap.get?_push_of_some _ e
    refine wpAny_pure ⟨_, rfl, .ref h'.objs.size, _, I1.laid (t' := tk) (o := .lst ((rs.mergeSort fun a b => kLe a.2 b.2).map fun r => V.ref r.1)) up (Nat.le_refl _) ⟨hle2, out, e', kr_each eo, he'⟩, rfl, q _ _ ?_ (fun r hr => h3 r (List.mem_mergeSort.mp hr)) (I1.hok.fresh (Nat.le_refl _))⟩
    rw [← h1]
    exact sort_maps (fun r : KR => r.2) fun _ _ _ _ => rfl
end Ka
/-! d.update(e), two dicts with numbers or texts as keys. -/
namespace Ka
open PySem PySem.Spec PyProof.Rows L2
def rUpdate : V → List V → Hp → VK → Prop := fun x vs H Q => ∃ (d e : Addr) (kvs more : List (L2.Key × V)), x = .ref d ∧ vs = [.ref e] ∧ H d = some (.dK kvs) ∧ H e = some (.dK more) ∧ d ≠ e ∧ kvs.length + more.length ≤ 1000000 ∧ Q .non (upd H d (.dK (mergeK kvs more)))
theorem mt_update {X : Cx} : MtM X "dict.update" rUpdate := by
  intro pins s σ H x xs v us Q I rx rv h
  obtain ⟨d, e, kvs, more, rfl, rfl, hd, he, hne, hz, q⟩ := h
  cases rx
  obtain ⟨u, rfl, ru⟩ := rv.one
  cases ru
  obtain ⟨z, lo, vs, rel, dd⟩ := dk_of I.hok hd
  obtain ⟨z2, lo2, vs2, rel2, dd2⟩ := dk_of I.hok he
  have l1 := rel.length
  have l2 := rel2.length
  have l3 : (1000000 : Nat) ≤ sizeLine := by rw [sizeLine_eq]; decide
  refine call_meetsIn PySem.F.slot_dict_update dd.typeIs PySem.F.entry_dict_update (PySem.F.args_dict_update_2 _ _) (meets_dict_update (mixKind X.prog X.w) d e hne lo2)
    ⟨vs, vs2, dd, dd2, by omega, fun h' dd' _ hs => ?_⟩
  have hq : ∃ q, h'.get? d = some q := let ⟨q, _, _, hq, _⟩ := dd'; ⟨q, hq⟩
  have l4 := length_mergeK more kvs
  exact ⟨.non, _, d_write (t' := s.toks) I (by rw [hd]; exact True.intro) hs hq (dk_new (by omega) lo (rel2.merge rel) dd'), rfl, q⟩
end Ka
namespace Kb
open PySem PySem.Spec PyProof.Rows L2
/-! ### the text, def by def -/
def topS (i : Nat) : Stmt := PySem.Challenge.pw_stillowed_k43_whole_prices_at_all_moment.main.body.getD i (.Pass ⟨0, 0, 0, 0⟩)
abbrev sIsInt : Stmt := topS 4
abbrev sIsNum : Stmt := topS 5
abbrev sIsNumTo : Stmt := topS 6
abbrev sName : Stmt := topS 7
abbrev sLetter : Stmt := topS 8
abbrev sIsLot : Stmt := topS 9
abbrev sAscending : Stmt := topS 10
abbrev sPartsOf : Stmt := topS 12
abbrev sStepsInto : Stmt := topS 13
abbrev sStepsOut : Stmt := topS 14
abbrev sAllIn : Stmt := topS 15
abbrev sSettled : Stmt := topS 19
abbrev sWithParts : Stmt := topS 20
abbrev sWayCosts : Stmt := topS 21
abbrev sLeastWeights : Stmt := topS 22
abbrev sLeastWays : Stmt := topS 23
abbrev sFirstWay : Stmt := topS 24
abbrev sBaseCost : Stmt := topS 25
abbrev sStepOfWay : Stmt := topS 26
abbrev sPartsOfWay : Stmt := topS 27
abbrev sSoundOrder : Stmt := topS 28
abbrev sBookErrInit : Stmt := inClass (topS 31) 0
abbrev sDeedCounts : Stmt := topS 33
abbrev sAdded : Stmt := topS 34
abbrev sLeastPrices : Stmt := topS 36
abbrev sPriceWays : Stmt := topS 37
abbrev sCountsAlong : Stmt := topS 38
abbrev sBkInit : Stmt := inClass (topS 44) 0
abbrev sBkEq : Stmt := inClass (topS 44) 1
abbrev sBkNames : Stmt := inClass (topS 44) 2
abbrev sBkMain : Stmt := inClass (topS 44) 3
abbrev sBkIndex : Stmt := inClass (topS 44) 4
abbrev sBkEnds : Stmt := inClass (topS 44) 5
abbrev sBkSteps : Stmt := inClass (topS 44) 6
abbrev sBkFrom : Stmt := inClass (topS 44) 7
abbrev sBkIsEnd : Stmt := inClass (topS 44) 8
abbrev sBkIsStage : Stmt := inClass (topS 44) 9
abbrev sBkStages : Stmt := inClass (topS 44) 10
abbrev sBkCalls : Stmt := inClass (topS 44) 11
abbrev sBkDeeds : Stmt := inClass (topS 44) 12
abbrev sChEach : Stmt := topS 45
abbrev sChTog : Stmt := topS 46
abbrev sIsCourse : Stmt := topS 47
abbrev sAreEnds : Stmt := topS 48
abbrev sAreSteps : Stmt := topS 49
abbrev sIsStep : Stmt := topS 50
abbrev sDeedsIn : Stmt := topS 51
abbrev sLeaving : Stmt := topS 52
abbrev sBox : Stmt := topS 54
abbrev sTake : Stmt := topS 55
abbrev sPick : Stmt := topS 56
abbrev sLawMixed : Stmt := topS 57
abbrev sLawStep : Stmt := topS 58
abbrev sLawCourse : Stmt := topS 59
abbrev sLawCourses : Stmt := topS 60
abbrev sLawLeaving : Stmt := topS 61
abbrev sLawEnds : Stmt := topS 62
abbrev sLawAllIn : Stmt := topS 63
abbrev sLawGood : Stmt := topS 64
abbrev sLawMoves : Stmt := topS 65
abbrev sLawDeeds : Stmt := topS 66
abbrev sLawSum : Stmt := topS 67
abbrev sLawClosing : Stmt := topS 68
abbrev sLawMomentRight : Stmt := topS 69
abbrev sLaw : Stmt := topS 70
/-! ### heaps -/
theorem same_new {H : Hp} {p : Addr} {o : HO} (h : H p = none) : Same H (upd H p o) := fun b x e => by
  rw [upd_ne (ne_of_none e h)]
  exact e
theorem Same.sqT {K : PySem.W.Frag} {H H' : Hp} {a : Addr} {xs : List V} (e : Same H H') (h : SqT K H a xs) : SqT K H' a xs := by
  rcases h with (h | ⟨o, h⟩) | h
  · exact .inl (.inl (e _ _ h))
  · exact .inl (.inr ⟨o, e _ _ h⟩)
  · exact .inr h
theorem sqT_new {K : PySem.W.Frag} {H : Hp} {p : Addr} {xs : List V} (h : H p = some (.tup xs)) : SqT K H p xs := .inl (.inl h)
theorem sqL_new {K : PySem.W.Frag} {H : Hp} {p : Addr} {xs : List V} (h : H p = some (.lst xs)) : SqL K H p xs := .inl (.inl h)
theorem get_map {α β : Type} {f : α → β} {l : List α} {i : Nat} {y : β} (h : (l.map f)[i]? = some y) : ∃ x, l[i]? = some x ∧ y = f x := by
  rw [List.getElem?_map] at h
  cases e : l[i]? with
  | none =>
    rw [e] at h
    cases h
  | some x =>
    rw [e] at h
    exact ⟨x, rfl, (Option.some.inj h).symm⟩
theorem lt_of_get {α : Type} {l : List α} {i : Nat} {x : α} (h : l[i]? = some x) : i < l.length := (List.getElem?_eq_some_iff.mp h).1
theorem drop_of_get {α : Type} {l : List α} {i : Nat} {x : α} (h : l[i]? = some x) : l.drop i = x :: l.drop (i + 1) := by
  obtain ⟨h1, h2⟩ := List.getElem?_eq_some_iff.mp h
  rw [List.drop_eq_getElem_cons h1, h2]
theorem take_of_get {α : Type} {l : List α} {i : Nat} {x : α} (h : l[i]? = some x) : l.take (i + 1) = l.take i ++ [x] := by
  rw [List.take_add_one, h]
  rfl
/-! ### rules told by K, for a comprehension's block -/
def rLen (K : PySem.W.Frag) : List V → Hp → VK → Prop := fun xs H Q => ∃ p ys, xs = [V.ref p] ∧ (SqL K H p ys ∨ SqT K H p ys) ∧ Q (.int (ys.length : Nat)) H
theorem len_at {X : Cx} {K : PySem.W.Frag} (h : X.K = K) : CallR X (.builtin "len") (rLen K) := by
  subst h
  exact call_len_seq
theorem ixT_at {X : Cx} {K : PySem.W.Frag} (h : X.K = K) : IxR X (rIxT K) := by
  subst h
  exact ix_tup
theorem ixL_at {X : Cx} {K : PySem.W.Frag} (h : X.K = K) : IxR X (rIxL K) := by
  subst h
  exact ix_list
/-- places as values -/
def natV (l : List Nat) : List V := l.map fun (i : Nat) => V.int (i : Int)
theorem natV_len (l : List Nat) : (natV l).length = l.length := List.length_map _
theorem small {n : Nat} (h : n ≤ 1000000) : n < sizeLine := Nat.lt_of_le_of_lt h (by rw [sizeLine_eq]; decide)
theorem smallE {n : Nat} (h : n ≤ 1000000) : n ≤ sizeLine := Nat.le_of_lt (small h)
theorem walk_revT {K : PySem.W.Frag} {a : Addr} {xs : List V} : Walk (RT.ItvT K a xs.length) xs.length (fun H => SqT K H a xs) (fun i H x H' => H' = H ∧ xs[xs.length - 1 - i]? = some x) := by
  refine ⟨fun i H hi q => ?_, fun H q => ?_, fun i H x H' hi q y => ?_⟩
  · exact ⟨hi, xs, xs[xs.length - 1 - i], q, by simp⟩
  · exact Nat.le_refl _
  · exact ⟨y.1, y.2 xs q⟩
/-- counts as values -/
def intV (l : List Int) : List V := l.map V.int
theorem intV_len (l : List Int) : (intV l).length = l.length := List.length_map _
theorem intV_get {l : List Int} {i : Nat} {x : Int} (h : l[i]? = some x) : (intV l)[i]? = some (.int x) := by
  unfold intV
  rw [List.getElem?_map, h]
  rfl
theorem natV_get {l : List Nat} {i x : Nat} (h : l[i]? = some x) : (natV l)[i]? = some (.int (x : Nat)) := by
  unfold natV
  rw [List.getElem?_map, h]
  rfl
end Kb
namespace Kb
open PySem PySem.Spec PyProof.Rows L2
/-- a sign from a to z -/
def lowC (c : Nat) : Bool := decide (97 ≤ c) && decide (c ≤ 122)
/-- a name -/
def isName (s : Str) : Bool := decide (1 ≤ s.cps.size) && decide (s.cps.size ≤ 5) && s.cps.toList.all lowC
/-- the names of the language that no text hides -/
structure Nones (mg : Str → Option Value) : Prop where
  len : mg "len" = none
  range : mg "range" = none
  iter : mg "iter" = none
  enumerate : mg "enumerate" = none
  reversed : mg "reversed" = none
  tuple : mg "tuple" = none
  list : mg "list" = none
  sorted : mg "sorted" = none
  any : mg "any" = none
  all : mg "all" = none
  int : mg "int" = none
  str : mg "str" = none
  bool : mg "bool" = none
  abs : mg "abs" = none
  min : mg "min" = none
  max : mg "max" = none
  sum : mg "sum" = none
  isinstance : mg "isinstance" = none
  valueError : mg "ValueError" = none
/-- range(n), its turns told -/
theorem walk_r0 {n : Nat} : Walk (Itr 0 n) n (fun _ => True) (fun i H x H' => H' = H ∧ x = .int (i : Nat)) := walk_range.mono (fun _ h => h) fun i H x H' _ _ y => ⟨y.1, by
  rw [y.2]
  show V.int (0 + (i : Int)) = _
  rw [Int.zero_add]⟩
section
variable {K : PySem.W.Frag}
theorem slA_at {X : Cx} {K : PySem.W.Frag} (h : X.K = K) : SlR X (rSlA K) := by
  subst h
  exact sl_tupA
theorem slA_take {H : Hp} {a : Addr} {xs : List V} {j : Nat} {Q : VK} (hA : SqT K H a xs) (q0 : xs.take j = xs → Q (.ref a) H) (q1 : ∀ p, H p = none → Q (.ref p) (upd H p (.tup (xs.take j)))) : rSlA K (.ref a) none (some (j : Int)) H Q := by
  refine ⟨a, xs, rfl, hA, fun hw => ?_, fun _ p np => ?_⟩
  · have h2 := hw.2
    rw [HT.sIx_nat] at h2
    exact q0 (List.take_of_length_le (by omega))
  · have e : cutV xs none (some (j : Int)) = xs.take j := by
      unfold cutV
      rw [HT.sIx_nat, HT.sIx_none, List.drop_zero, Nat.sub_zero]
      by_cases h : j ≤ xs.length
      · rw [Nat.min_eq_left h]
      · rw [Nat.min_eq_right (by omega), List.take_length, List.take_of_length_le (by omega)]
    rw [e]
    exact q1 p np
theorem slA_drop {H : Hp} {a : Addr} {xs : List V} {j : Nat} {Q : VK} (hA : SqT K H a xs) (q0 : xs.drop j = xs → Q (.ref a) H) (q1 : ∀ p, H p = none → Q (.ref p) (upd H p (.tup (xs.drop j)))) : rSlA K (.ref a) (some (j : Int)) none H Q := by
  refine ⟨a, xs, rfl, hA, fun hw => ?_, fun _ p np => ?_⟩
  · have h2 := hw.1
    rw [HT.sIx_nat] at h2
    refine q0 ?_
    by_cases h : j = 0
    · rw [h]
      rfl
    · have h0 : xs.length = 0 := by omega
      rw [List.eq_nil_of_length_eq_zero h0, List.drop_nil]
  · have e : cutV xs (some (j : Int)) none = xs.drop j := by
      unfold cutV
      rw [HT.sIx_nat, HT.sIx_none]
      by_cases h : j ≤ xs.length
      · rw [Nat.min_eq_left h, List.take_of_length_le (by rw [List.length_drop]; exact Nat.le_refl _)]
      · rw [Nat.min_eq_right (by omega), List.drop_length, List.drop_eq_nil_of_le (by omega), List.take_nil]
    rw [e]
    exact q1 p np
/-- a slice of a row -/
theorem slA_takeR {H : Hp} {a : Addr} {us : List Str} {j : Nat} {Q : VK} (hA : SqT K H a (us.map V.str)) (q : ∀ H' p, Same H H' → SqT K H' p ((us.take j).map V.str) → Q (.ref p) H') : rSlA K (.ref a) none (some (j : Int)) H Q :=
  slA_take hA (fun e => q H a (fun _ _ h => h) (by rw [List.map_take, e]; exact hA)) fun p np => q _ p (same_new np) (by rw [List.map_take]; exact sqT_new upd_same)
theorem slA_dropR {H : Hp} {a : Addr} {us : List Str} {j : Nat} {Q : VK} (hA : SqT K H a (us.map V.str)) (q : ∀ H' p, Same H H' → SqT K H' p ((us.drop j).map V.str) → Q (.ref p) H') : rSlA K (.ref a) (some (j : Int)) none H Q :=
  slA_drop hA (fun e => q H a (fun _ _ h => h) (by rw [List.map_drop, e]; exact hA)) fun p np => q _ p (same_new np) (by rw [List.map_drop]; exact sqT_new upd_same)
theorem tyT {H : Hp} {p : Addr} {xs : List V} (h : SqT K H p xs) : TyX K H (.ref p) (.type "tuple") := by
  rcases h with (h | ⟨o, h⟩) | h
  · exact .base (.tup h)
  · exact .fTuple h
  · obtain ⟨o, its, n, h1, h2, h3⟩ := h
    exact .kTuple h1 h2
theorem catR {H : Hp} {a b : Addr} {xs ys : List V} {Q : VK} (hx : SqT K H a xs) (hy : SqT K H b ys) (hl : xs.length + ys.length ≤ 100000) (q : ∀ H' p, Same H H' → SqT K H' p (xs ++ ys) → Q (.ref p) H') : rCatA K (.ref a) (.ref b) H Q := by
  refine ⟨a, b, xs, ys, rfl, rfl, hx, hy, smallE (by omega), fun e => ?_, fun _ e => ?_, fun _ _ p np => ?_⟩
  · exact q H b (fun _ _ h => h) (by rw [e]; exact hy)
  · exact q H a (fun _ _ h => h) (by rw [e, List.append_nil]; exact hx)
  · exact q _ p (same_new np) (sqT_new upd_same)
theorem slR_take {H : Hp} {a : Addr} {xs : List V} {j : Nat} {Q : VK} (hA : SqT K H a xs) (q : ∀ H' p, Same H H' → SqT K H' p (xs.take j) → Q (.ref p) H') : rSlA K (.ref a) none (some (j : Int)) H Q :=
  slA_take hA (fun e => q H a (fun _ _ h => h) (by rw [e]; exact hA)) fun p np => q _ p (same_new np) (sqT_new upd_same)
theorem slR_drop {H : Hp} {a : Addr} {xs : List V} {j : Nat} {Q : VK} (hA : SqT K H a xs) (q : ∀ H' p, Same H H' → SqT K H' p (xs.drop j) → Q (.ref p) H') : rSlA K (.ref a) (some (j : Int)) none H Q :=
  slA_drop hA (fun e => q H a (fun _ _ h => h) (by rw [e]; exact hA)) fun p np => q _ p (same_new np) (sqT_new upd_same)
end
end Kb
namespace Kb
open PySem PySem.Spec PyProof.Rows L2
/-! ### is_integer, is_number, is_number_to, is_lot -/
section
variable {P : Program} {w : World} {K : PySem.W.Frag} {mg : Str → Option Value} {base : Heap}
/-- an integer, asked for by its value -/
def spIsInt : Sp := fun vs H Q _ => ∃ i : Int, vs = [.int i] ∧ Q (.bl true) H
abbrev nIi : List Str := ["value"]
theorem scIi : FnScope nIi ["value"] (defScope sIsInt) := ⟨rfl, rfl, rfl, by decide +kernel, rfl, by decide +kernel, by decide +kernel⟩
theorem ok_isint {f : Addr} {fd : FuncData} (F : Fun K "is_integer" "is_integer" sIsInt f fd) (N : Nones mg) : FnOk P w K mg base CX0 1 f fd ["value"] spIsInt := by
  refine F.ok scIi (fun vs H Q E h => ?_) (fun cdv A outer s H vs Q E hr h => ?_)
  · obtain ⟨i, rfl, _⟩ := h
    rfl
  · obtain ⟨i, rfl, q⟩ := h
    refine ⟨_, pss_one (ps_ret (pe_and (pe_callB call_isi (by rfl) N.isinstance (by decide +kernel) (pa_cons (pv 0) (pa_cons (pe_bltn (v := .ty "int") (by rfl) N.int (by decide +kernel) rfl) pa_nil))) (pe_one (pe_not (pe_callB call_isi (by rfl) N.isinstance (by decide +kernel) (pa_cons (pv 0) (pa_cons (pe_bltn (v := .ty "bool") (by rfl) N.bool (by decide +kernel) rfl) pa_nil))))))), ?_⟩
    refine ⟨.int i, rfl, .int i, .ty "int", .type "int", .type "int", true, rfl, .ty "int", .base (.int i), kit_ty (by decide +kernel), _, rfl, ite2 (fun _ => ?_) (fun c => absurd rfl c)⟩
    exact ⟨.int i, rfl, .int i, .ty "bool", .type "int", .type "bool", false, rfl, .ty "bool", .base (.int i), kit_ty (by decide +kernel), _, rfl, q⟩
def spIsNum : Sp := fun vs H Q _ => ∃ i : Int, vs = [.int i] ∧ Q (.bl (decide (0 ≤ i))) H
abbrev nIn : List Str := ["value"]
theorem scIn : FnScope nIn ["value"] (defScope sIsNum) := ⟨rfl, rfl, rfl, by decide +kernel, rfl, by decide +kernel, by decide +kernel⟩
structure CallC (K : PySem.W.Frag) (mg : Str → Option Value) (n : Str) (ps : List Str) (f : Addr) (fd : FuncData) : Prop where
  g : mg n = some (.ref f)
  kp : PySem.W.keepIn K (.ref f) = true
  b : Binds K fd ps []
theorem ok_isnum {f fI : Addr} {fd fdI : FuncData} (F : Fun K "is_number" "is_number" sIsNum f fd) (N : Nones mg) (G_is_integer : FnOk P w K mg base CX0 1 fI fdI ["value"] spIsInt) (C_is_integer : CallC K mg "is_integer" ["value"] fI fdI) : FnOk P w K mg base CX0 2 f fd ["value"] spIsNum := by
  refine F.ok scIn (fun vs H Q E h => ?_) (fun cdv A outer s H vs Q E hr h => ?_)
  · obtain ⟨i, rfl, _⟩ := h
    rfl
  · obtain ⟨i, rfl, q⟩ := h
    refine ⟨_, pss_one (ps_ret (pe_and (pe_call G_is_integer (hr.mono (by decide)) (by rfl) C_is_integer.g C_is_integer.kp C_is_integer.b .nil pass0 (pa_cons (pv 0) pa_nil)) (pe_one (pe_cmpR op_ge (pv 0) pe_int (nomark _))))), ?_⟩
    refine ⟨.int i, rfl, i, rfl, _, rfl, ite2 (fun _ => ?_) (fun c => absurd rfl c)⟩
    exact ⟨.int i, rfl, _, _, rfl, rfl, q⟩
def spIsNumTo : Sp := fun vs H Q _ => ∃ i m : Int, vs = [.int i, .int m] ∧ Q (.bl (decide (0 ≤ i) && decide (i ≤ m))) H
abbrev nNt : List Str := ["value", "most"]
theorem scNt : FnScope nNt ["value", "most"] (defScope sIsNumTo) := ⟨rfl, rfl, rfl, by decide +kernel, rfl, by decide +kernel, by decide +kernel⟩
theorem ok_isnumto {f fI : Addr} {fd fdI : FuncData} (F : Fun K "is_number_to" "is_number_to" sIsNumTo f fd) (G_is_number : FnOk P w K mg base CX0 2 fI fdI ["value"] spIsNum) (C_is_number : CallC K mg "is_number" ["value"] fI fdI) : FnOk P w K mg base CX0 3 f fd ["value", "most"] spIsNumTo := by
  refine F.ok scNt (fun vs H Q E h => ?_) (fun cdv A outer s H vs Q E hr h => ?_)
  · obtain ⟨i, m, rfl, _⟩ := h
    rfl
  · obtain ⟨i, m, rfl, q⟩ := h
    refine ⟨_, pss_one (ps_ret (pe_and (pe_call G_is_number (hr.mono (by decide)) (by rfl) C_is_number.g C_is_number.kp C_is_number.b .nil pass0 (pa_cons (pv 0) pa_nil)) (pe_one (pe_cmpR op_le (pv 0) (pv 1) (nomark _))))), ?_⟩
    refine ⟨.int i, rfl, i, rfl, _, rfl, ite2 (fun c => ?_) (fun c => ?_)⟩
    · have c : decide (0 ≤ i) = true := c
      rw [c, Bool.true_and] at q
      exact ⟨.int i, rfl, .int m, rfl, _, _, rfl, rfl, q⟩
    · have c : decide (0 ≤ i) = false := Bool.eq_false_iff.mpr c
      rw [c, Bool.false_and] at q
      exact q
end
end Kb
namespace Kb
open PySem PySem.Spec PyProof.Rows L2
/-! ### is_letter, is_name -/
theorem lt_sign (a b : Nat) : decide ([a] < [b]) = decide (a < b) := by
  by_cases h : a < b
  · rw [decide_eq_true h, decide_eq_true]
    exact List.Lex.rel h
  · rw [decide_eq_false h, decide_eq_false]
    intro w
    cases w with
    | rel w => exact h w
    | cons w => cases w
section
variable {P : Program} {w : World} {K : PySem.W.Frag} {mg : Str → Option Value} {base : Heap}
theorem scLetter : FnScope ["sign"] ["sign"] (defScope sLetter) := ⟨rfl, rfl, rfl, by decide +kernel, rfl, by decide +kernel, by decide +kernel⟩
def spLetter : Sp := fun vs H Q _ => ∃ c : Nat, vs = [.str ⟨#[c]⟩] ∧ Q (.bl (lowC c)) H
theorem ok_letter {f : Addr} {fd : FuncData} (F : Fun K "is_letter" "is_letter" sLetter f fd) : FnOk P w K mg base CX0 1 f fd ["sign"] spLetter := by
  refine F.ok scLetter (fun vs H Q E h => ?_) (fun cdv A outer s H vs Q E hr h => ?_)
  · obtain ⟨c, rfl, _⟩ := h
    rfl
  · obtain ⟨c, rfl, q⟩ := h
    refine ⟨_, pss_one (ps_ret (pe_chain op_le_str op_le_str pe_str (pv 0) pe_str)), ?_⟩
    refine ⟨.str ⟨#[c]⟩, rfl, _, _, rfl, rfl, _, rfl, ?_⟩
    have e1 : (!decide ([c] < (Str.ofString "a").cps.toList)) = decide (97 ≤ c) := by
      rw [show (Str.ofString "a").cps.toList = [97] from by decide +kernel, lt_sign]
      by_cases h : 97 ≤ c
      · rw [decide_eq_true h, decide_eq_false (Nat.not_lt.mpr h)]
        rfl
      · rw [decide_eq_false h, decide_eq_true (Nat.lt_of_not_le h)]
        rfl
    have e2 : (!decide ((Str.ofString "z").cps.toList < [c])) = decide (c ≤ 122) := by
      rw [show (Str.ofString "z").cps.toList = [122] from by decide +kernel, lt_sign]
      by_cases h : c ≤ 122
      · rw [decide_eq_true h, decide_eq_false (Nat.not_lt.mpr h)]
        rfl
      · rw [decide_eq_false h, decide_eq_true (Nat.lt_of_not_le h)]
        rfl
    unfold lowC at q
    rw [← e1, ← e2] at q
    refine ite2 (fun hc => ?_) (fun hc => ?_)
    · refine ⟨_, _, rfl, rfl, ?_⟩
      have hc' : (!decide ([c] < (Str.ofString "a").cps.toList)) = true := hc
      rw [hc', Bool.true_and] at q
      exact q
    · have hc' : (!decide ([c] < (Str.ofString "a").cps.toList)) = false := Bool.eq_false_iff.mpr hc
      rw [hc', Bool.false_and] at q
      exact q
theorem scName : FnScope ["value", "sign"] ["value"] (defScope sName) := ⟨rfl, rfl, rfl, by decide +kernel, rfl, by decide +kernel, by decide +kernel⟩
/-- a value that can be asked for a name: of a known other type, or a text that is short enough -/
def spName (K : PySem.W.Frag) : Sp := fun vs H Q _ => ∃ v : V, vs = [v] ∧ ((∃ t : String, TyX K H v (.type t) ∧ kitB t "str" = some false ∧ Q (.bl false) H) ∨ (∃ s, v = .str s ∧ s.length ≤ sizeLine ∧ ∀ H', Same H H' → Q (.bl (isName s)) H'))
theorem ok_name {f fL : Addr} {fd fdL : FuncData} (F : Fun K "is_name" "is_name" sName f fd) (FL : Fun K "is_letter" "is_letter" sLetter fL fdL) (bL : Binds K fdL ["sign"] []) (gL : mg "is_letter" = some (.ref fL)) {tag : Nat} (gN : mg "LONGEST_NAME" = some (.int 5 tag))
    (mi : mg "isinstance" = none) (ms : mg "str" = none) (ml : mg "len" = none) (ma : mg "all" = none) : FnOk P w K mg base CX0 2 f fd ["value"] (spName K) := by
  have GL : FnOk P w K mg base CX0 1 fL fdL ["sign"] spLetter := ok_letter FL
  refine F.ok scName (fun vs H Q E h => ?_) (fun cdv A outer s H vs Q E hr h => ?_)
  · obtain ⟨v, rfl, _⟩ := h
    rfl
  · obtain ⟨v, rfl, q⟩ := h
    refine ⟨_, pss_cons (ps_if (PW.pt (pw_or (pt_not (pt_val (pe_callB call_isi (by rfl) mi (by decide +kernel) (pa_cons (pv 0) (pa_cons (pe_bltn (v := .ty "str") (by rfl) ms (by decide +kernel) rfl) pa_nil))))) (pw_or1 (pt_not (pt_chain op_le op_le pe_int (pe_callB call_len (by rfl) ml PySem.boot_len (pa_cons (pv 0) pa_nil)) (pe_glob (v := .int 5) rfl gN ⟨_, rfl⟩))))))
      (pss_one (ps_ret pe_bl)) pss_nil)
      (pss_one (ps_ret (pe_callB (cr_all rfl) (by rfl) ma (by decide +kernel) (pa_cons
        (pe_lc (own := [("sign", 1)]) (g := gName 1) (tt := tYes) rfl scName.nd (pi_str (pv 0)) (blkOk_by (own := [("sign", 1)]) (N := ["value", "sign"]) (sc := defScope sName) (by decide +kernel)) (fun _ _ _ _ _ => pg_name (i := 1) scName.nd rfl (Or.inl rfl)) (fun _ _ _ _ _ => pts_nil)
          (fun _ _ _ _ _ => pe_call GL hr (by rfl) gL FL.kp bL .nil pass0 (pa_cons (pv 1) pa_nil))) pa_nil)))), ?_⟩
    rcases q with ⟨t, ty, hb, q⟩ | ⟨z, rfl, hz, q⟩
    · refine ⟨v, rfl, v, .ty "str", .type t, .type "str", false, rfl, .ty "str", ty, kit_ty hb, ?_⟩
      refine ⟨false, rfl, ?_⟩
      exact iteT (iteT q)
    · refine ⟨.str z, rfl, .str z, .ty "str", .type "str", .type "str", true, rfl, .ty "str", .base (.str z), kit_ty (by decide +kernel), true, rfl, iteF ?_⟩
      refine ⟨.str z, rfl, .str z, _, rfl, ⟨hz, rfl⟩, ?_⟩
      refine ⟨_, _, rfl, rfl, _, rfl, ?_⟩
      have no : isName z = false → Q (.bl false) H := fun e => by
        rw [e] at q
        exact q H (fun _ _ h => h)
      refine ite2 (fun c1 => ?_) (fun c1 => ?_)
      · have c1 := of_decide_eq_true c1
        refine ⟨_, _, rfl, rfl, _, rfl, ite2 (fun c2 => ?_) (fun c2 => ?_)⟩
        · refine no ?_
          have c3 : ¬ ((z.length : Nat) : Int) ≤ 5 := of_decide_eq_false (by simpa using c2)
          have c4 : ¬ z.cps.size ≤ 5 := fun h => c3 (by show ((z.cps.size : Nat) : Int) ≤ 5; omega)
          unfold isName
          rw [decide_eq_false c4, Bool.and_false, Bool.false_and]
        · have c3 : ((z.length : Nat) : Int) ≤ 5 := by simpa using c2
          have c4 : z.cps.size ≤ 5 := by have : ((z.cps.size : Nat) : Int) ≤ 5 := c3; omega
          have c5 : 1 ≤ z.cps.size := by have : 1 ≤ ((z.cps.size : Nat) : Int) := c1; omega
          have en : isName z = z.cps.toList.all lowC := by
            unfold isName
            rw [decide_eq_true c5, decide_eq_true c4]
            rfl
          refine ⟨.str z, rfl, z, rfl, fun D nD => ?_⟩
          refine lc_it walk_str (fun i H2 => Same H H2 ∧ H2 D = some (.lst ((((z.cps.toList.map lowC).take i)).map V.bl))) ⟨same_new nD, upd_same⟩ (fun _ _ _ _ => True.intro) (fun i x H2 H3 hi h2 y => ?_) (fun H2 h2 => ?_)
          · obtain ⟨rfl, c, hc, rfl⟩ := y
            obtain ⟨sm, eD⟩ := h2
            refine ⟨rfl, ?_⟩
            refine ⟨.str ⟨#[c]⟩, rfl, c, rfl, _, eD, ?_, fun b o e => ?_, ?_⟩
            · rw [List.length_map]
              refine small (Nat.le_trans (List.length_take_le _ _) ?_)
              omega
            · rw [upd_ne (ne_of_none e nD)]
              exact sm b o e
            · have hg : (z.cps.toList.map lowC)[i]? = some (lowC c) := by
                rw [List.getElem?_map, Array.getElem?_toList, hc]
                rfl
              rw [upd_same, take_of_get hg, List.map_append]
              rfl
          · obtain ⟨sm, eD⟩ := h2
            have el : (z.cps.toList.map lowC).take z.cps.size = z.cps.toList.map lowC := List.take_of_length_le (by rw [List.length_map, Array.length_toList]; exact Nat.le_refl _)
            rw [el] at eD
            refine ⟨D, _, rfl, sqL_new eD, ?_⟩
            have ea : (z.cps.toList.map lowC).all id = isName z := by
              rw [en, List.all_map]
              rfl
            rw [ea]
            exact q H2 sm
      · have c1 : ¬ (1 : Int) ≤ ((z.length : Nat) : Int) := fun h => c1 (decide_eq_true h)
        refine ⟨_, rfl, iteT (no ?_)⟩
        have c4 : ¬ 1 ≤ z.cps.size := fun h => c1 (by show (1 : Int) ≤ ((z.cps.size : Nat) : Int); omega)
        unfold isName
        rw [decide_eq_false c4]
        rfl
end
end Kb
namespace Kb
open PySem PySem.Spec PyProof.Rows L2
/-- keys numbers or texts, with tests -/
theorem dcK_it {J : It} {n : Nat} {G : Hp → Prop} {Y : Nat → Hp → V → Hp → Prop} (w : Walk J n G Y) {g : TG} {tt : TT} {tk tv : TE} {vs : List Nat} {σ : L2.St} {H1 : Hp} {D : Addr} {Qd : Hp → Prop} (Pv : Nat → Hp → Prop) (h0 : Pv 0 (upd H1 D (.dK []))) (hG : ∀ i H, i ≤ n → Pv i H → G H)
    (hs : ∀ i x H H', i < n → Pv i H → Y i H x H' → g x (wipe σ vs) H' fun σ2 H2 => wipe σ2 vs = wipe σ vs ∧ tt σ2 H2 fun b H3 => if b = true then tk σ2 H3 fun y H4 => tv σ2 H4 fun z H5 => ∃ kvs k, y = kV k ∧ H5 D = some (.dK kvs) ∧ kvs.length < sizeLine ∧ Pv (i + 1) (upd H5 D (.dK (putK kvs k z))) else Pv (i + 1) H3)
    (hd : ∀ H, Pv n H → Qd H) : ∃ W : Nat → Nat → Hp → Prop, (∃ m, W 0 m (upd H1 D (.dK []))) ∧ ∀ i m H, W i m H →
      (J.stop i H ∧ Qd H) ∨ (J.go i H ∧ ∃ Nx : Hp → Prop, (∀ H', Nx H' → ∃ m', m' < m ∧ W (i + 1) m' H') ∧ ∀ x H', J.yld i H x H' → g x (wipe σ vs) H' fun σ2 H2 => wipe σ2 vs = wipe σ vs ∧ tt σ2 H2 fun b H3 =>
        if b = true then tk σ2 H3 fun y H4 => tv σ2 H4 fun z H5 => ∃ kvs k, y = kV k ∧ H5 D = some (.dK kvs) ∧ kvs.length < sizeLine ∧ Nx (upd H5 D (.dK (putK kvs k z))) else Nx H3) := by
  refine ⟨fun i m H => m = n - i ∧ i ≤ n ∧ Pv i H, ⟨n, rfl, Nat.zero_le _, h0⟩, fun i m H ⟨em, hi, p⟩ => ?_⟩
  by_cases hlt : i < n
  · refine .inr ⟨w.goes i H hlt (hG i H hi p), Pv (i + 1), fun H' p' => ⟨n - (i + 1), by omega, rfl, hlt, p'⟩, fun x H' y => ?_⟩
    exact hs i x H H' hlt p (w.yields i H x H' hlt (hG i H hi p) y)
  · obtain rfl : i = n := by omega
    exact .inl ⟨w.stops H (hG i H hi p), hd H p⟩
/-- keys tuples -/
theorem dcT_it {J : It} {n : Nat} {G : Hp → Prop} {Y : Nat → Hp → V → Hp → Prop} (w : Walk J n G Y) {g : TG} {tk tv : TE} {vs : List Nat} {σ : L2.St} {H1 : Hp} {D : Addr} {Qd : Hp → Prop} (Pv : Nat → Hp → Prop) (h0 : Pv 0 (upd H1 D (.dT []))) (hG : ∀ i H, i ≤ n → Pv i H → G H)
    (hs : ∀ i x H H', i < n → Pv i H → Y i H x H' → g x (wipe σ vs) H' fun σ2 H2 => wipe σ2 vs = wipe σ vs ∧ tk σ2 H2 fun y H4 => tv σ2 H4 fun z H5 => ∃ kvs k b, y = .ref b ∧ H5 b = some (.tup (k.map kV)) ∧ H5 D = some (.dT kvs) ∧ kvs.length < sizeLine ∧ Pv (i + 1) (upd H5 D (.dT (putK kvs k z))))
    (hd : ∀ H, Pv n H → Qd H) : ∃ W : Nat → Nat → Hp → Prop, (∃ m, W 0 m (upd H1 D (.dT []))) ∧ ∀ i m H, W i m H →
      (J.stop i H ∧ Qd H) ∨ (J.go i H ∧ ∃ Nx : Hp → Prop, (∀ H', Nx H' → ∃ m', m' < m ∧ W (i + 1) m' H') ∧ ∀ x H', J.yld i H x H' → g x (wipe σ vs) H' fun σ2 H2 => wipe σ2 vs = wipe σ vs ∧
        tk σ2 H2 fun y H4 => tv σ2 H4 fun z H5 => ∃ kvs k b, y = .ref b ∧ H5 b = some (.tup (k.map kV)) ∧ H5 D = some (.dT kvs) ∧ kvs.length < sizeLine ∧ Nx (upd H5 D (.dT (putK kvs k z)))) := by
  refine ⟨fun i m H => m = n - i ∧ i ≤ n ∧ Pv i H, ⟨n, rfl, Nat.zero_le _, h0⟩, fun i m H ⟨em, hi, p⟩ => ?_⟩
  by_cases hlt : i < n
  · refine .inr ⟨w.goes i H hlt (hG i H hi p), Pv (i + 1), fun H' p' => ⟨n - (i + 1), by omega, rfl, hlt, p'⟩, fun x H' y => ?_⟩
    exact hs i x H H' hlt p (w.yields i H x H' hlt (hG i H hi p) y)
  · obtain rfl : i = n := by omega
    exact .inl ⟨w.stops H (hG i H hi p), hd H p⟩
/-- the second clause of two -/
theorem in_it {J : It} {n : Nat} {G : Hp → Prop} {Y : Nat → Hp → V → Hp → Prop} (w : Walk J n G Y) {up : Addr → V → V → Hp → (Hp → Prop) → Prop} {D : Addr} {g1 : TG} {tt1 : TT} {tk tv : TE} {vs1 : List Nat} {τ : L2.St} {H0 : Hp} {Nx : Hp → Prop} (Pv : Nat → Hp → Prop) (h0 : Pv 0 H0) (hG : ∀ i H, i ≤ n → Pv i H → G H)
    (hs : ∀ j x H H', j < n → Pv j H → Y j H x H' → g1 x (wipe τ vs1) H' fun τ2 H5 => wipe τ2 vs1 = wipe τ vs1 ∧ tt1 τ2 H5 fun b H6 => if b = true then tk τ2 H6 fun y H7 => tv τ2 H7 fun z H8 => up D y z H8 (Pv (j + 1)) else Pv (j + 1) H6)
    (hd : ∀ H, Pv n H → Nx H) : Ka.InP up D g1 tt1 tk tv vs1 τ Nx J H0 := by
  refine ⟨fun i m H => m = n - i ∧ i ≤ n ∧ Pv i H, ⟨n, rfl, Nat.zero_le _, h0⟩, fun i m H ⟨em, hi, p⟩ => ?_⟩
  by_cases hlt : i < n
  · refine .inr ⟨w.goes i H hlt (hG i H hi p), Pv (i + 1), fun H' p' => ⟨n - (i + 1), by omega, rfl, hlt, p'⟩, fun x H' y => ?_⟩
    exact hs i x H H' hlt p (w.yields i H x H' hlt (hG i H hi p) y)
  · obtain rfl : i = n := by omega
    exact .inl ⟨w.stops H (hG i H hi p), hd H p⟩
/-- the first -/
theorem out_it {J : It} {n : Nat} {G : Hp → Prop} {Y : Nat → Hp → V → Hp → Prop} (w : Walk J n G Y) {o0 : HO} {up : Addr → V → V → Hp → (Hp → Prop) → Prop} {g g1 : TG} {tt tt1 : TT} {wi1 : TI} {tk tv : TE} {vs vs1 : List Nat} {σ : L2.St} {H1 : Hp} {D : Addr} {Qd : Hp → Prop} (Pv : Nat → Hp → Prop) (h0 : Pv 0 (upd H1 D o0)) (hG : ∀ i H, i ≤ n → Pv i H → G H)
    (hs : ∀ i x H H', i < n → Pv i H → Y i H x H' → g x (wipe σ vs) H' fun τ H2 => wipe τ vs = wipe σ vs ∧ tt τ H2 fun b H3 => if b = true then wi1 τ H3 fun J1 H4 => Ka.InP up D g1 tt1 tk tv vs1 τ (Pv (i + 1)) J1 H4 else Pv (i + 1) H3)
    (hd : ∀ H, Pv n H → Qd H) : ∃ W : Nat → Nat → Hp → Prop, (∃ m, W 0 m (upd H1 D o0)) ∧ ∀ i m H, W i m H → (J.stop i H ∧ Qd H) ∨ (J.go i H ∧ ∃ Nx : Hp → Prop, (∀ H', Nx H' → ∃ m', m' < m ∧ W (i + 1) m' H') ∧
      ∀ x H', J.yld i H x H' → g x (wipe σ vs) H' fun τ H2 => wipe τ vs = wipe σ vs ∧ tt τ H2 fun b H3 => if b = true then wi1 τ H3 fun J1 H4 => Ka.InP up D g1 tt1 tk tv vs1 τ Nx J1 H4 else Nx H3) := by
  refine ⟨fun i m H => m = n - i ∧ i ≤ n ∧ Pv i H, ⟨n, rfl, Nat.zero_le _, h0⟩, fun i m H ⟨em, hi, p⟩ => ?_⟩
  by_cases hlt : i < n
  · refine .inr ⟨w.goes i H hlt (hG i H hi p), Pv (i + 1), fun H' p' => ⟨n - (i + 1), by omega, rfl, hlt, p'⟩, fun x H' y => ?_⟩
    exact hs i x H H' hlt p (w.yields i H x H' hlt (hG i H hi p) y)
  · obtain rfl : i = n := by omega
    exact .inl ⟨w.stops H (hG i H hi p), hd H p⟩
/-- a list comprehension with two clauses: the second -/
theorem lcin_it {J : It} {n : Nat} {G : Hp → Prop} {Y : Nat → Hp → V → Hp → Prop} (w : Walk J n G Y) {D : Addr} {g1 : TG} {tt1 : TT} {te : TE} {vs1 : List Nat} {τ : L2.St} {H0 : Hp} {Nx : Hp → Prop} (Pv : Nat → Hp → Prop) (h0 : Pv 0 H0) (hG : ∀ i H, i ≤ n → Pv i H → G H)
    (hs : ∀ j x H H', j < n → Pv j H → Y j H x H' → g1 x (wipe τ vs1) H' fun τ2 H5 => wipe τ2 vs1 = wipe τ vs1 ∧ tt1 τ2 H5 fun b H6 => if b = true then te τ2 H6 fun y H7 => ∃ acc, H7 D = some (.lst acc) ∧ acc.length < sizeLine ∧ Pv (j + 1) (upd H7 D (.lst (acc ++ [y]))) else Pv (j + 1) H6)
    (hd : ∀ H, Pv n H → Nx H) : ∃ W1 : Nat → Nat → Hp → Prop, (∃ m, W1 0 m H0) ∧ ∀ j k H, W1 j k H →
      (J.stop j H ∧ Nx H) ∨ (J.go j H ∧ ∃ Nx1 : Hp → Prop, (∀ H', Nx1 H' → ∃ k', k' < k ∧ W1 (j + 1) k' H') ∧ ∀ x H', J.yld j H x H' → g1 x (wipe τ vs1) H' fun σ3 H5 => wipe σ3 vs1 = wipe τ vs1 ∧ tt1 σ3 H5 fun b H6 =>
        if b = true then te σ3 H6 fun y H7 => ∃ acc, H7 D = some (.lst acc) ∧ acc.length < sizeLine ∧ Nx1 (upd H7 D (.lst (acc ++ [y]))) else Nx1 H6) := by
  refine ⟨fun i m H => m = n - i ∧ i ≤ n ∧ Pv i H, ⟨n, rfl, Nat.zero_le _, h0⟩, fun i m H ⟨em, hi, p⟩ => ?_⟩
  by_cases hlt : i < n
  · refine .inr ⟨w.goes i H hlt (hG i H hi p), Pv (i + 1), fun H' p' => ⟨n - (i + 1), by omega, rfl, hlt, p'⟩, fun x H' y => ?_⟩
    exact hs i x H H' hlt p (w.yields i H x H' hlt (hG i H hi p) y)
  · obtain rfl : i = n := by omega
    exact .inl ⟨w.stops H (hG i H hi p), hd H p⟩
/-- what the second clause asks -/
def LcIn (D : Addr) (g1 : TG) (tt1 : TT) (te : TE) (vs1 : List Nat) (σ2 : L2.St) (Nx : Hp → Prop) (J1 : It) (H4 : Hp) : Prop := ∃ W1 : Nat → Nat → Hp → Prop, (∃ m, W1 0 m H4) ∧ ∀ j k H, W1 j k H →
      (J1.stop j H ∧ Nx H) ∨ (J1.go j H ∧ ∃ Nx1 : Hp → Prop, (∀ H', Nx1 H' → ∃ k', k' < k ∧ W1 (j + 1) k' H') ∧ ∀ x H', J1.yld j H x H' → g1 x (wipe σ2 vs1) H' fun σ3 H5 => wipe σ3 vs1 = wipe σ2 vs1 ∧ tt1 σ3 H5 fun b H6 =>
        if b = true then te σ3 H6 fun y H7 => ∃ acc, H7 D = some (.lst acc) ∧ acc.length < sizeLine ∧ Nx1 (upd H7 D (.lst (acc ++ [y]))) else Nx1 H6)
theorem lcout_it {J : It} {n : Nat} {G : Hp → Prop} {Y : Nat → Hp → V → Hp → Prop} (w : Walk J n G Y) {g g1 : TG} {tt tt1 : TT} {wi1 : TI} {te : TE} {vs vs1 : List Nat} {σ : L2.St} {H1 : Hp} {D : Addr} {Qd : Hp → Prop} (Pv : Nat → Hp → Prop) (h0 : Pv 0 (upd H1 D (.lst []))) (hG : ∀ i H, i ≤ n → Pv i H → G H)
    (hs : ∀ i x H H', i < n → Pv i H → Y i H x H' → g x (wipe σ vs) H' fun τ H2 => wipe τ vs = wipe σ vs ∧ tt τ H2 fun b H3 => if b = true then wi1 τ H3 fun J1 H4 => LcIn D g1 tt1 te vs1 τ (Pv (i + 1)) J1 H4 else Pv (i + 1) H3)
    (hd : ∀ H, Pv n H → Qd H) : ∃ W : Nat → Nat → Hp → Prop, (∃ m, W 0 m (upd H1 D (.lst []))) ∧ ∀ i m H, W i m H → (J.stop i H ∧ Qd H) ∨ (J.go i H ∧ ∃ Nx : Hp → Prop, (∀ H', Nx H' → ∃ m', m' < m ∧ W (i + 1) m' H') ∧
      ∀ x H', J.yld i H x H' → g x (wipe σ vs) H' fun τ H2 => wipe τ vs = wipe σ vs ∧ tt τ H2 fun b H3 => if b = true then wi1 τ H3 fun J1 H4 => LcIn D g1 tt1 te vs1 τ Nx J1 H4 else Nx H3) := by
  refine ⟨fun i m H => m = n - i ∧ i ≤ n ∧ Pv i H, ⟨n, rfl, Nat.zero_le _, h0⟩, fun i m H ⟨em, hi, p⟩ => ?_⟩
  by_cases hlt : i < n
  · refine .inr ⟨w.goes i H hlt (hG i H hi p), Pv (i + 1), fun H' p' => ⟨n - (i + 1), by omega, rfl, hlt, p'⟩, fun x H' y => ?_⟩
    exact hs i x H H' hlt p (w.yields i H x H' hlt (hG i H hi p) y)
  · obtain rfl : i = n := by omega
    exact .inl ⟨w.stops H (hG i H hi p), hd H p⟩
theorem piT_at {X : Cx} {K : PySem.W.Frag} {tg l : Expr} {t : TE} (h : X.K = K) (hl : PE X l t) : PI X tg l (iTup K t) := by
  subst h
  exact pi_tup hl
theorem piL_at {X : Cx} {K : PySem.W.Frag} {tg l : Expr} {t : TE} (h : X.K = K) (hl : PE X l t) : PI X tg l (iList K t) := by
  subst h
  exact pi_list hl
theorem putK_new {κ : Type} [DecidableEq κ] : ∀ {kvs : List (κ × V)} {k : κ} {v : V}, k ∉ kvs.map (·.1) → putK kvs k v = kvs ++ [(k, v)] := by
  intro kvs k v h
  unfold putK
  rw [if_neg]
  rw [List.any_eq_true]
  rintro ⟨x, hx, e⟩
  exact h (List.mem_map.mpr ⟨x, hx, of_decide_eq_true e⟩)
theorem valV_mem {κ : Type} [DecidableEq κ] : ∀ {kvs : List (κ × V)} {k : κ} {v : V}, (kvs.map (·.1)).Nodup → (k, v) ∈ kvs → valV kvs k = some v
  | [], _, _, _, h => nomatch h
  | p :: r, k, v, nd, h => by
    rw [List.map_cons, List.nodup_cons] at nd
    rcases List.mem_cons.mp h with e | e
    · subst e
      exact valV_pos rfl
    · have : ¬ p.1 = k := fun z => nd.1 (z ▸ List.mem_map.mpr ⟨_, e, rfl⟩)
      rw [valV_neg this]
      exact valV_mem nd.2 e
theorem valV_none {κ : Type} [DecidableEq κ] : ∀ {kvs : List (κ × V)} {k : κ}, k ∉ kvs.map (·.1) → valV kvs k = none
  | [], _, _ => rfl
  | p :: r, k, h => by
    rw [List.map_cons, List.mem_cons, not_or] at h
    rw [valV_neg fun z => h.1 z.symm]
    exact valV_none h.2
theorem Rd.mono {H H' : Hp} {a : Addr} {u : HO} (h : Rd H a u) (s : Same H H') : Rd H' a u := h.elim (fun e => .inl (s _ _ e)) fun ⟨o, e⟩ => .inr ⟨o, s _ _ e⟩
end Kb
/-! comprehensions whose items are told beforehand; zip and enumerate of tuples as walks. -/
namespace Kb
open PySem PySem.Spec PyProof.Rows L2
theorem iteYes {c : Bool} {A B : Prop} (h : c = true) (a : A) : if c = true then A else B := by
  rw [if_pos h]
  exact a
theorem iteNo {c : Bool} {A B : Prop} (h : c = false) (b : B) : if c = true then A else B := by
  rw [h]
  exact iteF b
/-- the list at D holds the first i of ys, all else stands -/
def Lp (H1 : Hp) (D : Addr) (ys : List V) (i : Nat) (H : Hp) : Prop := Same H1 H ∧ H D = some (.lst (ys.take i))
theorem Lp.put {H1 H H4 : Hp} {D : Addr} {ys : List V} {i : Nat} {y : V} (h : Lp H1 D ys i H) (nD : H1 D = none) (s : Same H H4) (hy : ys[i]? = some y) (hl : ys.length ≤ 1000000) :
    ∃ acc, H4 D = some (.lst acc) ∧ acc.length < sizeLine ∧ Lp H1 D ys (i + 1) (upd H4 D (.lst (acc ++ [y]))) := by
  have hi := (List.getElem?_eq_some_iff.mp hy).1
  refine ⟨_, s _ _ h.2, Nat.lt_of_lt_of_le (m := ys.length) (by rw [List.length_take]; omega) (smallE hl), fun c u e => ?_, ?_⟩
  · rw [upd_ne (ne_of_none e nD)]
    exact s _ _ (h.1 _ _ e)
  · rw [upd_same, take_of_get hy]
section
variable {J : It} {n : Nat} {G : Hp → Prop} {Y : Nat → Hp → V → Hp → Prop}
theorem lc_pure (w : Walk J n G Y) {g : TG} {tt : TT} {te : TE} {vs : List Nat} {σ : L2.St} {H1 : Hp} {D : Addr} {Qd : Hp → Prop} (ys : List V) (hn : ys.length = n) (nD : H1 D = none) (hG : ∀ H, Same H1 H → G H)
    (hs : ∀ i x H H', i < n → Lp H1 D ys i H → Y i H x H' → g x (wipe σ vs) H' fun σ2 H2 => wipe σ2 vs = wipe σ vs ∧ tt σ2 H2 fun b H3 =>
      if b = true then te σ2 H3 fun y H4 => ∃ acc, H4 D = some (.lst acc) ∧ acc.length < sizeLine ∧ Lp H1 D ys (i + 1) (upd H4 D (.lst (acc ++ [y]))) else Lp H1 D ys (i + 1) H3) (hd : ∀ H, Same H1 H → H D = some (.lst ys) → Qd H) :
    ∃ W : Nat → Nat → Hp → Prop, (∃ m, W 0 m (upd H1 D (.lst []))) ∧ ∀ i m H, W i m H →
      (J.stop i H ∧ Qd H) ∨ (J.go i H ∧ ∃ Nx : Hp → Prop, (∀ H', Nx H' → ∃ m', m' < m ∧ W (i + 1) m' H') ∧ ∀ x H', J.yld i H x H' → g x (wipe σ vs) H' fun σ2 H2 => wipe σ2 vs = wipe σ vs ∧ tt σ2 H2 fun b H3 =>
        if b = true then te σ2 H3 fun y H4 => ∃ acc, H4 D = some (.lst acc) ∧ acc.length < sizeLine ∧ Nx (upd H4 D (.lst (acc ++ [y]))) else Nx H3) :=
  lc_it w (Lp H1 D ys) ⟨same_new nD, upd_same⟩ (fun i H _ h => hG H h.1) hs fun H h => hd H h.1 (by rw [h.2, List.take_of_length_le (by omega)])
end
section
variable {K : PySem.W.Frag} {a b : Addr} {xs ys : List V}
theorem walk_enumT : Walk (Ka.Iet K a) xs.length (fun H => SqT K H a xs) (YPair (fun i => some (.int (i : Nat))) (fun i => xs[i]?)) :=
  ⟨fun i _ hi q => ⟨xs, xs[i], q, by simp [hi]⟩, fun _ q => ⟨xs, q, Nat.le_refl _⟩, fun i H x H' _ q y => by
    obtain ⟨T, z, e, nT, e2, hz⟩ := y
    exact ⟨T, .int (i : Nat), z, e, nT, e2, rfl, hz xs q⟩⟩
theorem walk_zipT {n : Nat} (hn : n = min xs.length ys.length) : Walk (RZ.ItzT K a b) n (fun H => SqT K H a xs ∧ SqT K H b ys) (YPair (fun i => xs[i]?) (fun i => ys[i]?)) :=
  ⟨fun i _ hi q => ⟨xs, ys, xs[i]'(by omega), ys[i]'(by omega), q.1, q.2, List.getElem?_eq_getElem _, List.getElem?_eq_getElem _⟩, fun _ q => ⟨xs, ys, q.1, q.2, by omega⟩, fun i H x H' _ q y => by
    obtain ⟨T, u, v, e, nT, e2, hx, hy⟩ := y
    exact ⟨T, u, v, e, nT, e2, hx xs q.1, hy ys q.2⟩⟩
theorem tup_at {X : Cx} {K : PySem.W.Frag} {es : List Expr} {k : Nat} {pos : Pos} {t : TGs} {n : Nat} (h : X.K = K) (hc : X.calm = true) (hg : PGs X es t) (hst : List.findIdx? (fun x => x.fst) (assignEach es X.env) = none := by rfl) (hn : (assignEach es X.env).length = n := by rfl) : PG X (.Tuple es k pos) (gTup K n t) := by
  subst h
  subst hn
  exact pg_tup hc hg rfl hst
end
end Kb
namespace Kb
open PySem PySem.Spec PyProof.Rows L2
def Rows (H : Hp) (rs : List Ka.Row) : Prop := ∀ r ∈ rs, H r.1 = some (.tup (r.2.map V.str))
def adV (rs : List Ka.Row) : List V := rs.map fun r => V.ref r.1
/-! ### values as data: places, rows, lists of them -/
def natD (g : List Nat) : PyData := .tuple (g.map fun (i : Nat) => .int (i : Int))
/-- the lists of codes are the same: the texts are -/
theorem str_beq (x y : Str) : (x == y) = decide (x = y) := by
  by_cases h : x = y
  · subst h
    simp
  · rw [decide_eq_false h]
    exact beq_eq_false_iff_ne.mpr h
theorem eqvAll_map {α : Type} [DecidableEq α] {f : α → PyData} (h : ∀ a b, PyData.eqv (f a) (f b) = decide (a = b)) : ∀ l m : List α, PyData.eqvAll (l.map f) (m.map f) = decide (l = m)
  | [], [] => by simp [PyData.eqvAll]
  | [], _ :: _ => by simp [PyData.eqvAll]
  | _ :: _, [] => by simp [PyData.eqvAll]
  | x :: l, y :: m => by
    rw [List.map_cons, List.map_cons, PyData.eqvAll, h, eqvAll_map h l m]
    by_cases h1 : x = y <;> by_cases h2 : l = m <;> simp [h1, h2]
theorem eq_int (a b : Nat) : PyData.eqv (.int (a : Int)) (.int (b : Int)) = decide (a = b) := by
  rw [PyData.eqv]
  by_cases h : a = b
  · subst h
    simp
  · rw [decide_eq_false h]
    exact beq_eq_false_iff_ne.mpr (by omega)
theorem eq_str (a b : Str) : PyData.eqv (.str a) (.str b) = decide (a = b) := by
  rw [PyData.eqv, str_beq]
theorem eqN (g g' : List Nat) : PyData.eqv (natD g) (natD g') = decide (g = g') := by
  unfold natD
  rw [PyData.eqv, eqvAll_map (f := fun (i : Nat) => PyData.int (i : Int)) eq_int]
theorem eqR (r r' : List Str) : PyData.eqv (Ka.rowD r) (Ka.rowD r') = decide (r = r') := by
  unfold Ka.rowD
  rw [PyData.eqv, eqvAll_map eq_str]
theorem eqRows (l m : List (List Str)) : PyData.eqvAll (l.map Ka.rowD) (m.map Ka.rowD) = decide (l = m) := eqvAll_map eqR l m
theorem dep_le {α : Type} {f : α → PyData} {n : Nat} (h : ∀ a, (f a).depth ≤ n) : ∀ l : List α, PyData.depthAll (l.map f) ≤ n
  | [] => by simp [PyData.depthAll]
  | x :: l => by
    have h1 := h x
    have h2 := dep_le h l
    rw [List.map_cons]
    simp only [PyData.depthAll]
    omega
theorem lay_all {α : Type} {f : α → PyData} : ∀ l : List α, (∀ a ∈ l, (f a).canLay0 = true) → PyData.canLayAll0 (l.map f) = true
  | [], _ => by simp [PyData.canLayAll0]
  | x :: l, h => by
    rw [List.map_cons, PyData.canLayAll0, h x List.mem_cons_self, lay_all l fun a ha => h a (List.mem_cons_of_mem _ ha)]
    rfl
theorem shaped_of {d : PyData} (h1 : d.canLay0 = true) (h2 : d.depth ≤ 64) : SeqAt.shaped d = true := by
  unfold SeqAt.shaped
  rw [h1, decide_eq_true h2]
  rfl
theorem depN (g : List Nat) : (natD g).depth ≤ 2 := by
  unfold natD
  have := dep_le (f := fun (i : Nat) => PyData.int (i : Int)) (n := 1) (fun a => by simp [PyData.depth]) g
  simp only [PyData.depth]
  omega
theorem layN (g : List Nat) : (natD g).canLay0 = true := by
  unfold natD
  rw [PyData.canLay0]
  exact lay_all g fun a _ => by rw [PyData.canLay0]
theorem shN (g : List Nat) : SeqAt.shaped (natD g) = true := shaped_of (layN g) (Nat.le_trans (depN g) (by decide))
theorem depR (r : List Str) : (Ka.rowD r).depth ≤ 2 := by
  unfold Ka.rowD
  have := dep_le (f := PyData.str) (n := 1) (fun a => by simp [PyData.depth]) r
  simp only [PyData.depth]
  omega
theorem name_ok {z : Str} (h : isName z = true) : PyData.strOk z = true := by
  unfold isName at h
  rw [Bool.and_eq_true] at h
  unfold PyData.strOk
  rw [← Array.all_toList, List.all_eq_true]
  intro c hc
  have := List.all_eq_true.mp h.2 c hc
  unfold lowC at this
  rw [Bool.and_eq_true] at this
  have := of_decide_eq_true this.2
  exact decide_eq_true (by omega)
theorem layR {r : List Str} (h : ∀ z ∈ r, isName z = true) : (Ka.rowD r).canLay0 = true := by
  unfold Ka.rowD
  rw [PyData.canLay0]
  exact lay_all r fun a ha => by rw [PyData.canLay0]; exact name_ok (h a ha)
theorem shR {r : List Str} (h : ∀ z ∈ r, isName z = true) : SeqAt.shaped (Ka.rowD r) = true := shaped_of (layR h) (Nat.le_trans (depR r) (by decide))
theorem shRows {l : List (List Str)} (h : ∀ r ∈ l, ∀ z ∈ r, isName z = true) : SeqAt.shaped (.list (l.map Ka.rowD)) = true ∧ SeqAt.shaped (.tuple (l.map Ka.rowD)) = true := by
  have h1 := dep_le (f := Ka.rowD) (n := 2) depR l
  have h2 := lay_all (f := Ka.rowD) l fun r hr => layR (h r hr)
  exact ⟨shaped_of (by rw [PyData.canLay0]; exact h2) (by simp only [PyData.depth]; omega), shaped_of (by rw [PyData.canLay0]; exact h2) (by simp only [PyData.depth]; omega)⟩
section
variable {K : PySem.W.Frag} {H : Hp}
theorem dpNs : ∀ g : List Nat, DpAll K H (natV g) (g.map fun (i : Nat) => .int (i : Int))
  | [] => .nil
  | i :: g => .cons (.int _) (dpNs g)
theorem dpN {p : Addr} {g : List Nat} (h : H p = some (.tup (natV g))) : Dp K H (.ref p) (natD g) := .tup (sqT_new h) (dpNs g)
theorem dpRs : ∀ r : List Str, DpAll K H (r.map V.str) (r.map .str)
  | [] => .nil
  | i :: g => .cons (.str _) (dpRs g)
theorem dpR {p : Addr} {r : List Str} (h : H p = some (.tup (r.map V.str))) : Dp K H (.ref p) (Ka.rowD r) := .tup (sqT_new h) (dpRs r)
theorem dpRows : ∀ {rs : List Ka.Row}, Rows H rs → DpAll K H (adV rs) ((rs.map (·.2)).map Ka.rowD)
  | [], _ => .nil
  | r :: rs, h => .cons (dpR (h r List.mem_cons_self)) (dpRows fun q hq => h q (List.mem_cons_of_mem _ hq))
end
end Kb
namespace Kb
open PySem PySem.Spec PyProof.Rows L2
/-! ### courses as data -/
structure Stp where
  n : Nat
  call : Bool
  nm : Str
  o : Nat
  deriving DecidableEq
def kindS (c : Bool) : Str := if c = true then "call" else "do"
def stpK (s : Stp) : List L2.Key := [.inl (s.n : Int), .inr (kindS s.call), .inr s.nm, .inl (s.o : Int)]
def stpV (s : Stp) : List V := [.int (s.n : Int), .str (kindS s.call), .str s.nm, .int (s.o : Int)]
theorem stpKV (s : Stp) : (stpK s).map kV = stpV s := rfl
theorem kindS_inj {a b : Bool} (h : kindS a = kindS b) : a = b := by
  cases a <;> cases b <;> first | rfl | exact absurd h (by decide +kernel)
theorem stpK_inj {s t : Stp} (h : stpK s = stpK t) : s = t := by
  cases s with | mk a b c d => cases t with | mk a' b' c' d' =>
  unfold stpK at h
  injection h with h1 h
  injection h with h2 h
  injection h with h3 h
  injection h with h4 h
  have h1 := Sum.inl.inj h1
  have h2 := kindS_inj (Sum.inr.inj h2)
  have h3 := Sum.inr.inj h3
  have h4 := Sum.inl.inj h4
  have h1 : (a : Int) = (a' : Int) := h1
  have h4 : (d : Int) = (d' : Int) := h4
  obtain rfl : a = a' := by omega
  obtain rfl : d = d' := by omega
  have h2 : b = b' := h2
  have h3 : c = c' := h3
  rw [h2, h3]
def StpOk (n : Nat) (s : Stp) : Prop := s.n < n ∧ s.o < n ∧ isName s.nm = true
/-- a course where it stands -/
structure CA where
  a : Addr
  nm : Str
  n : Nat
  ea : Addr
  es : List Nat
  sa : Addr
  ss : List (Addr × Stp)
def crsV (c : CA) : List V := [.str c.nm, .int (c.n : Int), .ref c.ea, .ref c.sa]
structure CrsAt (K : PySem.W.Frag) (H : Hp) (c : CA) : Prop where
  t : SqT K H c.a (crsV c)
  e : SqT K H c.ea (natV c.es)
  s : SqT K H c.sa (c.ss.map fun p => V.ref p.1)
  p : ∀ p ∈ c.ss, H p.1 = some (.tup (stpV p.2))
theorem CrsAt.mono {K : PySem.W.Frag} {H H' : Hp} {c : CA} (s : Same H H') (h : CrsAt K H c) : CrsAt K H' c := ⟨Same.sqT s h.t, Same.sqT s h.e, Same.sqT s h.s, fun p hp => s _ _ (h.p p hp)⟩
structure CrsOk (c : CA) : Prop where
  nm : isName c.nm = true
  n0 : 1 ≤ c.n
  n1 : c.n ≤ 20
  el : ∀ e ∈ c.es, e < c.n
  asc : c.es.Pairwise (· < ·)
  sl : ∀ p ∈ c.ss, StpOk c.n p.2
  nd : (c.ss.map (·.2)).Nodup
  sz : c.ss.length ≤ 1000
  ez : c.es.length ≤ 10000
theorem name_len {s : Str} (h : isName s = true) : s.length ≤ sizeLine := by
  unfold isName at h
  rw [Bool.and_eq_true, Bool.and_eq_true] at h
  have := of_decide_eq_true h.1.2
  exact smallE (by show s.cps.size ≤ 1000000; omega)
theorem all_trueL (n : Nat) : (List.replicate n true).all id = true := by simp
section
variable {P : Program} {w : World} {K : PySem.W.Frag} {mg : Str → Option Value} {base : Heap}
def spIsLot (K : PySem.W.Frag) : Sp := fun vs H Q _ => ∃ (a : Addr) (l : List Nat), vs = [.ref a] ∧ SqT K H a (natV l) ∧ l.length ≤ 10000 ∧ l.Pairwise (· < ·) ∧ ∀ H', Same H H' → Q (.bl true) H'
abbrev nIl : List Str := ["values", "at"]
theorem scIl : FnScope nIl ["values"] (defScope sIsLot) := ⟨rfl, rfl, rfl, by decide +kernel, rfl, by decide +kernel, by decide +kernel⟩
theorem ok_islot {f : Addr} {fd : FuncData} (F : Fun K "is_lot" "is_lot" sIsLot f fd) (N : Nones mg) : FnOk P w K mg base CX0 1 f fd ["values"] (spIsLot K) := by
  refine F.ok scIl (fun vs H Q E h => ?_) (fun cdv A outer s H vs Q E hr h => ?_)
  · obtain ⟨a, l, rfl, _⟩ := h
    rfl
  · obtain ⟨a, l, rfl, hA, hl, asc, q⟩ := h
    refine ⟨_, pss_one (ps_ret (pe_callB (cr_all rfl) (by rfl) N.all (by decide +kernel) (pa_cons (pe_lc (own := [("at", 1)]) (g := gName 1) (tt := tYes) rfl scIl.nd (pi_range1 (by rfl) N.range (pa_cons (pe_op op_sub (pe_callB call_len_seq (by rfl) N.len PySem.boot_len (pa_cons (pv 0) pa_nil)) pe_int) pa_nil)) (blkOk_by (own := [("at", 1)]) (N := nIl) (sc := defScope sIsLot) (by decide +kernel)) (fun _ _ _ _ _ => (pg_name (i := 1) scIl.nd rfl (Or.inl rfl))) (fun _ _ _ _ _ => pts_nil) (fun _ _ _ _ _ => (pe_cmpR op_lt (pe_ix (ixT_at (K := K) rfl) (pv 0) (pv 1) (fun _ _ => rfl)) (pe_ix (ixT_at (K := K) rfl) (pv 0) (pe_op op_add (pv 1) pe_int) (fun _ _ => rfl)) (nomark _)))) pa_nil))), ?_⟩
    refine ⟨.ref a, rfl, a, _, rfl, .inr hA, _, 1, rfl, rfl, _, rfl, (by rw [natV_len]; omega), (by rw [natV_len]; omega), fun D nD => ?_⟩
    have em : (((natV l).length : Int) - 1).toNat = l.length - 1 := by rw [natV_len]; omega
    rw [em]
    refine lc_pure (walk_r0 (n := l.length - 1)) ((List.replicate (l.length - 1) true).map V.bl) (by rw [List.length_map, List.length_replicate]) nD (fun _ _ => True.intro) (fun i x H0 H' hi h0 y => ?_) (fun H' s' e => ?_)
    · obtain ⟨rfl, rfl⟩ := y
      have h1 : l[i]? = some (l[i]'(by omega)) := List.getElem?_eq_getElem _
      have h2 : l[i + 1]? = some (l[i + 1]'(by omega)) := List.getElem?_eq_getElem _
      refine ⟨rfl, .ref a, rfl, .int (i : Nat), rfl, a, _, _, _, rfl, rfl, Same.sqT h0.1 hA, atI_nat (natV_get h1), .ref a, rfl, .int (i : Nat), rfl, _, 1, rfl, rfl, a, _, _, .int ((l[i + 1]'(by omega) : Nat) : Int), rfl, rfl, Same.sqT h0.1 hA, ?_, _, _, rfl, rfl, ?_⟩
      · rw [show (i : Int) + 1 = ((i + 1 : Nat) : Int) from rfl]
        exact atI_nat (natV_get h2)
      · have lt : l[i]'(by omega) < l[i + 1]'(by omega) := List.pairwise_iff_getElem.mp asc i (i + 1) _ _ (Nat.lt_succ_self i)
        have e : decide (((l[i]'(by omega) : Nat) : Int) < ((l[i + 1]'(by omega) : Nat) : Int)) = true := decide_eq_true (by omega)
        dsimp only
        rw [e]
        refine h0.put nD (fun _ _ h => h) ?_ (by rw [List.length_map, List.length_replicate]; omega)
        rw [List.getElem?_map, List.getElem?_replicate, if_pos hi]
        rfl
    · refine ⟨D, _, rfl, sqL_new e, ?_⟩
      rw [all_trueL]
      exact q H' s'
end
end Kb
namespace Kb
open PySem PySem.Spec PyProof.Rows L2
/-! ### is_step, are_ends, are_steps, is_course: of good ones -/
section
variable {P : Program} {w : World} {K : PySem.W.Frag} {mg : Str → Option Value} {base : Heap}
def spIsStep : Sp := fun vs H Q _ => ∃ (a : Addr) (n : Nat) (s : Stp), vs = [.ref a, .int (n : Int)] ∧ H a = some (.tup (stpV s)) ∧ StpOk n s ∧ ∀ H', Same H H' → Q (.bl true) H'
abbrev nIs : List Str := ["value", "stages", "number", "kind", "name", "onto"]
theorem scIs : FnScope nIs ["value", "stages"] (defScope sIsStep) := ⟨rfl, rfl, rfl, by decide +kernel, rfl, by decide +kernel, by decide +kernel⟩
theorem ok_isstep {f fT fN : Addr} {fd fdT fdN : FuncData} (F : Fun K "is_step" "is_step" sIsStep f fd) (N : Nones mg) (G_is_number_to : FnOk P w K mg base CX0 3 fT fdT ["value", "most"] spIsNumTo) (C_is_number_to : CallC K mg "is_number_to" ["value", "most"] fT fdT) (G_is_name : FnOk P w K mg base CX0 2 fN fdN ["value"] (spName K)) (C_is_name : CallC K mg "is_name" ["value"] fN fdN) : FnOk P w K mg base CX0 4 f fd ["value", "stages"] spIsStep := by
  refine F.ok scIs (fun vs H Q E h => ?_) (fun cdv A outer s H vs Q E hr h => ?_)
  · obtain ⟨a, n, t, rfl, _⟩ := h
    rfl
  · obtain ⟨a, n, t, rfl, ha, ⟨o1, o2, o3⟩, q⟩ := h
    refine ⟨_, pss_cons (ps_if (PW.pt (pw_or (pt_not (pt_val (pe_callB call_isi (by rfl) N.isinstance (by decide +kernel) (pa_cons (pv 0) (pa_cons (pe_bltn (v := .ty "tuple") (by rfl) N.tuple (by decide +kernel) rfl) pa_nil))))) (pw_or1 (pt_cmpR op_ne (pe_callB call_len_seq (by rfl) N.len PySem.boot_len (pa_cons (pv 0) pa_nil)) pe_int (nomark _))))) (pss_one (ps_ret pe_bl)) pss_nil)
      (pss_cons (ps_asg (pv 0) (pg_tup rfl (pgs_cons (pg_name (i := 2) scIs.nd rfl (Or.inl rfl)) (pgs_cons (pg_name (i := 3) scIs.nd rfl (Or.inl rfl)) (pgs_cons (pg_name (i := 4) scIs.nd rfl (Or.inl rfl)) (pgs_cons (pg_name (i := 5) scIs.nd rfl (Or.inl rfl)) pgs_nil))))))
      (pss_cons (ps_if (PW.pt (pw_or (pt_not (pt_val (pe_call G_is_number_to (hr.mono (by decide)) (by rfl) C_is_number_to.g C_is_number_to.kp C_is_number_to.b .nil pass0 (pa_cons (pv 2) (pa_cons (pe_op op_sub (pv 1) pe_int) pa_nil))))) (pw_or1 (pt_not (pt_val (pe_call G_is_number_to (hr.mono (by decide)) (by rfl) C_is_number_to.g C_is_number_to.kp C_is_number_to.b .nil pass0 (pa_cons (pv 5) (pa_cons (pe_op op_sub (pv 1) pe_int) pa_nil)))))))) (pss_one (ps_ret pe_bl)) pss_nil)
      (pss_one (ps_ret (pe_and (pe_callB call_isi (by rfl) N.isinstance (by decide +kernel) (pa_cons (pv 3) (pa_cons (pe_bltn (v := .ty "str") (by rfl) N.str (by decide +kernel) rfl) pa_nil))) (pe_and (pe_cmpR op_in_seq (pv 3) (pe_tup (pa_cons pe_str (pa_cons pe_str pa_nil))) (by rfl)) (pe_one (pe_call G_is_name (hr.mono (by decide)) (by rfl) C_is_name.g C_is_name.kp C_is_name.b .nil pass0 (pa_cons (pv 4) pa_nil))))))))), ?_⟩
    have hA : SqT K H a (stpV t) := sqT_new ha
    refine ⟨.ref a, rfl, .ref a, .ty "tuple", .type "tuple", .type "tuple", true, rfl, .ty "tuple", tyT hA, kit_ty (by decide +kernel), true, rfl, iteF ?_⟩
    refine ⟨.ref a, rfl, a, _, rfl, .inr hA, rfl, _, rfl, iteNo (by simp [stpV]) ?_⟩
    refine ⟨.ref a, rfl, a, _, rfl, hA, rfl, _, _, rfl, _, _, rfl, _, _, rfl, _, _, rfl, rfl, ?_⟩
    have y1 : (decide ((0 : Int) ≤ (t.n : Int)) && decide ((t.n : Int) ≤ (n : Int) - 1)) = true := by
      rw [decide_eq_true (by omega), decide_eq_true (by omega)]
      rfl
    have y2 : (decide ((0 : Int) ≤ (t.o : Int)) && decide ((t.o : Int) ≤ (n : Int) - 1)) = true := by
      rw [decide_eq_true (by omega), decide_eq_true (by omega)]
      rfl
    refine ⟨_, rfl, _, rfl, _, _, rfl, rfl, _, _, rfl, ?_⟩
    rw [y1]
    refine ⟨true, rfl, iteF ⟨_, rfl, _, rfl, _, _, rfl, rfl, _, _, rfl, ?_⟩⟩
    rw [y2]
    refine ⟨true, rfl, iteF ?_⟩
    refine ⟨_, rfl, .str (kindS t.call), .ty "str", .type "str", .type "str", true, rfl, .ty "str", .base (.str _), kit_ty (by decide +kernel), _, rfl, ite2 (fun _ => ?_) (fun c => absurd rfl c)⟩
    have hin : inV (V.str (kindS t.call)) [V.str "do", V.str "call"] = true := by
      cases t.call <;> decide +kernel
    refine ⟨_, rfl, smallE (by show 2 ≤ 1000000; decide), fun p np => ⟨p, _, rfl, .inr (sqT_new upd_same), rfl, rfl, ?_⟩⟩
    have s1 : Same H (upd H p (.tup [V.str "do", V.str "call"])) := same_new np
    refine ⟨_, rfl, iteYes hin ?_⟩
    exact ⟨_, rfl, _, rfl, .inr ⟨_, rfl, name_len o3, fun H' s' => by rw [o3]; exact q H' (s1.trans s')⟩⟩
def spAreEnds (K : PySem.W.Frag) : Sp := fun vs H Q _ => ∃ (a : Addr) (n : Nat) (l : List Nat), vs = [.ref a, .int (n : Int)] ∧ SqT K H a (natV l) ∧ l.length ≤ 10000 ∧ l.Pairwise (· < ·) ∧ (∀ e ∈ l, e < n) ∧ ∀ H', Same H H' → Q (.bl true) H'
abbrev nAe : List Str := ["ends", "stages", "number"]
theorem scAe : FnScope nAe ["ends", "stages"] (defScope sAreEnds) := ⟨rfl, rfl, rfl, by decide +kernel, rfl, by decide +kernel, by decide +kernel⟩
theorem ok_areends {f fT fN : Addr} {fd fdT fdN : FuncData} (F : Fun K "are_ends" "are_ends" sAreEnds f fd) (N : Nones mg) (G_is_number_to : FnOk P w K mg base CX0 3 fT fdT ["value", "most"] spIsNumTo) (C_is_number_to : CallC K mg "is_number_to" ["value", "most"] fT fdT) (G_is_lot : FnOk P w K mg base CX0 1 fN fdN ["values"] (spIsLot K)) (C_is_lot : CallC K mg "is_lot" ["values"] fN fdN) : FnOk P w K mg base CX0 4 f fd ["ends", "stages"] (spAreEnds K) := by
  refine F.ok scAe (fun vs H Q E h => ?_) (fun cdv A outer s H vs Q E hr h => ?_)
  · obtain ⟨a, n, t, rfl, _⟩ := h
    rfl
  · obtain ⟨a, n, l, rfl, hA, hz, asc, lt, q⟩ := h
    refine ⟨_, pss_cons (ps_if (pt_not (pt_val (pe_callB call_isi (by rfl) N.isinstance (by decide +kernel) (pa_cons (pv 0) (pa_cons (pe_bltn (v := .ty "tuple") (by rfl) N.tuple (by decide +kernel) rfl) pa_nil))))) (pss_one (ps_ret pe_bl)) pss_nil)
      (pss_one (ps_ret (pe_and (pe_callB (cr_all rfl) (by rfl) N.all (by decide +kernel) (pa_cons (pe_lc (own := [("number", 2)]) (g := gName 2) (tt := tYes) rfl scAe.nd (pi_tup (pv 0)) (blkOk_by (own := [("number", 2)]) (N := nAe) (sc := defScope sAreEnds) (by decide +kernel)) (fun _ _ _ _ _ => (pg_name (i := 2) scAe.nd rfl (Or.inl rfl))) (fun _ _ _ _ _ => pts_nil) (fun _ _ _ _ _ => (pe_call G_is_number_to (hr.mono (by decide)) (by rfl) C_is_number_to.g C_is_number_to.kp C_is_number_to.b .nil pass0 (pa_cons (pv 2) (pa_cons (pe_op op_sub (pv 1) pe_int) pa_nil))))) pa_nil)) (pe_one (pe_call G_is_lot (hr.mono (by decide)) (by rfl) C_is_lot.g C_is_lot.kp C_is_lot.b .nil pass0 (pa_cons (pv 0) pa_nil)))))), ?_⟩
    refine ⟨.ref a, rfl, .ref a, .ty "tuple", .type "tuple", .type "tuple", true, rfl, .ty "tuple", tyT hA, kit_ty (by decide +kernel), true, rfl, iteF ?_⟩
    refine ⟨.ref a, rfl, a, rfl, ⟨_, hA⟩, fun D nD => ?_⟩
    refine lc_pure (walk_tup (K := K) (a := a) (xs := natV l)) ((List.replicate l.length true).map V.bl) (by rw [List.length_map, List.length_replicate, natV_len]) nD (fun _ s => Same.sqT s hA) (fun i x H0 H' hi h0 y => ?_) (fun H' s' e => ?_)
    · obtain ⟨rfl, hx⟩ := y
      rw [natV_len] at hi
      have hg : l[i]? = some (l[i]'hi) := List.getElem?_eq_getElem _
      have hx' := natV_get hg
      rw [hx] at hx'
      cases hx'
      have lti := lt _ (List.getElem_mem hi)
      refine ⟨rfl, _, rfl, _, rfl, _, _, rfl, rfl, _, _, rfl, ?_⟩
      have y1 : (decide ((0 : Int) ≤ ((l[i]'hi : Nat) : Int)) && decide (((l[i]'hi : Nat) : Int) ≤ (n : Int) - 1)) = true := by
        rw [decide_eq_true (by omega), decide_eq_true (by omega)]
        rfl
      rw [y1]
      refine h0.put nD (fun _ _ h => h) ?_ (by rw [List.length_map, List.length_replicate]; omega)
      rw [List.getElem?_map, List.getElem?_replicate, if_pos hi]
      rfl
    · refine ⟨D, _, rfl, sqL_new e, ?_⟩
      rw [all_trueL]
      refine ⟨_, rfl, iteYes rfl ?_⟩
      exact ⟨.ref a, rfl, a, l, rfl, Same.sqT s' hA, hz, asc, fun H2 s2 => q H2 (s'.trans s2)⟩
def spAreSteps (K : PySem.W.Frag) : Sp := fun vs H Q _ => ∃ (a : Addr) (n : Nat) (l : List (Addr × Stp)), vs = [.ref a, .int (n : Int)] ∧ SqT K H a (l.map fun p => V.ref p.1) ∧ (∀ p ∈ l, H p.1 = some (.tup (stpV p.2))) ∧ l.length ≤ 10000 ∧ (l.map (·.2)).Nodup ∧ (∀ p ∈ l, StpOk n p.2) ∧ ∀ H', Same H H' → Q (.bl true) H'
abbrev nAt : List Str := ["steps", "stages", "step"]
theorem scAt : FnScope nAt ["steps", "stages"] (defScope sAreSteps) := ⟨rfl, rfl, rfl, by decide +kernel, rfl, by decide +kernel, by decide +kernel⟩
theorem ok_aresteps {f fT : Addr} {fd fdT : FuncData} (F : Fun K "are_steps" "are_steps" sAreSteps f fd) (N : Nones mg) (G_is_step : FnOk P w K mg base CX0 4 fT fdT ["value", "stages"] spIsStep) (C_is_step : CallC K mg "is_step" ["value", "stages"] fT fdT) : FnOk P w K mg base CX0 5 f fd ["steps", "stages"] (spAreSteps K) := by
  refine F.ok scAt (fun vs H Q E h => ?_) (fun cdv A outer s H vs Q E hr h => ?_)
  · obtain ⟨a, n, t, rfl, _⟩ := h
    rfl
  · obtain ⟨a, n, l, rfl, hA, hP, hz, nd, ok, q⟩ := h
    refine ⟨_, pss_cons (ps_if (PW.pt (pw_or (pt_not (pt_val (pe_callB call_isi (by rfl) N.isinstance (by decide +kernel) (pa_cons (pv 0) (pa_cons (pe_bltn (v := .ty "tuple") (by rfl) N.tuple (by decide +kernel) rfl) pa_nil))))) (pw_or1 (pt_not (pt_val (pe_callB (cr_all rfl) (by rfl) N.all (by decide +kernel) (pa_cons (pe_lc (own := [("step", 2)]) (g := gName 2) (tt := tYes) rfl scAt.nd (pi_tup (pv 0)) (blkOk_by (own := [("step", 2)]) (N := nAt) (sc := defScope sAreSteps) (by decide +kernel)) (fun _ _ _ _ _ => (pg_name (i := 2) scAt.nd rfl (Or.inl rfl))) (fun _ _ _ _ _ => pts_nil) (fun _ _ _ _ _ => (pe_call G_is_step (hr.mono (by decide)) (by rfl) C_is_step.g C_is_step.kp C_is_step.b .nil pass0 (pa_cons (pv 2) (pa_cons (pv 1) pa_nil))))) pa_nil))))))) (pss_one (ps_ret pe_bl)) pss_nil)
      (pss_one (ps_ret (pe_cmpR op_eq (pe_callB call_len_dT (by rfl) N.len PySem.boot_len (pa_cons (Ka.pe_dcT (own := [("step", 2)]) (g := gName 2) rfl (hu_of hr) scAt.nd (pi_tup (pv 0)) (blkOk_by (own := [("step", 2)]) (N := nAt) (sc := defScope sAreSteps) (by decide +kernel)) (fun _ _ _ _ _ => (pg_name (i := 2) scAt.nd rfl (Or.inl rfl))) (fun _ _ _ _ _ => (pv 2)) (fun _ _ _ _ _ => pe_bl)) pa_nil)) (pe_callB call_len_seq (by rfl) N.len PySem.boot_len (pa_cons (pv 0) pa_nil)) (nomark _)))), ?_⟩
    refine ⟨.ref a, rfl, .ref a, .ty "tuple", .type "tuple", .type "tuple", true, rfl, .ty "tuple", tyT hA, kit_ty (by decide +kernel), true, rfl, iteF ?_⟩
    refine ⟨.ref a, rfl, a, rfl, ⟨_, hA⟩, fun D nD => ?_⟩
    refine lc_pure (walk_tup (K := K) (a := a) (xs := l.map fun p => V.ref p.1)) ((List.replicate l.length true).map V.bl) (by rw [List.length_map, List.length_replicate, List.length_map]) nD (fun _ s => Same.sqT s hA) (fun i x H0 H' hi h0 y => ?_) (fun H' s' e => ?_)
    · obtain ⟨rfl, hx⟩ := y
      rw [List.length_map] at hi
      obtain ⟨p, hp, rfl⟩ := get_map hx
      have mp := List.mem_of_getElem? hp
      refine ⟨rfl, _, rfl, _, rfl, p.1, n, p.2, rfl, h0.1 _ _ (hP p mp), ok p mp, fun H2 s2 => ?_⟩
      refine h0.put nD s2 ?_ (by rw [List.length_map, List.length_replicate]; omega)
      rw [List.getElem?_map, List.getElem?_replicate, if_pos hi]
      rfl
    · refine ⟨D, _, rfl, sqL_new e, ?_⟩
      rw [all_trueL]
      refine ⟨true, rfl, iteF ?_⟩
      refine ⟨.ref a, rfl, a, rfl, ⟨_, Same.sqT s' hA⟩, fun D2 nD2 => ?_⟩
      refine dcT_it (walk_tup (K := K) (a := a) (xs := l.map fun p => V.ref p.1)) (fun i H2 => Same H' H2 ∧ H2 D2 = some (.dT ((l.take i).map fun p => (stpK p.2, V.bl true)))) ⟨same_new nD2, upd_same⟩ (fun _ _ _ h => Same.sqT h.1 (Same.sqT s' hA)) (fun i x H0 H2 hi h0 y => ?_) (fun H2 h => ?_)
      · obtain ⟨rfl, hx⟩ := y
        rw [List.length_map] at hi
        obtain ⟨p, hp, rfl⟩ := get_map hx
        have mp := List.mem_of_getElem? hp
        refine ⟨rfl, _, rfl, _, stpK p.2, p.1, rfl, h0.1 _ _ (s' _ _ (hP p mp)), h0.2, ?_, fun c o e => ?_, ?_⟩
        · rw [List.length_map, List.length_take]
          exact small (by omega)
        · rw [upd_ne (ne_of_none e nD2)]
          exact h0.1 _ _ e
        · rw [upd_same, putK_new, take_of_get hp, List.map_append, List.map_singleton]
          rw [List.map_map]
          intro hm
          obtain ⟨p2, hp2, e2⟩ := List.mem_map.mp hm
          have e2 : p2.2 = p.2 := stpK_inj e2
          obtain ⟨j, hj⟩ := List.getElem?_of_mem hp2
          rw [List.getElem?_take] at hj
          split at hj
          · rename_i hlt
            have g1 : (l.map (·.2))[j]? = some p.2 := by rw [List.getElem?_map, hj, ← e2]; rfl
            have g2 : (l.map (·.2))[i]? = some p.2 := by rw [List.getElem?_map, hp]; rfl
            have := (List.getElem?_inj (by rw [List.length_map]; omega) nd).mp (g1.trans g2.symm)
            omega
          · cases hj
      · obtain ⟨s2, e2⟩ := h
        rw [List.length_map, List.take_of_length_le (Nat.le_refl _)] at e2
        refine ⟨D2, _, rfl, e2, .ref a, rfl, a, _, rfl, .inr (Same.sqT s2 (Same.sqT s' hA)), rfl, ?_⟩
        have e3 : decide (V.int (((l.map fun p => (stpK p.2, V.bl true)).length : Nat) : Int) = V.int (((l.map fun p => V.ref p.1).length : Nat) : Int)) = true := decide_eq_true (by rw [List.length_map, List.length_map])
        dsimp only
        rw [e3]
        exact q _ (s'.trans s2)
def spIsCourse (K : PySem.W.Frag) : Sp := fun vs H Q _ => ∃ (c : CA), vs = [.ref c.a] ∧ CrsAt K H c ∧ CrsOk c ∧ ∀ H', Same H H' → Q (.bl true) H'
abbrev nIc : List Str := ["value", "name", "stages", "ends", "steps"]
theorem scIc : FnScope nIc ["value"] (defScope sIsCourse) := ⟨rfl, rfl, rfl, by decide +kernel, rfl, by decide +kernel, by decide +kernel⟩
theorem ok_iscourse {f fT fN fE fS : Addr} {fd fdT fdN fdE fdS : FuncData} (F : Fun K "is_course" "is_course" sIsCourse f fd) (N : Nones mg) {tag : Nat} (g_MOST_STAGES : mg "MOST_STAGES" = some (.int 20 tag)) (G_is_number_to : FnOk P w K mg base CX0 3 fT fdT ["value", "most"] spIsNumTo) (C_is_number_to : CallC K mg "is_number_to" ["value", "most"] fT fdT) (G_is_name : FnOk P w K mg base CX0 2 fN fdN ["value"] (spName K)) (C_is_name : CallC K mg "is_name" ["value"] fN fdN)
    (G_are_ends : FnOk P w K mg base CX0 4 fE fdE ["ends", "stages"] (spAreEnds K)) (C_are_ends : CallC K mg "are_ends" ["ends", "stages"] fE fdE) (G_are_steps : FnOk P w K mg base CX0 5 fS fdS ["steps", "stages"] (spAreSteps K)) (C_are_steps : CallC K mg "are_steps" ["steps", "stages"] fS fdS) : FnOk P w K mg base CX0 6 f fd ["value"] (spIsCourse K) := by
  refine F.ok scIc (fun vs H Q E h => ?_) (fun cdv A outer s H vs Q E hr h => ?_)
  · obtain ⟨c, rfl, _⟩ := h
    rfl
  · obtain ⟨c, rfl, hc, ok, q⟩ := h
    refine ⟨_, pss_cons (ps_if (PW.pt (pw_or (pt_not (pt_val (pe_callB call_isi (by rfl) N.isinstance (by decide +kernel) (pa_cons (pv 0) (pa_cons (pe_bltn (v := .ty "tuple") (by rfl) N.tuple (by decide +kernel) rfl) pa_nil))))) (pw_or1 (pt_cmpR op_ne (pe_callB call_len_seq (by rfl) N.len PySem.boot_len (pa_cons (pv 0) pa_nil)) pe_int (nomark _))))) (pss_one (ps_ret pe_bl)) pss_nil)
      (pss_cons (ps_asg (pv 0) (pg_tup rfl (pgs_cons (pg_name (i := 1) scIc.nd rfl (Or.inl rfl)) (pgs_cons (pg_name (i := 2) scIc.nd rfl (Or.inl rfl)) (pgs_cons (pg_name (i := 3) scIc.nd rfl (Or.inl rfl)) (pgs_cons (pg_name (i := 4) scIc.nd rfl (Or.inl rfl)) pgs_nil))))))
      (pss_cons (ps_if (PW.pt (pw_or (pt_not (pt_val (pe_call G_is_name (hr.mono (by decide)) (by rfl) C_is_name.g C_is_name.kp C_is_name.b .nil pass0 (pa_cons (pv 1) pa_nil)))) (pw_or (pt_not (pt_val (pe_call G_is_number_to (hr.mono (by decide)) (by rfl) C_is_number_to.g C_is_number_to.kp C_is_number_to.b .nil pass0 (pa_cons (pv 2) (pa_cons (pe_glob (v := .int 20) rfl g_MOST_STAGES ⟨_, rfl⟩) pa_nil))))) (pw_or1 (pt_cmpR op_eq (pv 2) pe_int (nomark _)))))) (pss_one (ps_ret pe_bl)) pss_nil)
      (pss_one (ps_ret (pe_and (pe_call G_are_ends (hr.mono (by decide)) (by rfl) C_are_ends.g C_are_ends.kp C_are_ends.b .nil pass0 (pa_cons (pv 3) (pa_cons (pv 2) pa_nil))) (pe_one (pe_call G_are_steps (hr.mono (by decide)) (by rfl) C_are_steps.g C_are_steps.kp C_are_steps.b .nil pass0 (pa_cons (pv 4) (pa_cons (pv 2) pa_nil))))))))), ?_⟩
    have hA := hc.t
    refine ⟨_, rfl, .ref c.a, .ty "tuple", .type "tuple", .type "tuple", true, rfl, .ty "tuple", tyT hA, kit_ty (by decide +kernel), true, rfl, iteF ?_⟩
    refine ⟨_, rfl, c.a, _, rfl, .inr hA, rfl, _, rfl, iteNo (by simp [crsV]) ?_⟩
    refine ⟨_, rfl, c.a, _, rfl, hA, rfl, _, _, rfl, _, _, rfl, _, _, rfl, _, _, rfl, rfl, ?_⟩
    have y1 : (decide ((0 : Int) ≤ (c.n : Int)) && decide ((c.n : Int) ≤ 20)) = true := by
      have := ok.n1
      rw [decide_eq_true (by omega), decide_eq_true (by omega)]
      rfl
    refine ⟨_, rfl, _, rfl, .inr ⟨_, rfl, name_len ok.nm, fun H1 s1 => ?_⟩⟩
    rw [ok.nm]
    refine ⟨true, rfl, iteF ?_⟩
    refine ⟨_, rfl, _, _, rfl, ?_⟩
    rw [y1]
    refine ⟨true, rfl, iteF ?_⟩
    have n0 := ok.n0
    refine ⟨_, rfl, rfl, _, rfl, iteNo (decide_eq_false fun h => by injection h with h; omega) ?_⟩
    refine ⟨_, rfl, _, rfl, c.ea, c.n, c.es, rfl, Same.sqT s1 hc.e, ok.ez, ok.asc, ok.el, fun H2 s2 => ?_⟩
    refine ⟨_, rfl, iteYes rfl ?_⟩
    exact ⟨_, rfl, _, rfl, c.sa, c.n, c.ss, rfl, Same.sqT (s1.trans s2) hc.s, fun p hp => (s1.trans s2) _ _ (hc.p p hp), (Nat.le_trans ok.sz (by decide)), ok.nd, ok.sl, fun H3 s3 => q H3 ((s1.trans s2).trans s3)⟩
end
end Kb
namespace Kb
open PySem PySem.Spec PyProof.Rows L2
/-! ### the deeds of courses -/
def addD (l : List Str) (d : Str) : List Str := if d ∈ l then l else l ++ [d]
/-- each text once, where it stands first -/
def uniq (l : List Str) : List Str := l.foldl addD []
theorem uniq_snoc (l : List Str) (d : Str) : uniq (l ++ [d]) = addD (uniq l) d := by
  unfold uniq
  rw [List.foldl_append]
  rfl
theorem uniq_ind {C : List Str → List Str → Prop} (h0 : C [] []) (h1 : ∀ l d, C l (uniq l) → C (l ++ [d]) (addD (uniq l) d)) : ∀ l, C l (uniq l) := by
  intro l
  have : ∀ n, ∀ l : List Str, l.length = n → C l (uniq l) := by
    intro n
    induction n with
    | zero =>
      intro l h
      rw [List.eq_nil_of_length_eq_zero h]
      exact h0
    | succ n ih =>
      intro l h
      have hne : l ≠ [] := by
        intro z
        rw [z] at h
        cases h
      have e := List.dropLast_concat_getLast hne
      rw [← e, uniq_snoc]
      exact h1 _ _ (ih _ (by rw [List.length_dropLast, h]; rfl))
  exact this _ l rfl
theorem mem_uniq (l : List Str) (x : Str) : x ∈ uniq l ↔ x ∈ l := by
  refine uniq_ind (C := fun l u => x ∈ u ↔ x ∈ l) (Iff.rfl) (fun l d h => ?_) l
  unfold addD
  by_cases hd : d ∈ uniq l
  · rw [if_pos hd, h, List.mem_append, List.mem_singleton]
    refine ⟨.inl, fun z => z.elim id fun z => ?_⟩
    rw [z] at h ⊢
    exact h.mp hd
  · rw [if_neg hd, List.mem_append, List.mem_append, h]
theorem uniq_nd (l : List Str) : (uniq l).Nodup := by
  refine uniq_ind (C := fun l u => u.Nodup) List.nodup_nil (fun l d h => ?_) l
  unfold addD
  by_cases hd : d ∈ uniq l
  · rw [if_pos hd]
    exact h
  · rw [if_neg hd, List.nodup_append]
    exact ⟨h, by simp, fun a ha b hb e => hd (by rw [← List.mem_singleton.mp hb, ← e]; exact ha)⟩
theorem uniq_len (l : List Str) : (uniq l).length ≤ l.length := by
  refine uniq_ind (C := fun l u => u.length ≤ l.length) (Nat.le_refl _) (fun l d h => ?_) l
  unfold addD
  rw [List.length_append]
  split
  · exact Nat.le_trans h (Nat.le_add_right _ _)
  · rw [List.length_append]
    exact Nat.add_le_add_right h _
def deedKV (l : List Str) : List (L2.Key × V) := l.map fun d => (Sum.inr d, V.bl true)
theorem deedKV_keys (l : List Str) : (deedKV l).map (·.1) = l.map Sum.inr := by
  unfold deedKV
  rw [List.map_map]
  rfl
theorem deedKV_len (l : List Str) : (deedKV l).length = l.length := List.length_map _
theorem put_deed (l : List Str) (d : Str) : putK (deedKV l) (Sum.inr d : L2.Key) (V.bl true) = deedKV (addD l d) := by
  unfold addD
  by_cases h : d ∈ l
  · rw [if_pos h]
    unfold putK
    have hany : ((deedKV l).any fun q => decide (q.1 = (Sum.inr d : L2.Key))) = true := by
      rw [List.any_eq_true]
      exact ⟨(Sum.inr d, V.bl true), List.mem_map.mpr ⟨d, h, rfl⟩, decide_eq_true rfl⟩
    rw [if_pos hany]
    have : ∀ q ∈ deedKV l, (if q.1 = (Sum.inr d : L2.Key) then ((q.1, V.bl true) : L2.Key × V) else q) = q := by
      intro q hq
      obtain ⟨x, hx, rfl⟩ := List.mem_map.mp hq
      split <;> rfl
    exact (List.map_congr_left this).trans (List.map_id _)
  · rw [if_neg h, putK_new, deedKV, deedKV, List.map_append]
    · rfl
    · rw [deedKV_keys]
      intro z
      obtain ⟨y, hy, e⟩ := List.mem_map.mp z
      exact h (by rw [← Sum.inr.inj e]; exact hy)
/-- the deeds of some steps, in their order -/
def dn (ss : List (Addr × Stp)) : List Str := (ss.filter fun p => !p.2.call).map (·.2.nm)
def dns (cs : List CA) : List Str := cs.flatMap fun c => dn c.ss
theorem dn_snoc {ss : List (Addr × Stp)} {i : Nat} {p : Addr × Stp} (h : ss[i]? = some p) : dn (ss.take (i + 1)) = dn (ss.take i) ++ (if p.2.call = true then [] else [p.2.nm]) := by
  unfold dn
  rw [take_of_get h, List.filter_append, List.map_append]
  cases e : p.2.call
  · simp [e]
  · simp [e]
theorem dns_snoc {cs : List CA} {i : Nat} {c : CA} (h : cs[i]? = some c) : dns (cs.take (i + 1)) = dns (cs.take i) ++ dn c.ss := by
  unfold dns
  rw [take_of_get h, List.flatMap_append]
  simp
theorem dn_len (ss : List (Addr × Stp)) : (dn ss).length ≤ ss.length := by
  unfold dn
  rw [List.length_map]
  exact List.length_filter_le _ _
theorem dns_le {cs : List CA} {i j : Nat} {c : CA} (h : cs[i]? = some c) : (dns (cs.take i) ++ dn (c.ss.take j)).length ≤ (dns cs).length := by
  have e : cs = cs.take i ++ c :: cs.drop (i + 1) := by
    conv => lhs; rw [← List.take_append_drop i cs, drop_of_get h]
  have e2 : dns cs = dns (cs.take i) ++ (dn c.ss ++ dns (cs.drop (i + 1))) := by
    conv => lhs; rw [e]
    unfold dns
    rw [List.flatMap_append, List.flatMap_cons]
  rw [e2, List.length_append, List.length_append, List.length_append]
  have : (dn (c.ss.take j)).length ≤ (dn c.ss).length := by
    unfold dn
    rw [List.length_map, List.length_map]
    exact (List.Sublist.filter _ (List.take_sublist j c.ss)).length_le
  omega
def CsAt (K : PySem.W.Frag) (H : Hp) (a : Addr) (cs : List CA) : Prop := SqT K H a (cs.map fun c => V.ref c.a) ∧ ∀ c ∈ cs, CrsAt K H c
theorem CsAt.mono {K : PySem.W.Frag} {H H' : Hp} {a : Addr} {cs : List CA} (s : Same H H') (h : CsAt K H a cs) : CsAt K H' a cs := ⟨Same.sqT s h.1, fun c hc => (h.2 c hc).mono s⟩
section
variable {P : Program} {w : World} {K : PySem.W.Frag} {mg : Str → Option Value} {base : Heap}
def spDeedsIn (K : PySem.W.Frag) : Sp := fun vs H Q _ => ∃ (a : Addr) (cs : List CA), vs = [.ref a] ∧ CsAt K H a cs ∧ (dns cs).length ≤ 100000 ∧ ∀ H' D, Same H H' → H D = none → H' D = some (.dK (deedKV (uniq (dns cs)))) → Q (.ref D) H'
abbrev nDi : List Str := ["courses", "course", "step"]
theorem scDi : FnScope nDi ["courses"] (defScope sDeedsIn) := ⟨rfl, rfl, rfl, by decide +kernel, rfl, by decide +kernel, by decide +kernel⟩
theorem ok_deedsin {f : Addr} {fd : FuncData} (F : Fun K "deeds_in" "deeds_in" sDeedsIn f fd) : FnOk P w K mg base CX0 1 f fd ["courses"] (spDeedsIn K) := by
  refine F.ok scDi (fun vs H Q E h => ?_) (fun cdv A outer s H vs Q E hr h => ?_)
  · obtain ⟨a, cs, rfl, _⟩ := h
    rfl
  · obtain ⟨a, cs, rfl, hC, hz, q⟩ := h
    refine ⟨_, pss_one (ps_ret (Ka.pe_dc2 (own := [("course", 1), ("step", 2)]) (vs1 := [2]) (g := gName 1) (g1 := gName 2) (tt := tYes) Ka.storeK rfl scDi.nd (pi_tup (pv 0)) (blkOk_by (own := [("course", 1), ("step", 2)]) (N := nDi) (sc := defScope sDeedsIn) (by decide +kernel)) (by decide) (fun _ _ _ _ _ => (pg_name (i := 1) scDi.nd rfl (Or.inl rfl))) (fun _ _ _ _ _ => pts_nil) (fun _ _ _ _ _ => (piT_at (K := K) rfl (pe_ix (ixT_at (K := K) rfl) (pv 1) pe_int (fun _ _ => rfl)))) (fun _ _ _ _ _ => (pg_name (i := 2) scDi.nd rfl (Or.inl rfl))) (fun _ _ _ _ _ => pts_one (pt_cmpR op_eq (pe_ix (ixT_at (K := K) rfl) (pv 2) pe_int (fun _ _ => rfl)) pe_str (nomark _))) (fun _ _ _ _ _ => (pe_ix (ixT_at (K := K) rfl) (pv 2) pe_int (fun _ _ => rfl))) (fun _ _ _ _ _ => pe_bl))), ?_⟩
    refine ⟨.ref a, rfl, a, rfl, ⟨_, hC.1⟩, fun D nD => ?_⟩
    refine out_it (walk_tup (K := K) (a := a) (xs := cs.map fun c => V.ref c.a)) (fun i G => Same H G ∧ G D = some (.dK (deedKV (uniq (dns (cs.take i)))))) ⟨same_new nD, upd_same⟩ (fun _ _ _ h => Same.sqT h.1 hC.1) (fun i x G G' hi h y => ?_) (fun G h => ?_)
    · obtain ⟨rfl, hx⟩ := y
      obtain ⟨c, hc, rfl⟩ := get_map hx
      have mc := hC.2 c (List.mem_of_getElem? hc)
      obtain ⟨sG, eG⟩ := h
      have mcG := mc.mono sG
      refine ⟨rfl, ⟨_, rfl, c.a, _, _, .ref c.sa, rfl, rfl, mcG.t, rfl, c.sa, rfl, ⟨_, mcG.s⟩, ?_⟩⟩
      refine in_it (walk_tup (K := K) (a := c.sa) (xs := c.ss.map fun p => V.ref p.1)) (fun j G2 => Same H G2 ∧ G2 D = some (.dK (deedKV (uniq (dns (cs.take i) ++ dn (c.ss.take j)))))) ⟨sG, by rw [eG]; simp [dn]⟩ (fun _ _ _ h => Same.sqT h.1 mc.s) (fun j x G2 G3 hj h2 y => ?_) (fun G2 h2 => ?_)
      · obtain ⟨rfl, hx⟩ := y
        obtain ⟨p, hp, rfl⟩ := get_map hx
        obtain ⟨s2, e2⟩ := h2
        have hpt := s2 _ _ (mc.p p (List.mem_of_getElem? hp))
        have hle := Nat.le_trans (uniq_len _) (dns_le (j := j) hc)
        refine ⟨rfl, _, rfl, p.1, _, _, .str (kindS p.2.call), rfl, rfl, sqT_new hpt, rfl, rfl, _, rfl, ?_⟩
        cases ec : p.2.call with
        | true =>
          refine iteNo (by show decide (V.str (kindS true) = V.str "do") = false; decide +kernel) ?_
          refine ⟨s2, ?_⟩
          rw [e2, dn_snoc hp, ec, if_pos rfl, List.append_nil]
        | false =>
          refine iteYes (by show decide (V.str (kindS false) = V.str "do") = true; decide +kernel) ?_
          refine ⟨_, rfl, p.1, _, _, .str p.2.nm, rfl, rfl, sqT_new hpt, rfl, _, Sum.inr p.2.nm, rfl, e2, ?_, fun b o e => ?_, ?_⟩
          · rw [deedKV_len]
            exact small (by omega)
          · rw [upd_ne (ne_of_none e nD)]
            exact s2 _ _ e
          · rw [upd_same, put_deed, ← uniq_snoc, dn_snoc hp, ec, if_neg Bool.false_ne_true, List.append_assoc]
      · refine ⟨h2.1, ?_⟩
        rw [h2.2, dns_snoc hc, List.length_map, List.take_of_length_le (Nat.le_refl _)]
    · obtain ⟨sG, eG⟩ := h
      rw [List.length_map, List.take_of_length_le (Nat.le_refl _)] at eG
      exact q G D sG nD eG
end
end Kb
namespace Kb
open PySem PySem.Spec PyProof.Rows L2
/-! ### check_each, check_together: of good courses -/
theorem deed_no {l : List Str} {d : Str} (h : d ∉ l) : valV (deedKV l) (Sum.inr d : L2.Key) = none := valV_none (by
  rw [deedKV_keys]
  intro z
  obtain ⟨y, hy, e⟩ := List.mem_map.mp z
  exact h (by rw [← Sum.inr.inj e]; exact hy))
theorem deed_yes {l : List Str} {d : Str} (h : d ∈ l) : (valV (deedKV l) (Sum.inr d : L2.Key)).isSome = true := by
  rw [← valV_any, List.any_eq_true]
  exact ⟨(Sum.inr d, V.bl true), List.mem_map.mpr ⟨d, h, rfl⟩, decide_eq_true rfl⟩
theorem nodup_le : ∀ {l m : List Str}, l.Nodup → (∀ x ∈ l, x ∈ m) → l.length ≤ m.length
  | [], _, _, _ => Nat.zero_le _
  | x :: l, m, nd, h => by
    rw [List.nodup_cons] at nd
    have hx := h x List.mem_cons_self
    have := nodup_le (l := l) (m := m.erase x) nd.2 fun y hy => (List.mem_erase_of_ne fun e => nd.1 (by rw [← e]; exact hy)).mpr (h y (List.mem_cons_of_mem _ hy))
    rw [List.length_erase_of_mem hx] at this
    have := List.length_pos_of_mem hx
    rw [List.length_cons]
    omega
theorem merge_deeds : ∀ (m l : List Str), l.Nodup → ∃ r, mergeK (deedKV l) (deedKV m) = deedKV r ∧ r.Nodup ∧ ∀ x ∈ r, x ∈ l ∨ x ∈ m
  | [], l, nd => ⟨l, rfl, nd, fun x hx => .inl hx⟩
  | d :: m, l, nd => by
    have e : mergeK (deedKV l) (deedKV (d :: m)) = mergeK (deedKV (addD l d)) (deedKV m) := by
      show mergeK (putK (deedKV l) (Sum.inr d) (V.bl true)) (deedKV m) = _
      rw [put_deed]
    have nd2 : (addD l d).Nodup := by
      unfold addD
      by_cases hd : d ∈ l
      · rw [if_pos hd]
        exact nd
      · rw [if_neg hd, List.nodup_append]
        exact ⟨nd, by simp, fun a ha b hb e => hd (by rw [← List.mem_singleton.mp hb, ← e]; exact ha)⟩
    obtain ⟨r, h1, h2, h3⟩ := merge_deeds m (addD l d) nd2
    refine ⟨r, e.trans h1, h2, fun x hx => ?_⟩
    rcases h3 x hx with z | z
    · unfold addD at z
      split at z
      · exact .inl z
      · rcases List.mem_append.mp z with z | z
        · exact .inl z
        · exact .inr (by rw [List.mem_singleton.mp z]; exact List.mem_cons_self)
    · exact .inr (List.mem_cons_of_mem _ z)
theorem dns_one (c : CA) : dns [c] = dn c.ss := by
  unfold dns
  simp
theorem dns_mem {cs : List CA} {c : CA} (h : c ∈ cs) {x : Str} (hx : x ∈ dn c.ss) : x ∈ dns cs := List.mem_flatMap.mpr ⟨c, h, hx⟩
def calls (ss : List (Addr × Stp)) : List Str := (ss.filter fun p => p.2.call).map (·.2.nm)
def nStages (cs : List CA) : Nat := (cs.map (·.n)).foldr (· + ·) 0
theorem calls_snoc {ss : List (Addr × Stp)} {i : Nat} {p : Addr × Stp} (h : ss[i]? = some p) : calls (ss.take (i + 1)) = calls (ss.take i) ++ (if p.2.call = true then [p.2.nm] else []) := by
  unfold calls
  rw [take_of_get h, List.filter_append, List.map_append]
  cases e : p.2.call
  · simp [e]
  · simp [e]
theorem calls_len (ss : List (Addr × Stp)) : (calls ss).length ≤ ss.length := by
  unfold calls
  rw [List.length_map]
  exact List.length_filter_le _ _
theorem nStages_snoc {cs : List CA} {i : Nat} {c : CA} (h : cs[i]? = some c) : nStages (cs.take (i + 1)) = nStages (cs.take i) + c.n := by
  unfold nStages
  rw [take_of_get h, List.map_append, List.map_singleton, List.foldr_append]
  have : ∀ (l : List Nat) (x : Nat), l.foldr (· + ·) x = l.foldr (· + ·) 0 + x := by
    intro l x
    induction l with
    | nil => simp
    | cons y l ih => rw [List.foldr_cons, List.foldr_cons, ih]; omega
  rw [this]
  simp
theorem nStages_le (cs : List CA) (i : Nat) : nStages (cs.take i) ≤ nStages cs := by
  induction cs generalizing i with
  | nil => simp
  | cons c cs ih =>
    cases i with
    | zero => exact Nat.zero_le _
    | succ i =>
      have := ih i
      unfold nStages at this ⊢
      rw [List.take_succ_cons, List.map_cons, List.map_cons, List.foldr_cons, List.foldr_cons]
      omega
/-- courses of which a book is made -/
structure CsOk (cs : List CA) : Prop where
  n8 : cs.length ≤ 8
  n1 : cs ≠ []
  ok : ∀ c ∈ cs, CrsOk c
  nd : (cs.map (·.nm)).Nodup
  cl : ∀ c ∈ cs, ∀ x ∈ calls c.ss, x ∈ cs.map (·.nm)
  st : nStages cs ≤ 60
  dz : (dns cs).length ≤ 100000
  d12 : (uniq (dns cs)).length ≤ 12
section
variable {P : Program} {w : World} {K : PySem.W.Frag} {mg : Str → Option Value} {base : Heap}
def spChEach (K : PySem.W.Frag) : Sp := fun vs H Q _ => ∃ (a : Addr) (cs : List CA), vs = [.ref a] ∧ CsAt K H a cs ∧ CsOk cs ∧ ∀ H', Same H H' → Q .non H'
abbrev nCe : List Str := ["courses", "earlier", "at", "course"]
theorem scCe : FnScope nCe ["courses"] (defScope sChEach) := ⟨rfl, rfl, rfl, by decide +kernel, rfl, by decide +kernel, by decide +kernel⟩
theorem ok_cheach {f fI : Addr} {fd fdI : FuncData} (F : Fun K "check_each" "check_each" sChEach f fd) (N : Nones mg) {tag : Nat} (g_MOST_COURSES : mg "MOST_COURSES" = some (.int 8 tag)) (G_is_course : FnOk P w K mg base CX0 6 fI fdI ["value"] (spIsCourse K)) (C_is_course : CallC K mg "is_course" ["value"] fI fdI) : FnOk P w K mg base CX0 7 f fd ["courses"] (spChEach K) := by
  refine F.ok scCe (fun vs H Q E h => ?_) (fun cdv A outer s H vs Q E hr h => ?_)
  · obtain ⟨a, cs, rfl, _⟩ := h
    rfl
  · obtain ⟨a, cs, rfl, hC, ok, q⟩ := h
    refine ⟨_, pss_cons (ps_set (i := 1) scCe.nd rfl (Or.inl rfl) pe_dnewK)
      (pss_cons (ps_for PassesOwn.never rfl (Ka.pi_enumT (by rfl) N.enumerate (pa_cons (pv 0) pa_nil)) (pg_tup rfl (pgs_cons (pg_name (i := 2) scCe.nd rfl (Or.inl rfl)) (pgs_cons (pg_name (i := 3) scCe.nd rfl (Or.inl rfl)) pgs_nil)))
        (pss_cons (ps_if (PW.pt (pw_or (pt_cmpR op_ge (pv 2) (pe_glob (v := .int 8) rfl g_MOST_COURSES ⟨_, rfl⟩) (nomark _)) (pw_or (pt_not (pt_val (pe_call G_is_course (hr.mono (by decide)) (by rfl) C_is_course.g C_is_course.kp C_is_course.b .nil pass0 (pa_cons (pv 3) pa_nil)))) (pw_or1 (pt_cmp (pc_din (hu_of hr) (pe_ix ix_tup (pv 3) pe_int (fun _ _ => rfl)) (pv 1))))))) (pss_one ps_never) pss_nil)
        (pss_one (ps_dput (hu_of hr) (pv 1) (pe_ix ix_tup (pv 3) pe_int (fun _ _ => rfl)) pe_bl rfl))))
      (pss_one (ps_if (pt_not (pt_truth (pv 0) (by intro _; rfl))) (pss_one ps_never) pss_nil))), ?_⟩
    intro d nd
    refine ⟨.ref a, rfl, a, _, rfl, Same.sqT (same_new nd) hC.1, ?_⟩
    refine for_it (walk_enumT (K := K) (a := a) (xs := cs.map fun c => V.ref c.a)) (fun i σ G => ∃ x2 x3 : Option V, σ = [some (.ref a), some (.ref d), x2, x3] ∧ Same H G ∧ G d = some (.dK (deedKV ((cs.take i).map (·.nm))))) ⟨none, none, rfl, same_new nd, upd_same⟩ (fun i σ G _ h => ?_) (fun i x σ G G' hi h y => ?_) (fun σ G h => ?_)
    · obtain ⟨_, _, _, sG, _⟩ := h
      exact Same.sqT sG hC.1
    · obtain ⟨T, z, v, rfl, nT, rfl, hz, hv⟩ := y
      obtain ⟨x2, x3, rfl, sG, eG⟩ := h
      cases hz
      obtain ⟨c, hc, rfl⟩ := get_map hv
      have mc := List.mem_of_getElem? hc
      have hi := lt_of_get hc
      have s1 := sG.trans (same_new (o := .tup [V.int (i : Nat), V.ref c.a]) nT)
      have e1 := (same_new (o := .tup [V.int (i : Nat), V.ref c.a]) nT) _ _ eG
      have n8 := ok.n8
      refine ⟨T, _, rfl, sqT_new upd_same, rfl, _, _, rfl, _, _, rfl, rfl, ?_⟩
      refine ⟨_, rfl, _, _, rfl, rfl, _, rfl, iteNo (decide_eq_false (by rw [List.length_map] at *; omega)) ?_⟩
      refine ⟨_, rfl, c, rfl, (hC.2 c mc).mono s1, ok.ok c mc, fun G2 s2 => ?_⟩
      refine ⟨true, rfl, iteF ?_⟩
      have hCc := (hC.2 c mc).mono (s1.trans s2)
      refine ⟨_, rfl, c.a, _, _, .str c.nm, rfl, rfl, hCc.t, rfl, _, rfl, d, _, rfl, DGet.k (k := Sum.inr c.nm) (s2 _ _ e1), ?_⟩
      have nin : c.nm ∉ (cs.take i).map (·.nm) := by
        intro z
        have nd := ok.nd
        rw [← List.take_append_drop i cs, List.map_append, drop_of_get hc, List.map_cons, List.nodup_append] at nd
        exact nd.2.2 _ z _ List.mem_cons_self rfl
      refine ⟨_, rfl, ?_⟩
      refine iteNo (by show (valV (deedKV ((cs.take i).map (·.nm))) (Sum.inr c.nm : L2.Key)).isSome = false; rw [deed_no nin]; rfl) ?_
      refine ⟨_, rfl, _, rfl, c.a, _, _, .str c.nm, rfl, rfl, hCc.t, rfl, d, _, rfl, DPut.k (k := Sum.inr c.nm) (s2 _ _ e1) ?_, _, _, rfl, fun b o e => ?_, ?_⟩
      · rw [deedKV_len, List.length_map, List.length_take]
        exact small (by omega)
      · rw [upd_ne (ne_of_none e nd)]
        exact (s1.trans s2) _ _ e
      · rw [upd_same, put_deed, take_of_get hc, List.map_append, List.map_singleton]
        unfold addD
        rw [if_neg nin]
    · obtain ⟨x2, x3, rfl, sG, eG⟩ := h
      refine ⟨_, rfl, true, ?_, ?_⟩
      · refine .inr (.inl ⟨_, Same.sqT sG hC.1, ?_⟩)
        have := ok.n1
        cases cs with
        | nil => exact absurd rfl this
        | cons c cs => rfl
      · exact iteF (q G sG)
def spChTog (K : PySem.W.Frag) : Sp := fun vs H Q _ => ∃ (a : Addr) (cs : List CA), vs = [.ref a] ∧ CsAt K H a cs ∧ CsOk cs ∧ ∀ H', Same H H' → Q .non H'
abbrev nCt : List Str := ["courses", "names", "stages", "deeds", "at", "course", "called", "step", "name"]
theorem scCt : FnScope nCt ["courses"] (defScope sChTog) := ⟨rfl, rfl, rfl, by decide +kernel, rfl, by decide +kernel, by decide +kernel⟩
theorem ok_chtog {f fI : Addr} {fd fdI : FuncData} (F : Fun K "check_together" "check_together" sChTog f fd) (N : Nones mg) {t1 t2 : Nat} (g_MOST_STAGES_TOGETHER : mg "MOST_STAGES_TOGETHER" = some (.int 60 t1)) (g_MOST_DEEDS : mg "MOST_DEEDS" = some (.int 12 t2)) (G_deeds_in : FnOk P w K mg base CX0 1 fI fdI ["courses"] (spDeedsIn K)) (C_deeds_in : CallC K mg "deeds_in" ["courses"] fI fdI) : FnOk P w K mg base CX0 2 f fd ["courses"] (spChTog K) := by
  refine F.ok scCt (fun vs H Q E h => ?_) (fun cdv A outer s H vs Q E hr h => ?_)
  · obtain ⟨a, cs, rfl, _⟩ := h
    rfl
  · obtain ⟨a, cs, rfl, hC, ok, q⟩ := h
    refine ⟨_, pss_cons (ps_set (i := 1) scCt.nd rfl (Or.inr rfl) (pe_dc (own := [("course", 5)]) (g := gName 5) (tt := tYes) rfl scCt.nd (pi_tup (pv 0)) (blkOk_by (own := [("course", 5)]) (N := nCt) (sc := defScope sChTog) (by decide +kernel)) (fun _ _ _ _ _ => (pg_name (i := 5) scCt.nd rfl (Or.inl rfl))) (fun _ _ _ _ _ => pts_nil) (fun _ _ _ _ _ => (pe_ix (ixT_at (K := K) rfl) (pv 5) pe_int (fun _ _ => rfl))) (fun _ _ _ _ _ => pe_bl)))
      (pss_cons (ps_set (i := 2) scCt.nd rfl (Or.inl rfl) pe_int)
      (pss_cons (ps_set (i := 3) scCt.nd rfl (Or.inl rfl) pe_dnewK)
      (pss_one (ps_for PassesOwn.never rfl (Ka.pi_enumT (by rfl) N.enumerate (pa_cons (pv 0) pa_nil)) (pg_tup rfl (pgs_cons (pg_name (i := 4) scCt.nd rfl (Or.inl rfl)) (pgs_cons (pg_name (i := 5) scCt.nd rfl (Or.inl rfl)) pgs_nil)))
        (pss_cons (ps_aug (i := 2) scCt.nd rfl (Or.inl rfl) (pe_ix ix_tup (pv 5) pe_int (fun _ _ => rfl)) ip_add)
        (pss_cons (ps_expr (pe_bm PySem.F.plainAttrs_dict PySem.F.slot_dict_update PySem.F.type_dict_update Ka.mt_update (pv 3) (pa_cons (pe_call G_deeds_in (hr.mono (by decide)) (by rfl) C_deeds_in.g C_deeds_in.kp C_deeds_in.b .nil pass0 (pa_cons (pe_tup (pa_cons (pv 5) pa_nil)) pa_nil)) pa_nil)))
        (pss_cons (ps_setLc (i := 6) (own := [("step", 7)]) (g := gName 7) rfl scCt.nd rfl rfl (sw_true rfl rfl rfl rfl) (pi_tup (pe_ix ix_tup (pv 5) pe_int (fun _ _ => rfl))) (blkOk_by (own := [("step", 7)]) (N := nCt) (sc := defScope sChTog) (by decide +kernel)) (fun _ _ _ _ _ => (pg_name (i := 7) scCt.nd rfl (Or.inl rfl))) (fun _ _ _ _ _ => pts_one (pt_cmpR op_eq (pe_ix (ixT_at (K := K) rfl) (pv 7) pe_int (fun _ _ => rfl)) pe_str (nomark _))) (fun _ _ _ _ _ => (pe_ix (ixT_at (K := K) rfl) (pv 7) pe_int (fun _ _ => rfl))))
        (pss_cons (ps_if (pt_not (pt_val (pe_callB (cr_all rfl) (by rfl) N.all (by decide +kernel) (pa_cons (pe_lc (own := [("name", 8)]) (g := gName 8) (tt := tYes) rfl scCt.nd (pi_list (pv 6)) (blkOk_by (own := [("name", 8)]) (N := nCt) (sc := defScope sChTog) (by decide +kernel)) (fun _ _ _ _ _ => (pg_name (i := 8) scCt.nd rfl (Or.inl rfl))) (fun _ _ _ _ _ => pts_nil) (fun _ _ _ _ _ => (pe_cmp (pc_din (hu_of hr) (pv 8) (pv 1)) rfl))) pa_nil)))) (pss_one ps_never) pss_nil)
        (pss_one (ps_if (PW.pt (pw_or (pt_cmpR op_gt (pv 2) (pe_glob (v := .int 60) rfl g_MOST_STAGES_TOGETHER ⟨_, rfl⟩) (nomark _)) (pw_or1 (pt_cmpR op_gt (pe_callB call_lenD (by rfl) N.len PySem.boot_len (pa_cons (pv 3) pa_nil)) (pe_glob (v := .int 12) rfl g_MOST_DEEDS ⟨_, rfl⟩) (nomark _))))) (pss_one ps_never) pss_nil)))))))))), ?_⟩
    refine ⟨.ref a, rfl, a, rfl, ⟨_, hC.1⟩, fun ns nns => ?_⟩
    refine dcK_it (walk_tup (K := K) (a := a) (xs := cs.map fun c => V.ref c.a)) (fun i G => Same H G ∧ G ns = some (.dK (deedKV ((cs.take i).map (·.nm))))) ⟨same_new nns, upd_same⟩ (fun _ _ _ h => Same.sqT h.1 hC.1) (fun i x G G' hi h y => ?_) (fun G h => ?_)
    · obtain ⟨rfl, hx⟩ := y
      obtain ⟨c, hc, rfl⟩ := get_map hx
      obtain ⟨sG, eG⟩ := h
      have hi := lt_of_get hc
      have n8 := ok.n8
      have mc := (hC.2 c (List.mem_of_getElem? hc)).mono sG
      have nin : c.nm ∉ (cs.take i).map (·.nm) := by
        intro z
        have nd := ok.nd
        rw [← List.take_append_drop i cs, List.map_append, drop_of_get hc, List.map_cons, List.nodup_append] at nd
        exact nd.2.2 _ z _ List.mem_cons_self rfl
      refine ⟨rfl, _, rfl, c.a, _, _, .str c.nm, rfl, rfl, mc.t, rfl, _, Sum.inr c.nm, rfl, eG, ?_, fun b o e => ?_, ?_⟩
      · rw [deedKV_len, List.length_map, List.length_take]
        exact small (by omega)
      · rw [upd_ne (ne_of_none e nns)]
        exact sG _ _ e
      · rw [upd_same, put_deed, take_of_get hc, List.map_append, List.map_singleton]
        unfold addD
        rw [if_neg nin]
    · obtain ⟨sG, eG⟩ := h
      rw [List.length_map, List.take_of_length_le (Nat.le_refl _)] at eG
      intro d nd
      have sG2 := sG.trans (same_new (o := .dK []) nd)
      have e2 := (same_new (o := .dK []) nd) _ _ eG
      have hdn : d ≠ ns := fun w => by
        rw [w, eG] at nd
        cases nd
      have ed : upd G d (.dK []) d = some (.dK []) := upd_same
      have ndH := sG.free nd
      generalize upd G d (.dK []) = G1 at sG2 e2 ed
      refine ⟨.ref a, rfl, a, _, rfl, Same.sqT sG2 hC.1, ?_⟩
      refine for_it (walk_enumT (K := K) (a := a) (xs := cs.map fun c => V.ref c.a)) (fun i σ G => ∃ (x4 x5 x6 x7 x8 : Option V) (ds : List Str), σ = [some (.ref a), some (.ref ns), some (.int (nStages (cs.take i) : Nat)), some (.ref d), x4, x5, x6, x7, x8] ∧ Same H G ∧ G ns = some (.dK (deedKV (cs.map (·.nm)))) ∧ G d = some (.dK (deedKV ds)) ∧ ds.Nodup ∧ ∀ x ∈ ds, x ∈ uniq (dns cs)) ⟨none, none, none, none, none, [], rfl, sG2, e2, ed, List.nodup_nil, fun x hx => nomatch hx⟩ (fun i σ G _ h => ?_) (fun i x σ G G' hi h y => ?_) (fun σ G h => ?_)
      · obtain ⟨_, _, _, _, _, _, _, sG, _⟩ := h
        exact Same.sqT sG hC.1
      · obtain ⟨T, z, v, rfl, nT, rfl, hz, hv⟩ := y
        obtain ⟨x4, x5, x6, x7, x8, ds, rfl, sG, eN, eD, ndd, sub⟩ := h
        cases hz
        obtain ⟨c, hc, rfl⟩ := get_map hv
        have mc := List.mem_of_getElem? hc
        have okc := ok.ok c mc
        have sT := same_new (o := .tup [V.int (i : Nat), V.ref c.a]) nT
        have hT : upd G T (.tup [V.int (i : Nat), V.ref c.a]) T = some (.tup [V.int (i : Nat), V.ref c.a]) := upd_same
        have eN := sT _ _ eN
        have eD := sT _ _ eD
        have sG := sG.trans sT
        generalize upd G T (.tup [V.int (i : Nat), V.ref c.a]) = G1 at sG hT eN eD
        refine ⟨T, _, rfl, sqT_new hT, rfl, _, _, rfl, _, _, rfl, rfl, ?_⟩
        have hCc := (hC.2 c mc).mono sG
        refine ⟨_, rfl, _, rfl, c.a, _, _, .int (c.n : Nat), rfl, rfl, hCc.t, rfl, _, _, rfl, rfl, ?_⟩
        refine ⟨_, rfl, .inr (.inr (.inl ⟨rfl, .inl ⟨_, eD⟩⟩)), _, rfl, smallE (by show 1 ≤ 1000000; decide), fun U nU => ?_⟩
        have sU := same_new (o := .tup [V.ref c.a]) nU
        have hU : upd G1 U (.tup [V.ref c.a]) U = some (.tup ([c].map fun c => V.ref c.a)) := upd_same
        have eN := sU _ _ eN
        have eD := sU _ _ eD
        have sG := sG.trans sU
        generalize upd G1 U (.tup [V.ref c.a]) = G2 at sG hU eN eD
        refine ⟨U, [c], rfl, ⟨sqT_new hU, fun c2 h2 => ?_⟩, ?_, fun G3 W s3 nW eW => ?_⟩
        · rw [List.mem_singleton.mp h2]
          exact (hC.2 c mc).mono sG
        · rw [dns_one]
          have := dn_len c.ss
          have := okc.sz
          omega
        have dW : d ≠ W := ne_of_none eD nW
        have eN := s3 _ _ eN
        have eD := s3 _ _ eD
        have sG := sG.trans s3
        rw [dns_one] at eW
        obtain ⟨r, em, ndr, hr2⟩ := merge_deeds (uniq (dn c.ss)) ds ndd
        have subR : ∀ x ∈ r, x ∈ uniq (dns cs) := fun x hx => (hr2 x hx).elim (sub x) fun z => (mem_uniq _ _).mpr (dns_mem mc ((mem_uniq _ _).mp z))
        have l12 := ok.d12
        have lr := nodup_le ndr subR
        have lds := nodup_le ndd sub
        have lun := uniq_len (dn c.ss)
        have ldn := dn_len c.ss
        have osz := okc.sz
        refine ⟨d, W, _, _, rfl, rfl, eD, eW, dW, by rw [deedKV_len, deedKV_len]; omega, ?_⟩
        rw [em]
        have kG : ∀ b o, H b = some o → upd G3 d (.dK (deedKV r)) b = some o := fun b o e => by
          rw [upd_ne (ne_of_none e ndH)]
          exact sG _ _ e
        have eN : upd G3 d (.dK (deedKV r)) ns = some (.dK (deedKV (cs.map (·.nm)))) := by
          rw [upd_ne hdn.symm]
          exact eN
        have eD : upd G3 d (.dK (deedKV r)) d = some (.dK (deedKV r)) := upd_same
        generalize upd G3 d (.dK (deedKV r)) = G4 at kG eN eD
        have kG : Same H G4 := kG
        have hCc := (hC.2 c mc).mono kG
        refine ⟨_, rfl, c.a, _, _, .ref c.sa, rfl, rfl, hCc.t, rfl, c.sa, rfl, ⟨_, hCc.s⟩, fun L nL => ?_⟩
        refine lc_it (walk_tup (K := K) (a := c.sa) (xs := c.ss.map fun p => V.ref p.1)) (fun j Z => Same G4 Z ∧ Z L = some (.lst ((calls (c.ss.take j)).map V.str))) ⟨same_new nL, upd_same⟩ (fun _ _ _ h => Same.sqT h.1 hCc.s) (fun j x Z Z' hj h y => ?_) (fun Z h => ?_)
        · obtain ⟨rfl, hx⟩ := y
          obtain ⟨p, hp, rfl⟩ := get_map hx
          obtain ⟨sZ, eZ⟩ := h
          have hpt := sZ _ _ (hCc.p p (List.mem_of_getElem? hp))
          refine ⟨rfl, _, rfl, p.1, _, _, .str (kindS p.2.call), rfl, rfl, sqT_new hpt, rfl, rfl, _, rfl, ?_⟩
          cases ec : p.2.call with
          | false =>
            refine iteNo (by show decide (V.str (kindS false) = V.str "call") = false; decide +kernel) ?_
            refine ⟨sZ, ?_⟩
            rw [eZ, calls_snoc hp, ec, if_neg Bool.false_ne_true, List.append_nil]
          | true =>
            refine iteYes (by show decide (V.str (kindS true) = V.str "call") = true; decide +kernel) ?_
            refine ⟨_, rfl, p.1, _, _, .str p.2.nm, rfl, rfl, sqT_new hpt, rfl, _, eZ, ?_, fun b o e => ?_, ?_⟩
            · rw [List.length_map]
              have := calls_len (c.ss.take j)
              rw [List.length_take] at this
              exact small (by omega)
            · rw [upd_ne (ne_of_none e nL)]
              exact sZ _ _ e
            · rw [upd_same, calls_snoc hp, ec, if_pos rfl, List.map_append]
              rfl
        · obtain ⟨sZ, eZ⟩ := h
          rw [List.length_map, List.take_of_length_le (Nat.le_refl _)] at eZ
          have eN := sZ _ _ eN
          have eD := sZ _ _ eD
          have kZ := kG.trans sZ
          have lca := calls_len c.ss
          refine ⟨.ref L, rfl, L, rfl, ⟨_, sqL_new eZ⟩, fun M nM => ?_⟩
          refine lc_pure (walk_list (K := K) (a := L) (xs := (calls c.ss).map V.str)) ((List.replicate (calls c.ss).length true).map V.bl) (by rw [List.length_map, List.length_map, List.length_replicate]) nM (fun _ s => s.seq (sqL_new eZ)) (fun j x H0 H' hj h0 y => ?_) (fun H' s' e => ?_)
          · obtain ⟨rfl, hx⟩ := y
            obtain ⟨z, hz, rfl⟩ := get_map hx
            have hzn := ok.cl c mc z (List.mem_of_getElem? hz)
            refine ⟨rfl, _, rfl, _, rfl, ns, _, rfl, DGet.k (k := Sum.inr z) (h0.1 _ _ eN), ?_⟩
            dsimp only
            rw [deed_yes hzn]
            refine h0.put nM (fun _ _ h => h) ?_ (by rw [List.length_map, List.length_replicate]; omega)
            rw [List.getElem?_map, List.getElem?_replicate, if_pos (lt_of_get hz)]
            rfl
          · refine ⟨M, _, rfl, sqL_new e, ?_⟩
            rw [all_trueL]
            refine ⟨true, rfl, iteF ?_⟩
            have st := ok.st
            have stl := nStages_le cs (i + 1)
            have sts := nStages_snoc hc
            refine ⟨_, rfl, _, _, rfl, rfl, _, rfl, iteNo (decide_eq_false (by show ¬ (60 : Int) < ((nStages (cs.take i) : Nat) : Int) + (c.n : Int); omega)) ?_⟩
            refine ⟨_, rfl, d, _, rfl, s' _ _ eD, _, _, rfl, rfl, _, rfl, iteNo (decide_eq_false (by rw [deedKV_len]; omega)) ?_⟩
            have es : ((nStages (cs.take i) : Nat) : Int) + (c.n : Int) = ((nStages (cs.take (i + 1)) : Nat) : Int) := by omega
            refine ⟨some (.int (i : Nat)), some (.ref c.a), some (.ref L), x7, x8, r, ?_, kZ.trans s', s' _ _ eN, s' _ _ eD, ndr, subR⟩
            rw [← es]
            rfl
      · obtain ⟨_, _, _, _, _, _, rfl, sG, _⟩ := h
        exact q G sG
end
end Kb
namespace Kb
open PySem PySem.Spec PyProof.Rows L2
/-! ### the source of draws -/
/-- three whole numbers -/
def Box (H : Hp) (x : Addr) : Prop := ∃ b0 b1 b2 : Int, H x = some (.lst [.int b0, .int b1, .int b2])
/-- all but x stands -/
def But (x : Addr) (H H' : Hp) : Prop := ∀ c u, c ≠ x → H c = some u → H' c = some u
theorem But.refl {x : Addr} {H : Hp} : But x H H := fun _ _ _ e => e
theorem But.trans {x : Addr} {H H' H'' : Hp} (a : But x H H') (b : But x H' H'') : But x H H'' := fun c u h e => b c u h (a c u h e)
theorem But.of {x : Addr} {H H' : Hp} (s : Same H H') : But x H H' := fun c u _ e => s c u e
theorem But.upd {x : Addr} {H : Hp} {o : HO} : But x H (upd H x o) := fun c u h e => by
  rw [upd_ne h]
  exact e
theorem Box.mono {x : Addr} {H H' : Hp} (b : Box H x) (s : Same H H') : Box H' x := let ⟨b0, b1, b2, e⟩ := b; ⟨b0, b1, b2, s _ _ e⟩
theorem mod_nat (i : Int) {n : Nat} (h : 0 < n) : ∃ r : Nat, r < n ∧ i % (n : Int) = (r : Int) := by
  have h1 := Int.emod_nonneg i (show (n : Int) ≠ 0 by omega)
  have h2 := Int.emod_lt_of_pos i (show 0 < (n : Int) by omega)
  exact ⟨(i % (n : Int)).toNat, by omega, by omega⟩
theorem small_mul {k : Int} (h1 : -1000000000000 < k) (h2 : k < 1000000000000) : -(2 ^ 64) < k ∧ k < 2 ^ 64 := by omega
section
variable {P : Program} {w : World} {K : PySem.W.Frag} {mg : Str → Option Value} {base : Heap}
theorem scTake : FnScope ["box", "many", "digit", "raw"] ["box", "many"] (defScope sTake) := ⟨rfl, rfl, rfl, by decide +kernel, rfl, by decide +kernel, by decide +kernel⟩
def spTake : Sp := fun vs H Q _ => ∃ (x : Addr) (n : Nat), vs = [.ref x, .int (n : Nat)] ∧ Box H x ∧ 0 < n ∧ n < 2 ^ 60 ∧ ∀ (r : Nat) H', r < n → But x H H' → Box H' x → Q (.int (r : Nat)) H'
theorem ok_take {f : Addr} {fd : FuncData} (F : Fun K "_law_take" "_law_take" sTake f fd) (mi : mg "int" = none) : FnOk P w K mg base CX0 1 f fd ["box", "many"] spTake := by
  refine F.ok scTake (fun vs H Q E h => ?_) (fun cdv A outer s H vs Q E hr h => ?_)
  · obtain ⟨x, n, rfl, _⟩ := h
    rfl
  · obtain ⟨x, n, rfl, ⟨b0, b1, b2, hx⟩, hn, hn2, q⟩ := h
    refine ⟨_, pss_cons (ps_if (pt_cmpR op_gt (pe_ix ix_list (pv 0) pe_int (fun _ _ => rfl)) pe_int (nomark _))
        (pss_cons (ps_set (i := 2) scTake.nd rfl (.inl rfl) (pe_op op_mod (pe_callTy call_int1 (by rfl) mi (by decide +kernel) (pa_cons (pe_ix ix_list (pv 0) pe_int (fun _ _ => rfl)) pa_nil)) (pv 1)))
          (pss_cons (ps_asg (pe_op op_fdivW (pe_ix ix_list (pv 0) pe_int (fun _ _ => rfl)) (pv 1)) (pg_sub (pv 0) pe_int set_list)) (pss_one (ps_ret (pv 2))))) pss_nil)
      (pss_cons (ps_asg (pe_op op_add (pe_ix ix_list (pv 0) pe_int (fun _ _ => rfl)) pe_int) (pg_sub (pv 0) pe_int set_list))
      (pss_cons (ps_set (i := 3) scTake.nd rfl (.inl rfl) (pe_op op_mod (pe_callTy call_int1 (by rfl) mi (by decide +kernel) (pa_cons (pe_op op_add (pe_op op_mul (pe_op op_add (pe_ix ix_list (pv 0) pe_int (fun _ _ => rfl)) (pe_op op_mul pe_int (pe_ix ix_list (pv 0) pe_int (fun _ _ => rfl)))) pe_int) pe_int) pa_nil)) pe_int))
      (pss_cons (ps_asg (pe_op op_add (pe_op op_mod (pe_callTy call_int1 (by rfl) mi (by decide +kernel) (pa_cons (pe_op op_add (pe_op op_mul (pv 3) pe_int) pe_int) pa_nil)) pe_int) pe_int) (pg_sub (pv 0) pe_int set_list))
      (pss_one (ps_ret (pe_op op_mod (pe_callTy call_int1 (by rfl) mi (by decide +kernel) (pa_cons (pe_op op_fdivN (pe_op op_add (pe_op op_mul (pv 3) pe_int) (pe_ix ix_list (pv 0) pe_int (fun _ _ => rfl))) pe_int) pa_nil)) (pv 1))))))), ?_⟩
    refine ⟨.ref x, rfl, x, _, 0, .int b0, rfl, rfl, sqL_new hx, rfl, b0, 0, rfl, rfl, _, rfl, ite2 (fun c => ?_) (fun c => ?_)⟩
    · obtain ⟨r, hr1, hr2⟩ := mod_nat b0 hn
      refine ⟨.ref x, rfl, x, _, 0, .int b0, rfl, rfl, sqL_new hx, rfl, .inl ⟨b0, rfl, .int (n : Nat), rfl, b0, (n : Nat), rfl, rfl, (by omega), ?_⟩⟩
      refine ⟨.ref x, rfl, x, _, 0, .int b0, rfl, rfl, sqL_new hx, rfl, .int (n : Nat), rfl, b0, (n : Nat), rfl, rfl, wide_div (b := 60) (by omega) (by omega) (by decide) (by decide), .ref x, rfl, x, _, 0, 0, rfl, rfl, hx, rfl, ?_⟩
      refine ⟨_, rfl, ?_⟩
      show Q (.int (b0 % (n : Int))) _
      rw [hr2]
      exact q r _ hr1 But.upd ⟨_, _, _, upd_same⟩
    · refine ⟨.ref x, rfl, x, _, 2, .int b2, rfl, rfl, sqL_new hx, rfl, _, _, rfl, rfl, .ref x, rfl, x, _, 2, 2, rfl, rfl, hx, rfl, ?_⟩
      generalize hH1 : upd H x _ = H1
      have hx1 : H1 x = some (.lst [.int b0, .int b1, .int (b2 + 1)]) := by rw [← hH1, upd_same]; rfl
      have k1 : But x H H1 := by rw [← hH1]; exact But.upd
      refine ⟨.ref x, rfl, x, _, 1, .int b1, rfl, rfl, sqL_new hx1, rfl, .ref x, rfl, x, _, 2, .int (b2 + 1), rfl, rfl, sqL_new hx1, rfl, 99991, b2 + 1, rfl, rfl, .inl (by decide), b1, _, rfl, rfl, _, 69621, rfl, rfl, .inr (by decide), _, 53, rfl, rfl, .inl ⟨_, rfl, _, 2147483563, rfl, rfl, (by show (0 : Int) < 2147483563; decide), ?_⟩⟩
      refine ⟨_, rfl, _, 40692, rfl, rfl, .inr (by decide), _, 27011, rfl, rfl, .inl ⟨_, rfl, _, 2147483629, rfl, rfl, (by show (0 : Int) < 2147483629; decide), _, 1, rfl, rfl, .ref x, rfl, x, _, 1, 1, rfl, rfl, hx1, rfl, ?_⟩⟩
      generalize hH2 : upd H1 x _ = H2
      obtain ⟨c1, hx2⟩ : ∃ c1 : Int, H2 x = some (.lst [.int b0, .int c1, .int (b2 + 1)]) := ⟨_, by rw [← hH2, upd_same]; rfl⟩
      have k2 : But x H1 H2 := by rw [← hH2]; exact But.upd
      refine ⟨_, rfl, _, 2147483647, rfl, rfl, .inr (by decide), .ref x, rfl, x, _, 1, .int c1, rfl, rfl, sqL_new hx2, rfl, _, c1, rfl, rfl, _, 8191, rfl, rfl, ⟨by decide, by decide⟩, .inl ⟨_, rfl, .int (n : Nat), rfl, _, (n : Nat), rfl, rfl, (by omega), ?_⟩⟩
      obtain ⟨r, hr1, hr2⟩ := mod_nat _ hn
      refine (congrArg (fun z => Q (V.int z) H2) hr2).mpr ?_
      exact q r _ hr1 (k1.trans k2) ⟨_, _, _, hx2⟩
end
end Kb
namespace Kb
open PySem PySem.Spec PyProof.Rows L2
theorem But.free {x p : Addr} {H H1 : Hp} (k : But x H H1) (b : Box H1 x) (h : H1 p = none) : H p = none := by
  cases e : H p with
  | none => rfl
  | some u =>
    by_cases w : p = x
    · obtain ⟨b0, b1, b2, hb⟩ := b
      rw [← w, h] at hb
      cases hb
    · rw [k p u w e] at h
      cases h
theorem Box.ne {x p : Addr} {H : Hp} (b : Box H x) (h : H p = none) : p ≠ x := fun w => by
  obtain ⟨b0, b1, b2, hb⟩ := b
  rw [← w, h] at hb
  cases hb
theorem Box.upd {x p : Addr} {H : Hp} {o : HO} (b : Box H x) (h : p ≠ x) : Box (upd H p o) x := by
  obtain ⟨b0, b1, b2, hb⟩ := b
  exact ⟨b0, b1, b2, by rw [upd_ne (Ne.symm h)]; exact hb⟩
section
variable {P : Program} {w : World} {K : PySem.W.Frag} {mg : Str → Option Value} {base : Heap}
theorem scPick : FnScope ["box", "some"] ["box", "some"] (defScope sPick) := ⟨rfl, rfl, rfl, by decide +kernel, rfl, by decide +kernel, by decide +kernel⟩
def spPick : Sp := fun vs H Q _ => ∃ (x a : Addr) (xs : List V), vs = [.ref x, .ref a] ∧ Box H x ∧ a ≠ x ∧ (H a = some (.lst xs) ∨ H a = some (.tup xs)) ∧ 0 < xs.length ∧ xs.length < 1000000 ∧ ∀ (i : Nat) (v : V) H', xs[i]? = some v → But x H H' → Box H' x → Q v H'
theorem ok_pick {f fT : Addr} {fd fdT : FuncData} (F : Fun K "_law_pick" "_law_pick" sPick f fd) (FT : Fun K "_law_take" "_law_take" sTake fT fdT) (bT : Binds K fdT ["box", "many"] []) (gT : mg "_law_take" = some (.ref fT)) (mi : mg "int" = none) (ml : mg "len" = none) : FnOk P w K mg base CX0 2 f fd ["box", "some"] spPick := by
  have GT : FnOk P w K mg base CX0 1 fT fdT ["box", "many"] spTake := ok_take FT mi
  refine F.ok scPick (fun vs H Q E h => ?_) (fun cdv A outer s H vs Q E hr h => ?_)
  · obtain ⟨x, a, xs, rfl, _⟩ := h
    rfl
  · obtain ⟨x, a, xs, rfl, hx, hax, ha, h0, h1, q⟩ := h
    refine ⟨_, pss_one (ps_ret (pe_ix ix_seq (pv 1) (pe_call GT hr (by rfl) gT FT.kp bT .nil pass0 (pa_cons (pv 0) (pa_cons (pe_callB call_len_seq (by rfl) ml PySem.boot_len (pa_cons (pv 1) pa_nil)) pa_nil))) (fun _ _ => rfl))), ?_⟩
    refine ⟨.ref a, rfl, .ref x, rfl, .ref a, rfl, a, xs, rfl, ha.elim (fun h => .inl (sqL_new h)) (fun h => .inr (sqT_new h)), x, xs.length, rfl, hx, h0, Nat.lt_trans h1 (by decide), fun r H' hr k b => ?_⟩
    have hg : xs[r]? = some (xs[r]'hr) := List.getElem?_eq_getElem hr
    rcases ha with ha | ha
    · exact .inl ⟨a, xs, _, _, rfl, rfl, sqL_new (k _ _ hax ha), atI_nat hg, q r _ H' hg k b⟩
    · exact .inr (.inl ⟨a, xs, _, _, rfl, rfl, sqT_new (k _ _ hax ha), atI_nat hg, q r _ H' hg k b⟩)
end
end Kb
namespace Kb
open PySem PySem.Spec PyProof.Rows L2
/-! ### leaving_of, the stages as keys -/
def skey (c : CA) (k : Nat) : List L2.Key := [.inr c.nm, .inl (k : Int)]
def keysC (c : CA) (j : Nat) : List (List L2.Key) := (List.range j).map (skey c)
def keysOf (cs : List CA) : List (List L2.Key) := cs.flatMap fun c => keysC c c.n
theorem keysOf_snoc {cs : List CA} {i : Nat} {c : CA} (h : cs[i]? = some c) : keysOf (cs.take (i + 1)) = keysOf (cs.take i) ++ keysC c c.n := by
  unfold keysOf
  rw [take_of_get h, List.flatMap_append]
  simp
theorem keysC_snoc (c : CA) (j : Nat) : keysC c (j + 1) = keysC c j ++ [skey c j] := by
  unfold keysC
  rw [List.range_succ, List.map_append]
  rfl
theorem keysC_len (c : CA) (j : Nat) : (keysC c j).length = j := by
  unfold keysC
  rw [List.length_map, List.length_range]
theorem mem_keysC {c : CA} {j k : Nat} (h : k < j) : skey c k ∈ keysC c j := List.mem_map.mpr ⟨k, List.mem_range.mpr h, rfl⟩
theorem keysOf_len : ∀ cs : List CA, (keysOf cs).length = nStages cs
  | [] => rfl
  | c :: cs => by
    have := keysOf_len cs
    unfold keysOf nStages at *
    rw [List.flatMap_cons, List.length_append, List.map_cons, List.foldr_cons, this, keysC_len]
theorem mem_keysOf {cs : List CA} {c : CA} {k : Nat} (h : c ∈ cs) (hk : k < c.n) : skey c k ∈ keysOf cs := List.mem_flatMap.mpr ⟨c, h, mem_keysC hk⟩
theorem skey_inj {c c' : CA} {k k' : Nat} (h : skey c k = skey c' k') : c.nm = c'.nm ∧ k = k' := by
  unfold skey at h
  injection h with h1 h
  injection h with h2 h
  have h1 := Sum.inr.inj h1
  have h2 := Sum.inl.inj h2
  have h2 : (k : Int) = (k' : Int) := h2
  exact ⟨h1, by omega⟩
/-- a key that has not come -/
theorem key_new {cs : List CA} (nd : (cs.map (·.nm)).Nodup) {i : Nat} {c : CA} (h : cs[i]? = some c) (j : Nat) : skey c j ∉ keysOf (cs.take i) ++ keysC c j := by
  intro z
  rcases List.mem_append.mp z with z | z
  · obtain ⟨c', hc', hk⟩ := List.mem_flatMap.mp z
    obtain ⟨k, _, e⟩ := List.mem_map.mp hk
    have e := (skey_inj e).1
    rw [← List.take_append_drop i cs, List.map_append, drop_of_get h, List.map_cons, List.nodup_append] at nd
    exact nd.2.2 _ (List.mem_map.mpr ⟨c', hc', rfl⟩) _ List.mem_cons_self e
  · obtain ⟨k, hk, e⟩ := List.mem_map.mp z
    have := (skey_inj e).2
    have := List.mem_range.mp hk
    omega
theorem keys_nd {cs : List CA} (nd : (cs.map (·.nm)).Nodup) : ∀ i, i ≤ cs.length → (keysOf (cs.take i)).Nodup
  | 0, _ => by simp [keysOf]
  | i + 1, h => by
    have hc : cs[i]? = some (cs[i]'(by omega)) := List.getElem?_eq_getElem _
    have ih := keys_nd nd i (by omega)
    rw [keysOf_snoc hc]
    have : ∀ j, (keysOf (cs.take i) ++ keysC (cs[i]'(by omega)) j).Nodup := by
      intro j
      induction j with
      | zero => simpa [keysC] using ih
      | succ j ihj =>
        rw [keysC_snoc, ← List.append_assoc, List.nodup_append]
        exact ⟨ihj, by simp, fun a ha b hb e => key_new nd hc j (by rw [← List.mem_singleton.mp hb, ← e]; exact ha)⟩
    exact this _
/-- a key, the place of a list, its items -/
abbrev TR := List L2.Key × Addr × List V
def kvT (T : List TR) : List (List L2.Key × V) := T.map fun t => (t.1, V.ref t.2.1)
theorem kvT_keys (T : List TR) : (kvT T).map (·.1) = T.map (·.1) := by
  unfold kvT
  rw [List.map_map]
  rfl
/-- the lists stand, each new since H -/
structure LsAt (H G : Hp) (D : Addr) (n : Nat) (T : List TR) : Prop where
  st : ∀ t ∈ T, G t.2.1 = some (.lst t.2.2) ∧ H t.2.1 = none ∧ t.2.1 ≠ D ∧ t.2.2.length ≤ n
  nd : (T.map (·.2.1)).Nodup
theorem LsAt.mono {H G G' : Hp} {D : Addr} {n : Nat} {T : List TR} (h : LsAt H G D n T) (s : ∀ t ∈ T, ∀ o, G t.2.1 = some o → G' t.2.1 = some o) : LsAt H G' D n T := ⟨fun t ht => ⟨s t ht _ (h.st t ht).1, (h.st t ht).2⟩, h.nd⟩
theorem LsAt.le {H G : Hp} {D : Addr} {n m : Nat} {T : List TR} (h : LsAt H G D n T) (l : n ≤ m) : LsAt H G D m T := ⟨fun t ht => ⟨(h.st t ht).1, (h.st t ht).2.1, (h.st t ht).2.2.1, Nat.le_trans (h.st t ht).2.2.2 l⟩, h.nd⟩
/-- one list gets an item -/
def pushT (T : List TR) (k : List L2.Key) (x : V) : List TR := T.map fun t => if t.1 = k then (t.1, t.2.1, t.2.2 ++ [x]) else t
theorem pushT_keys (T : List TR) (k : List L2.Key) (x : V) : (pushT T k x).map (·.1) = T.map (·.1) := by
  unfold pushT
  rw [List.map_map]
  refine List.map_congr_left fun t _ => ?_
  show (if t.1 = k then (t.1, t.2.1, t.2.2 ++ [x]) else t).1 = t.1
  split <;> rfl
theorem pushT_addr (T : List TR) (k : List L2.Key) (x : V) : (pushT T k x).map (·.2.1) = T.map (·.2.1) := by
  unfold pushT
  rw [List.map_map]
  refine List.map_congr_left fun t _ => ?_
  show (if t.1 = k then (t.1, t.2.1, t.2.2 ++ [x]) else t).2.1 = t.2.1
  split <;> rfl
theorem pushT_kv (T : List TR) (k : List L2.Key) (x : V) : kvT (pushT T k x) = kvT T := by
  unfold pushT kvT
  rw [List.map_map]
  refine List.map_congr_left fun t _ => ?_
  show ((if t.1 = k then (t.1, t.2.1, t.2.2 ++ [x]) else t).1, V.ref (if t.1 = k then (t.1, t.2.1, t.2.2 ++ [x]) else t).2.1) = (t.1, V.ref t.2.1)
  split <;> rfl
theorem inj_of_nd {α β : Type} {f : α → β} : ∀ {l : List α}, (l.map f).Nodup → ∀ {x y : α}, x ∈ l → y ∈ l → f x = f y → x = y
  | [], _, _, _, h, _, _ => nomatch h
  | z :: l, nd, x, y, hx, hy, e => by
    rw [List.map_cons, List.nodup_cons] at nd
    rcases List.mem_cons.mp hx with e1 | hx
    · rcases List.mem_cons.mp hy with e2 | hy
      · rw [e1, e2]
      · exact absurd (List.mem_map.mpr ⟨y, hy, by rw [← e, e1]⟩) nd.1
    · rcases List.mem_cons.mp hy with e2 | hy
      · exact absurd (List.mem_map.mpr ⟨x, hx, by rw [e, e2]⟩) nd.1
      · exact inj_of_nd nd.2 hx hy e
theorem LsAt.push {H G : Hp} {D : Addr} {n : Nat} {T : List TR} (h : LsAt H G D n T) (kn : (T.map (·.1)).Nodup) {t : TR} (ht : t ∈ T) {x : V} : LsAt H (upd G t.2.1 (.lst (t.2.2 ++ [x]))) D (n + 1) (pushT T t.1 x) := by
  refine ⟨fun u hu => ?_, by rw [pushT_addr]; exact h.nd⟩
  obtain ⟨u0, hu0, rfl⟩ := List.mem_map.mp hu
  obtain ⟨a1, a2, a3, a4⟩ := h.st u0 hu0
  by_cases e : u0.1 = t.1
  · have : u0 = t := inj_of_nd kn hu0 ht e
    subst this
    rw [if_pos rfl]
    exact ⟨upd_same, a2, a3, by rw [List.length_append]; exact Nat.add_le_add_right a4 1⟩
  · rw [if_neg e]
    have : u0.2.1 ≠ t.2.1 := fun z => e (by rw [inj_of_nd (f := fun t : TR => t.2.1) h.nd hu0 ht z])
    exact ⟨by rw [upd_ne this]; exact a1, a2, a3, Nat.le_succ_of_le a4⟩
theorem LsAt.snoc {H G : Hp} {D l : Addr} {n : Nat} {T : List TR} {k : List L2.Key} (h : LsAt H G D n T) (e : G l = some (.lst [])) (n0 : H l = none) (nd : l ≠ D) (nT : ∀ t ∈ T, t.2.1 ≠ l) : LsAt H G D n (T ++ [(k, l, [])]) := by
  refine ⟨fun t ht => ?_, ?_⟩
  · rcases List.mem_append.mp ht with ht | ht
    · exact h.st t ht
    · rw [List.mem_singleton.mp ht]
      exact ⟨e, n0, nd, Nat.zero_le _⟩
  · rw [List.map_append, List.nodup_append]
    refine ⟨h.nd, by simp, fun a ha b hb e => ?_⟩
    obtain ⟨t, ht, rfl⟩ := List.mem_map.mp ha
    rw [List.map_singleton, List.mem_singleton] at hb
    exact nT t ht (e.trans hb)
/-- the places of a course's steps that leave the stage k, among the first j -/
def offsTo (ss : List (Addr × Stp)) (j k : Nat) : List Nat := (List.range j).filter fun i => decide ((ss[i]?).map (·.2.n) = some k)
def offs (c : CA) (k : Nat) : List Nat := offsTo c.ss c.ss.length k
theorem offsTo_succ {ss : List (Addr × Stp)} {j : Nat} {p : Addr × Stp} (h : ss[j]? = some p) (k : Nat) : offsTo ss (j + 1) k = offsTo ss j k ++ (if p.2.n = k then [j] else []) := by
  unfold offsTo
  rw [List.range_succ, List.filter_append]
  congr 1
  rw [List.filter_cons, h]
  by_cases e : p.2.n = k
  · simp [e]
  · simp [e]
/-- the table of a book's leaving steps at q -/
def LvAt (H : Hp) (q : Addr) (cs : List CA) : Prop := ∃ M : List (List L2.Key × Addr × List Nat), H q = some (.dT (M.map fun t => (t.1, V.ref t.2.1))) ∧ M.map (·.1) = keysOf cs ∧ (∀ t ∈ M, H t.2.1 = some (.tup (natV t.2.2))) ∧ ∀ t ∈ M, ∀ c ∈ cs, ∀ k, t.1 = skey c k → t.2.2 = offs c k
theorem LvAt.mono {H H' : Hp} {q : Addr} {cs : List CA} (s : Same H H') (h : LvAt H q cs) : LvAt H' q cs := by
  obtain ⟨M, h1, h2, h3, h4⟩ := h
  exact ⟨M, s _ _ h1, h2, fun t ht => s _ _ (h3 t ht), h4⟩
/-- how far the lists have come -/
def PtT (cs : List CA) (i j : Nat) (T : List TR) : Prop := ∀ t ∈ T, ∀ (ci : Nat) (c : CA) (k : Nat), cs[ci]? = some c → t.1 = skey c k → t.2.2 = natV (offsTo c.ss (if ci < i then c.ss.length else if ci = i then j else 0) k)
theorem PtT.next {cs : List CA} {i : Nat} {c : CA} {T : List TR} (hc : cs[i]? = some c) (h : PtT cs i c.ss.length T) : PtT cs (i + 1) 0 T := fun t ht ci c' k hci e => by
  rw [h t ht ci c' k hci e]
  by_cases h1 : ci < i
  · rw [if_pos h1, if_pos (by omega)]
  · rw [if_neg h1]
    by_cases h2 : ci = i
    · subst h2
      rw [hc] at hci
      cases hci
      rw [if_pos rfl, if_pos (by omega)]
    · rw [if_neg h2, if_neg (by omega)]
      by_cases h3 : ci = i + 1
      · rw [if_pos h3]
      · rw [if_neg h3]
theorem PtT.push {cs : List CA} (nd : (cs.map (·.nm)).Nodup) {i j : Nat} {c : CA} {p : Addr × Stp} {T : List TR} {t : TR} (hc : cs[i]? = some c) (hp : c.ss[j]? = some p) (et : t.1 = skey c p.2.n) (h : PtT cs i j T) : PtT cs i (j + 1) (pushT T t.1 (.int (j : Nat))) := fun u hu ci c' k hci e => by
  obtain ⟨u0, hu0, rfl⟩ := List.mem_map.mp hu
  have same : c'.nm = c.nm → ci = i := fun en => by
    have e1 : (cs.map (·.nm))[ci]? = some c.nm := by rw [List.getElem?_map, hci, ← en]; rfl
    have e2 : (cs.map (·.nm))[i]? = some c.nm := by rw [List.getElem?_map, hc]; rfl
    exact (List.getElem?_inj (lt_of_get e1) nd).mp (e1.trans e2.symm)
  by_cases w : u0.1 = t.1
  · rw [if_pos w] at e ⊢
    have e : u0.1 = skey c' k := e
    have e3 : skey c' k = skey c p.2.n := by rw [← e, w, et]
    obtain ⟨n1, n2⟩ := skey_inj e3
    obtain rfl := same n1
    rw [hc] at hci
    cases hci
    subst n2
    show u0.2.2 ++ [V.int (j : Nat)] = _
    rw [h u0 hu0 ci c p.2.n hc e, if_neg (Nat.lt_irrefl _), if_pos rfl, if_neg (Nat.lt_irrefl _), if_pos rfl, offsTo_succ hp, if_pos rfl]
    unfold natV
    rw [List.map_append]
    rfl
  · rw [if_neg w] at e ⊢
    rw [h u0 hu0 ci c' k hci e]
    by_cases h1 : ci < i
    · rw [if_pos h1, if_pos h1]
    · rw [if_neg h1, if_neg h1]
      by_cases h2 : ci = i
      · subst h2
        rw [hc] at hci
        cases hci
        rw [if_pos rfl, if_pos rfl, offsTo_succ hp, if_neg fun z => w (by rw [e, et, z]), List.append_nil]
      · rw [if_neg h2, if_neg h2]
def rTupOf (K : PySem.W.Frag) : List V → Hp → VK → Prop := fun xs H Q => ∃ p ys, xs = [.ref p] ∧ ((SqL K H p ys ∧ ∀ l, H l = none → Q (.ref l) (upd H l (.tup ys))) ∨ (SqT K H p ys ∧ Q (.ref p) H))
theorem tupOf_at {X : Cx} {K : PySem.W.Frag} (h : X.K = K) : CallR X (.type "tuple") (rTupOf K) := by
  subst h
  exact call_tuple_of
section
variable {P : Program} {w : World} {K : PySem.W.Frag} {mg : Str → Option Value} {base : Heap}
def spLeaving (K : PySem.W.Frag) : Sp := fun vs H Q _ => ∃ (a : Addr) (cs : List CA), vs = [.ref a] ∧ CsAt K H a cs ∧ CsOk cs ∧ ∀ H' p, Same H H' → H p = none → LvAt H' p cs → Q (.ref p) H'
abbrev nLe : List Str := ["courses", "found", "course", "k", "step", "number", "stage"]
theorem scLe : FnScope nLe ["courses"] (defScope sLeaving) := ⟨rfl, rfl, rfl, by decide +kernel, rfl, by decide +kernel, by decide +kernel⟩
theorem ok_leaving {f : Addr} {fd : FuncData} (F : Fun K "leaving_of" "leaving_of" sLeaving f fd) (N : Nones mg) : FnOk P w K mg base CX0 1 f fd ["courses"] (spLeaving K) := by
  refine F.ok scLe (fun vs H Q E h => ?_) (fun cdv A outer s H vs Q E hr h => ?_)
  · obtain ⟨a, cs, rfl, _⟩ := h
    rfl
  · obtain ⟨a, cs, rfl, hC, ok, q⟩ := h
    refine ⟨_, pss_cons (ps_set (i := 1) scLe.nd rfl (Or.inr rfl) (Ka.pe_dc2 (own := [("course", 2), ("number", 5)]) (vs1 := [5]) (g := gName 2) (g1 := gName 5) (tt := tYes) (tt1 := tYes) (Ka.storeT (hu_of hr)) rfl scLe.nd (pi_tup (pv 0)) (blkOk_by (own := [("course", 2), ("number", 5)]) (N := nLe) (sc := defScope sLeaving) (by decide +kernel)) (by decide) (fun _ _ _ _ _ => (pg_name (i := 2) scLe.nd rfl (Or.inl rfl))) (fun _ _ _ _ _ => pts_nil) (fun _ _ _ _ _ => (pi_range1 (by rfl) N.range (pa_cons (pe_ix (ixT_at (K := K) rfl) (pv 2) pe_int (fun _ _ => rfl)) pa_nil))) (fun _ _ _ _ _ => (pg_name (i := 5) scLe.nd rfl (Or.inl rfl))) (fun _ _ _ _ _ => pts_nil) (fun _ _ _ _ _ => (pe_tup (pa_cons (pe_ix (ixT_at (K := K) rfl) (pv 2) pe_int (fun _ _ => rfl)) (pa_cons (pv 5) pa_nil)))) (fun _ _ _ _ _ => (pe_lst pa_nil))))
      (pss_cons (ps_for PassesOwn.never rfl (pi_tup (pv 0)) (pg_name (i := 2) scLe.nd rfl (Or.inl rfl))
        (pss_one (ps_for PassesOwn.never rfl (Ka.pi_enumT (by rfl) N.enumerate (pa_cons (pe_ix ix_tup (pv 2) pe_int (fun _ _ => rfl)) pa_nil)) (pg_tup rfl (pgs_cons (pg_name (i := 3) scLe.nd rfl (Or.inl rfl)) (pgs_cons (pg_name (i := 4) scLe.nd rfl (Or.inl rfl)) pgs_nil)))
          (pss_one (ps_expr (pe_bm PySem.F.plainAttrs_list PySem.F.slot_list_append PySem.F.type_list_append mt_append (pe_dget (hu_of hr) (pv 1) (pe_tup (pa_cons (pe_ix ix_tup (pv 2) pe_int (fun _ _ => rfl)) (pa_cons (pe_ix ix_tup (pv 4) pe_int (fun _ _ => rfl)) pa_nil))) (fun _ _ => rfl)) (pa_cons (pv 3) pa_nil)))))))
      (pss_one (ps_ret (pe_lock (Ka.pe_dcT (own := [("stage", 6)]) (g := gName 6) rfl (hu_of hr) scLe.nd (pi_keys (pv 1)) (blkOk_by (own := [("stage", 6)]) (N := nLe) (sc := defScope sLeaving) (by decide +kernel)) (fun _ _ _ _ _ => (pg_name (i := 6) scLe.nd rfl (Or.inl rfl))) (fun _ _ _ _ _ => (pv 6)) (fun _ _ _ _ _ => (pe_callTy (tupOf_at (K := K) rfl) (by rfl) N.tuple (by decide +kernel) (pa_cons (pe_dget (hu_of hr) (pv 1) (pv 6) (fun _ _ => rfl)) pa_nil)))))))), ?_⟩
    have st60 := ok.st
    refine ⟨.ref a, rfl, a, rfl, ⟨_, hC.1⟩, fun D nD => ?_⟩
    refine out_it (walk_tup (K := K) (a := a) (xs := cs.map fun c => V.ref c.a)) (fun i G => ∃ T : List TR, Same H G ∧ G D = some (.dT (kvT T)) ∧ T.map (·.1) = keysOf (cs.take i) ∧ LsAt H G D 0 T) ⟨[], same_new nD, upd_same, rfl, ⟨(fun t ht => nomatch ht), List.nodup_nil⟩⟩ (fun _ _ _ h => Same.sqT h.choose_spec.1 hC.1) (fun i x G G' hi h y => ?_) (fun G h => ?_)
    · obtain ⟨rfl, hx⟩ := y
      obtain ⟨c, hc, rfl⟩ := get_map hx
      obtain ⟨T, sG, eG, kT, lT⟩ := h
      have mc := List.mem_of_getElem? hc
      have mcG := (hC.2 c mc).mono sG
      have okc := ok.ok c mc
      have n1 := okc.n1
      refine ⟨rfl, _, rfl, c.a, _, _, .int (c.n : Nat), rfl, rfl, mcG.t, rfl, _, rfl, by omega, by omega, ?_⟩
      refine in_it (walk_r0 (n := c.n)) (fun j G2 => ∃ T : List TR, Same H G2 ∧ G2 D = some (.dT (kvT T)) ∧ T.map (·.1) = keysOf (cs.take i) ++ keysC c j ∧ LsAt H G2 D 0 T) ⟨T, sG, eG, by rw [kT]; simp [keysC], lT⟩ (fun _ _ _ _ => True.intro) (fun j x G2 G3 hj h2 y => ?_) (fun G2 h2 => ?_)
      · obtain ⟨rfl, rfl⟩ := y
        obtain ⟨T, s2, e2, kT, lT⟩ := h2
        have mc2 := (hC.2 c mc).mono s2
        refine ⟨rfl, _, rfl, c.a, _, _, .str c.nm, rfl, rfl, mc2.t, rfl, _, rfl, smallE (by show 2 ≤ 1000000; decide), fun b nb => ⟨Nat.zero_le _, fun l nl => ?_⟩⟩
        have sb := same_new (o := .tup [V.str c.nm, V.int (j : Nat)]) nb
        have eb : upd G3 b (.tup [V.str c.nm, V.int (j : Nat)]) b = some (.tup ((skey c j).map kV)) := upd_same
        have lT := lT.mono fun t _ o e => sb _ _ e
        have e2 := sb _ _ e2
        have s2 := s2.trans sb
        generalize upd G3 b (.tup [V.str c.nm, V.int (j : Nat)]) = G4 at sb eb lT e2 s2 nl
        have sl := same_new (o := .lst []) nl
        have el : upd G4 l (.lst []) l = some (.lst []) := upd_same
        have nT : ∀ t ∈ T, t.2.1 ≠ l := fun t ht => ne_of_none (lT.st t ht).1 nl
        have lT := lT.mono fun t _ o e => sl _ _ e
        have lD : l ≠ D := fun z => by
          rw [z, e2] at nl
          cases nl
        have nlH := s2.free nl
        have e2 := sl _ _ e2
        have eb := sl _ _ eb
        have s2 := s2.trans sl
        generalize upd G4 l (.lst []) = G5 at sl el lT e2 eb s2
        have len : (kvT T).length ≤ 60 := by
          have h1 : (kvT T).length = (T.map (·.1)).length := by unfold kvT; rw [List.length_map, List.length_map]
          have h2 := nStages_le cs (i + 1)
          have h3 := nStages_snoc hc
          rw [h1, kT, List.length_append, keysOf_len, keysC_len]
          omega
        refine ⟨kvT T, skey c j, b, rfl, eb, e2, small (by omega), T ++ [(skey c j, l, [])], fun b o e => ?_, ?_, ?_, ?_⟩
        · rw [upd_ne (ne_of_none e nD)]
          exact s2 _ _ e
        · rw [upd_same, putK_new]
          · unfold kvT
            rw [List.map_append]
            rfl
          · rw [kvT_keys, kT]
            exact key_new ok.nd hc j
        · rw [List.map_append, kT, keysC_snoc, List.append_assoc]
          rfl
        · refine (lT.snoc el nlH lD nT).mono fun t ht o e => ?_
          rw [upd_ne]
          · exact e
          · rcases List.mem_append.mp ht with z | z
            · exact (lT.st t z).2.2.1
            · rw [List.mem_singleton.mp z]
              exact lD
      · obtain ⟨T, s2, e2, kT, lT⟩ := h2
        exact ⟨T, s2, e2, by rw [kT, keysOf_snoc hc], lT⟩
    · obtain ⟨T, sG, eG, kT, lT⟩ := h
      rw [List.length_map, List.take_of_length_le (Nat.le_refl _)] at kT
      have kn : (T.map (·.1)).Nodup := by
        rw [kT]
        have := keys_nd ok.nd cs.length (Nat.le_refl _)
        rwa [List.take_length] at this
      refine ⟨_, rfl, a, rfl, ⟨_, Same.sqT sG hC.1⟩, ?_⟩
      refine for_it (walk_tup (K := K) (a := a) (xs := cs.map fun c => V.ref c.a)) (fun i σ Z => ∃ (x2 x3 x4 x5 x6 : Option V) (T : List TR), σ = [some (.ref a), some (.ref D), x2, x3, x4, x5, x6] ∧ Same H Z ∧ Z D = some (.dT (kvT T)) ∧ T.map (·.1) = keysOf cs ∧ LsAt H Z D (10000 * i) T ∧ PtT cs i 0 T) ⟨none, none, none, none, none, T, rfl, sG, eG, kT, lT, fun t ht ci c k hci e => by
        have z := (lT.st t ht).2.2.2
        rw [List.eq_nil_of_length_eq_zero (Nat.le_zero.mp z), if_neg (Nat.not_lt_zero _)]
        split <;> rfl⟩ (fun i σ Z _ h => ?_) (fun i x σ Z Z' hi h y => ?_) (fun σ Z h => ?_)
      · obtain ⟨_, _, _, _, _, _, _, sZ, _⟩ := h
        exact Same.sqT sZ hC.1
      · obtain ⟨rfl, hx⟩ := y
        obtain ⟨c, hc, rfl⟩ := get_map hx
        obtain ⟨x2, x3, x4, x5, x6, T, rfl, sZ, eZ, kT, lT, pT⟩ := h
        have mc := List.mem_of_getElem? hc
        have okc := ok.ok c mc
        have osz := okc.sz
        have n8 := ok.n8
        have hi8 := lt_of_get hc
        have mcZ := (hC.2 c mc).mono sZ
        refine ⟨_, rfl, c.a, _, _, .ref c.sa, rfl, rfl, mcZ.t, rfl, c.sa, _, rfl, mcZ.s, ?_⟩
        refine for_it (walk_enumT (K := K) (a := c.sa) (xs := c.ss.map fun p => V.ref p.1)) (fun j σ Y => ∃ (x3 x4 x5 x6 : Option V) (T : List TR), σ = [some (.ref a), some (.ref D), some (.ref c.a), x3, x4, x5, x6] ∧ Same H Y ∧ Y D = some (.dT (kvT T)) ∧ T.map (·.1) = keysOf cs ∧ LsAt H Y D (10000 * i + j) T ∧ PtT cs i j T) ⟨x3, x4, x5, x6, T, rfl, sZ, eZ, kT, lT, pT⟩ (fun j σ Y _ h => ?_) (fun j x σ Y Y' hj h y => ?_) (fun σ Y h => ?_)
        · obtain ⟨_, _, _, _, _, _, sY, _⟩ := h
          exact Same.sqT sY (hC.2 c mc).s
        · obtain ⟨U, z, v, rfl, nU, rfl, hz, hv⟩ := y
          obtain ⟨x3, x4, x5, x6, T, rfl, sY, eY, kT, lT, pT⟩ := h
          cases hz
          obtain ⟨p, hp, rfl⟩ := get_map hv
          have mp := List.mem_of_getElem? hp
          have hjl := lt_of_get hp
          have sU := same_new (o := .tup [V.int (j : Nat), V.ref p.1]) nU
          have hU : upd Y U (.tup [V.int (j : Nat), V.ref p.1]) U = some (.tup [V.int (j : Nat), V.ref p.1]) := upd_same
          have lT := lT.mono fun t _ o e => sU _ _ e
          have eY := sU _ _ eY
          have sY := sY.trans sU
          generalize upd Y U (.tup [V.int (j : Nat), V.ref p.1]) = Y1 at sY hU eY lT
          have mcY := (hC.2 c mc).mono sY
          refine ⟨U, _, rfl, sqT_new hU, rfl, _, _, rfl, _, _, rfl, rfl, ?_⟩
          refine ⟨_, rfl, _, rfl, c.a, _, _, .str c.nm, rfl, rfl, mcY.t, rfl, _, rfl, p.1, _, _, .int (p.2.n : Nat), rfl, rfl, sqT_new (mcY.p p mp), rfl, smallE (by show 2 ≤ 1000000; decide), fun b nb => ?_⟩
          have sb := same_new (o := .tup [V.str c.nm, V.int (p.2.n : Nat)]) nb
          have eb : upd Y1 b (.tup [V.str c.nm, V.int (p.2.n : Nat)]) b = some (.tup ((skey c p.2.n).map kV)) := upd_same
          have lT := lT.mono fun t _ o e => sb _ _ e
          have eY := sb _ _ eY
          have sY := sY.trans sb
          generalize upd Y1 b (.tup [V.str c.nm, V.int (p.2.n : Nat)]) = Y2 at sY eb eY lT
          have hk : skey c p.2.n ∈ T.map (·.1) := by
            rw [kT]
            exact mem_keysOf mc (okc.sl p mp).1
          obtain ⟨t, ht, et⟩ := List.mem_map.mp hk
          have kn : (T.map (·.1)).Nodup := by
            rw [kT]
            have := keys_nd ok.nd cs.length (Nat.le_refl _)
            rwa [List.take_length] at this
          have hv : valV (kvT T) (skey c p.2.n) = some (.ref t.2.1) := valV_mem (by rw [kvT_keys]; exact kn) (List.mem_map.mpr ⟨t, ht, by rw [et]⟩)
          obtain ⟨a1, a2, a3, a4⟩ := lT.st t ht
          refine ⟨D, .ref t.2.1, rfl, hv ▸ DGet.t eY eb, .inl ⟨rfl, _, sqL_new a1⟩, _, rfl, t.2.1, _, _, rfl, rfl, a1, small (by omega), ?_⟩
          refine ⟨some (.int (j : Nat)), some (.ref p.1), x5, x6, pushT T t.1 (.int (j : Nat)), rfl, fun b2 o e => ?_, ?_, by rw [pushT_keys]; exact kT, lT.push kn ht, pT.push ok.nd hc hp et⟩
          · rw [upd_ne (ne_of_none e a2)]
            exact sY _ _ e
          · rw [upd_ne a3.symm, pushT_kv]
            exact eY
        · obtain ⟨x3, x4, x5, x6, T, rfl, sY, eY, kT, lT, pT⟩ := h
          rw [List.length_map] at lT pT
          exact ⟨_, _, _, _, _, T, rfl, sY, eY, kT, lT.le (by omega), pT.next hc⟩
      · obtain ⟨x2, x3, x4, x5, x6, T, rfl, sZ, eZ, kT, lT, pT⟩ := h
        have kn : (T.map (·.1)).Nodup := by
          rw [kT]
          have := keys_nd ok.nd cs.length (Nat.le_refl _)
          rwa [List.take_length] at this
        refine ⟨D, _, eZ, True.intro, fun od => ?_⟩
        generalize hL : upd Z D (.frz od (.dT (kvT T))) = L
        have fL : L D = some (.frz od (.dT (kvT T))) := by rw [← hL]; exact upd_same
        have kL : But D Z L := by rw [← hL]; exact But.upd
        have lT := lT.mono fun t ht o e => kL _ _ (lT.st t ht).2.2.1 e
        have sL : Same H L := fun b o e => kL _ _ (ne_of_none e nD) (sZ _ _ e)
        refine ⟨_, rfl, D, od, rfl, .inr ⟨kvT T, fL, fun D2 nD2 => ?_⟩⟩
        have lenT : (kvT T).length ≤ 60 := by
          have h1 : (kvT T).length = (T.map (·.1)).length := by unfold kvT; rw [List.length_map, List.length_map]
          rw [h1, kT, keysOf_len]
          exact st60
        have full : ∀ t ∈ T, ∀ c ∈ cs, ∀ k, t.1 = skey c k → t.2.2 = natV (offs c k) := fun t ht c hc k e => by
          obtain ⟨ci, hci⟩ := List.getElem?_of_mem hc
          have := pT t ht ci c k hci e
          rw [if_pos (by rw [List.length_map]; exact lt_of_get hci)] at this
          exact this
        have nat : ∀ t ∈ T, ∃ ns, t.2.2 = natV ns ∧ ∀ c ∈ cs, ∀ k, t.1 = skey c k → ns = offs c k := fun t ht => by
          have : t.1 ∈ keysOf cs := by rw [← kT]; exact List.mem_map.mpr ⟨t, ht, rfl⟩
          obtain ⟨c, hc, hk⟩ := List.mem_flatMap.mp this
          obtain ⟨k, _, e⟩ := List.mem_map.mp hk
          refine ⟨offs c k, full t ht c hc k e.symm, fun c' hc' k' e' => ?_⟩
          obtain ⟨n1, n2⟩ := skey_inj (e.trans e')
          obtain ⟨ci, hci⟩ := List.getElem?_of_mem hc
          obtain ⟨cj, hcj⟩ := List.getElem?_of_mem hc'
          have e1 : (cs.map (·.nm))[ci]? = some c.nm := by rw [List.getElem?_map, hci]; rfl
          have e2 : (cs.map (·.nm))[cj]? = some c.nm := by rw [List.getElem?_map, hcj, n1]; rfl
          have := (List.getElem?_inj (lt_of_get e1) ok.nd).mp (e1.trans e2.symm)
          subst this
          rw [hci] at hcj
          cases hcj
          rw [n2]
        refine dcT_it (walk_keysT (d := D) (o := od) (kvs := kvT T)) (fun i Y => Same L Y ∧ ∃ M : List (List L2.Key × Addr × List Nat), Y D2 = some (.dT (M.map fun t => (t.1, V.ref t.2.1))) ∧ M.map (·.1) = (T.take i).map (·.1) ∧ (∀ t ∈ M, Y t.2.1 = some (.tup (natV t.2.2))) ∧ ∀ t ∈ M, ∀ c ∈ cs, ∀ k, t.1 = skey c k → t.2.2 = offs c k) ⟨same_new nD2, [], upd_same, rfl, (fun t ht => nomatch ht), fun t ht => nomatch ht⟩ (fun _ _ _ h => h.1 _ _ fL) (fun i x Y Y' hi h y => ?_) (fun Y h => ?_)
        · obtain ⟨rfl, k, v, b, hkv, rfl, hb⟩ := y
          obtain ⟨sY, M, eY, kM, tM, oM⟩ := h
          obtain ⟨t, ht, e⟩ := get_map hkv
          cases e
          have mt := List.mem_of_getElem? ht
          have hv : valV (kvT T) t.1 = some (.ref t.2.1) := valV_mem (by rw [kvT_keys]; exact kn) (List.mem_map.mpr ⟨t, mt, rfl⟩)
          have hG : DGet Y' D (.ref b) (some (.ref t.2.1)) := .inr ⟨kvT T, t.1, b, .inr ⟨od, sY _ _ fL⟩, rfl, hb, hv.symm⟩
          obtain ⟨ns, hns, hof⟩ := nat t mt
          refine ⟨rfl, _, rfl, _, rfl, _, rfl, D, _, rfl, hG, t.2.1, _, rfl, .inl ⟨sqL_new (sY _ _ (lT.st t mt).1), fun l nl => ?_⟩⟩
          have sl := same_new (o := .tup t.2.2) nl
          have el : upd Y' l (.tup t.2.2) l = some (.tup (natV ns)) := by rw [upd_same, hns]
          have eD := sl _ _ eY
          have hb2 := sl _ _ hb
          generalize upd Y' l (.tup t.2.2) = W at sl el eD hb2
          have nDt : ∀ {c : Addr} {xs : List V}, W c = some (.tup xs) → c ≠ D2 := fun e w => by
            rw [w, eD] at e
            cases e
          have lM : M.length ≤ 60 := by
            have := congrArg List.length kM
            rw [List.length_map, List.length_map, List.length_take] at this
            have h1 : (kvT T).length = T.length := by unfold kvT; rw [List.length_map]
            omega
          refine ⟨_, t.1, b, rfl, hb2, eD, by rw [List.length_map]; exact small (by omega), fun b2 o e => ?_, M ++ [(t.1, l, ns)], ?_, ?_, fun u hu => ?_, fun u hu => ?_⟩
          · rw [upd_ne (ne_of_none e nD2)]
            exact sl _ _ (sY _ _ e)
          · rw [upd_same, putK_new]
            · rw [List.map_append]
              rfl
            · rw [List.map_map]
              have : (List.map ((fun x => x.1) ∘ fun (t : List L2.Key × Addr × List Nat) => (t.1, V.ref t.2.1)) M) = M.map (·.1) := rfl
              rw [this, kM]
              intro z
              have nd2 := kn
              rw [← List.take_append_drop i T, List.map_append, drop_of_get ht, List.map_cons, List.nodup_append] at nd2
              exact nd2.2.2 _ z _ List.mem_cons_self rfl
          · rw [List.map_append, kM, take_of_get ht, List.map_append]
            rfl
          · rcases List.mem_append.mp hu with z | z
            · have a1 := sl _ _ (tM u z)
              rw [upd_ne (nDt a1)]
              exact a1
            · rw [List.mem_singleton.mp z, upd_ne (nDt el)]
              exact el
          · rcases List.mem_append.mp hu with z | z
            · exact oM u z
            · rw [List.mem_singleton.mp z]
              exact hof
        · obtain ⟨sY, M, eY, kM, tM, oM⟩ := h
          have hTl : (kvT T).length = T.length := by unfold kvT; rw [List.length_map]
          rw [hTl, List.take_of_length_le (Nat.le_refl _), kT] at kM
          have nY : ∀ {c : Addr} {o : HO}, Y c = some o → (∀ u, o ≠ .frz od u) → c ≠ D := fun e h2 z => by
            rw [z, sY _ _ fL] at e
            exact h2 _ (Option.some.inj e).symm
          refine ⟨sY _ _ fL, q _ D2 (fun b o e => ?_) (sL.free nD2) ⟨M, ?_, kM, fun t ht => ?_, oM⟩⟩
          · rw [upd_ne (ne_of_none e nD)]
            exact sY _ _ (sL _ _ e)
          · rw [upd_ne (nY eY fun _ => fun e => by cases e)]
            exact eY
          · rw [upd_ne (nY (tM t ht) fun _ => fun e => by cases e)]
            exact tM t ht
end
end Kb
namespace Kb
open PySem PySem.Spec PyProof.Rows L2
/-! ### the class Book: its constructor, deeds -/
/-- what the written part says of the class -/
structure BkC (K : PySem.W.Frag) (mg : Str → Option Value) (C : Addr) : Prop where
  cl : Cls K C
  nC : NoAttr K C "courses"
  nP : NoAttr K C "_places"
  nS : NoAttr K C "_stages"
  nE : NoAttr K C "_ends"
  nL : NoAttr K C "_leaving"
  mgC : mg "Book" = some (.ref C)
/-- a book at p -/
abbrev SP := Addr × Str × Nat
def spV (S : List SP) : List V := S.map fun t => V.ref t.1
/-- names to places -/
def plTo (cs : List CA) (i : Nat) : List (L2.Key × V) := (List.range i).map fun (j : Nat) => (Sum.inr ((cs[j]?.map (·.nm)).getD ""), V.int (j : Int))
theorem plTo_succ {cs : List CA} {i : Nat} {c : CA} (h : cs[i]? = some c) : plTo cs (i + 1) = plTo cs i ++ [(Sum.inr c.nm, V.int (i : Int))] := by
  unfold plTo
  rw [List.range_succ, List.map_append, List.map_singleton, h]
  rfl
theorem plTo_keys {cs : List CA} : ∀ i, i ≤ cs.length → (plTo cs i).map (·.1) = ((cs.take i).map (·.nm)).map Sum.inr
  | 0, _ => rfl
  | i + 1, h => by
    have hc : cs[i]? = some (cs[i]'(by omega)) := List.getElem?_eq_getElem _
    rw [plTo_succ hc, List.map_append, plTo_keys i (by omega), take_of_get hc, List.map_append, List.map_append]
    rfl
theorem plTo_len (cs : List CA) (i : Nat) : (plTo cs i).length = i := by
  unfold plTo
  rw [List.length_map, List.length_range]
/-- the ends as keys -/
def edKeys (cs : List CA) : List (List L2.Key) := cs.flatMap fun c => c.es.map (skey c)
def edKV (ks : List (List L2.Key)) : List (List L2.Key × V) := ks.map fun k => (k, V.bl true)
theorem edKV_keys (ks : List (List L2.Key)) : (edKV ks).map (·.1) = ks := by
  unfold edKV
  rw [List.map_map]
  exact List.map_id _
theorem edKV_len (ks : List (List L2.Key)) : (edKV ks).length = ks.length := List.length_map _
theorem edKeys_snoc {cs : List CA} {i : Nat} {c : CA} (h : cs[i]? = some c) : edKeys (cs.take (i + 1)) = edKeys (cs.take i) ++ c.es.map (skey c) := by
  unfold edKeys
  rw [take_of_get h, List.flatMap_append]
  simp
theorem edKey_new {cs : List CA} (nd : (cs.map (·.nm)).Nodup) {i : Nat} {c : CA} (h : cs[i]? = some c) {j e : Nat} (asc : c.es.Pairwise (· < ·)) (he : c.es[j]? = some e) : skey c e ∉ edKeys (cs.take i) ++ (c.es.take j).map (skey c) := by
  intro z
  rcases List.mem_append.mp z with z | z
  · obtain ⟨c', hc', hk⟩ := List.mem_flatMap.mp z
    obtain ⟨k, _, e⟩ := List.mem_map.mp hk
    have e := (skey_inj e).1
    rw [← List.take_append_drop i cs, List.map_append, drop_of_get h, List.map_cons, List.nodup_append] at nd
    exact nd.2.2 _ (List.mem_map.mpr ⟨c', hc', rfl⟩) _ List.mem_cons_self e
  · obtain ⟨k, hk, e2⟩ := List.mem_map.mp z
    obtain rfl := (skey_inj e2).2
    rw [← List.take_append_drop j c.es, drop_of_get he, List.pairwise_append] at asc
    exact Nat.lt_irrefl _ (asc.2.2 _ hk _ List.mem_cons_self)
/-- the stages -/
def stagesOf (cs : List CA) : List (Str × Nat) := cs.flatMap fun c => (List.range c.n).map fun k => (c.nm, k)
theorem stagesOf_snoc {cs : List CA} {i : Nat} {c : CA} (h : cs[i]? = some c) : stagesOf (cs.take (i + 1)) = stagesOf (cs.take i) ++ (List.range c.n).map fun k => (c.nm, k) := by
  unfold stagesOf
  rw [take_of_get h, List.flatMap_append]
  simp
def stD (x : Str × Nat) : PyData := .tuple [.str x.1, .int (x.2 : Int)]
def stLe (x y : Str × Nat) : Bool := !PySem.W.dataLt (stD y) (stD x)
/-- the names of a book's methods -/
def bkMeths : List Str := ["names", "main", "index_of", "ends", "steps", "steps_from", "is_end", "is_stage", "stages", "calls", "deeds"]
structure FsF (fs : List (Str × V)) (a P1 S1 E1 L1 : Addr) : Prop where
  c : fs.lookup ("courses" : Str) = some (.ref a)
  p : fs.lookup ("_places" : Str) = some (.ref P1)
  s : fs.lookup ("_stages" : Str) = some (.ref S1)
  e : fs.lookup ("_ends" : Str) = some (.ref E1)
  l : fs.lookup ("_leaving" : Str) = some (.ref L1)
  no : ∀ n ∈ bkMeths, fs.lookup n = none
def BookAt (K : PySem.W.Frag) (C : Addr) (H : Hp) (p : Addr) (a : Addr) (cs : List CA) : Prop :=
  ∃ (dx : Addr) (fs : List (Str × V)) (P1 S1 E1 L1 : Addr) (S : List SP), H p = some (.ins C dx fs) ∧ FsF fs a P1 S1 E1 L1 ∧ CsAt K H a cs ∧ CsOk cs ∧ H P1 = some (.dK (plTo cs cs.length)) ∧ H S1 = some (.tup (spV S)) ∧ (∀ t ∈ S, H t.1 = some (.tup [.str t.2.1, .int (t.2.2 : Int)])) ∧ S.map (·.2) = (stagesOf cs).mergeSort stLe ∧ H E1 = some (.dT (edKV (edKeys cs))) ∧ LvAt H L1 cs
theorem BookAt.mono {K : PySem.W.Frag} {C : Addr} {H H' : Hp} {p a : Addr} {cs : List CA} (s : Same H H') (h : BookAt K C H p a cs) : BookAt K C H' p a cs := by
  obtain ⟨dx, fs, P1, S1, E1, L1, S, h1, h2, h3, h4, h5, h6, h7, h8, h9, h10⟩ := h
  exact ⟨dx, fs, P1, S1, E1, L1, S, s _ _ h1, h2, h3.mono s, h4, s _ _ h5, s _ _ h6, fun t ht => s _ _ (h7 t ht), h8, s _ _ h9, h10.mono s⟩
theorem CsAt.but {K : PySem.W.Frag} {H H' : Hp} {a p : Addr} {cs : List CA} {C dx : Addr} {fs : List (Str × V)} (k : But p H H') (hp : H p = some (.ins C dx fs)) (h : CsAt K H a cs) : CsAt K H' a cs := by
  have one : ∀ {b : Addr} {xs : List V}, SqT K H b xs → SqT K H' b xs := fun {b xs} h => by
    rcases h with (h | ⟨o, h⟩) | h
    · exact .inl (.inl (k _ _ (fun e => by rw [e, hp] at h; cases h) h))
    · exact .inl (.inr ⟨o, k _ _ (fun e => by rw [e, hp] at h; cases h) h⟩)
    · exact .inr h
  refine ⟨one h.1, fun c hc => ?_⟩
  have := h.2 c hc
  exact ⟨one this.t, one this.e, one this.s, fun q hq => k _ _ (fun e => by have := this.p q hq; rw [e, hp] at this; cases this) (this.p q hq)⟩
def spZ (t : SP) : Ka.HZ := (V.ref t.1, .tuple [.str t.2.1, .int (t.2.2 : Int)])
/-- the fields of a book so far -/
structure FsOk (fs : List (Str × V)) (a : Addr) (m : Nat) : Prop where
  c : fs.lookup ("courses" : Str) = some (.ref a)
  d : ∀ n ∈ bkMeths, fs.lookup n = none
  l : fs.length ≤ m
theorem putF_len {n : Str} {v : V} : ∀ {fs : List (Str × V)}, (putF n v fs).length ≤ fs.length + 1
  | [] => Nat.le_refl _
  | q :: fs => by
    have ih := putF_len (n := n) (v := v) (fs := fs)
    unfold putF
    split
    · simp
    · rw [List.length_cons, List.length_cons]
      omega
theorem FsOk.put {fs : List (Str × V)} {a : Addr} {m : Nat} {n : Str} {v : V} (h : FsOk fs a m) (h1 : ¬ ("courses" : Str) = n) (h2 : n ∉ bkMeths) : FsOk (putF n v fs) a (m + 1) :=
  ⟨by rw [lookup_putF, if_neg h1]; exact h.c, fun k hk => by rw [lookup_putF, if_neg (fun e => h2 (by rw [← e]; exact hk))]; exact h.d k hk, Nat.le_trans putF_len (Nat.add_le_add_right h.l 1)⟩
section
variable {P : Program} {w : World} {K : PySem.W.Frag} {mg : Str → Option Value} {base : Heap}
def spBkInit (K : PySem.W.Frag) (C : Addr) : Sp := fun vs H Q _ => ∃ (p a dx : Addr) (cs : List CA), vs = [.ref p, .ref a] ∧ H p = some (.ins C dx []) ∧ CsAt K H a cs ∧ CsOk cs ∧ ∀ H', But p H H' → BookAt K C H' p a cs → Q .non H'
abbrev nBi : List Str := ["self", "courses", "at", "course", "number"]
theorem scBi : FnScope nBi ["self", "courses"] (defScope sBkInit) := ⟨rfl, rfl, rfl, by decide +kernel, rfl, by decide +kernel, by decide +kernel⟩
theorem ok_bkinit {f C fE fT fL : Addr} {fd fdE fdT fdL : FuncData} (F : Fun K "__init__" "Book.__init__" sBkInit f fd) (N : Nones mg) (B : BkC K mg C) (G_check_each : FnOk P w K mg base CX0 7 fE fdE ["courses"] (spChEach K)) (C_check_each : CallC K mg "check_each" ["courses"] fE fdE)
    (G_check_together : FnOk P w K mg base CX0 2 fT fdT ["courses"] (spChTog K)) (C_check_together : CallC K mg "check_together" ["courses"] fT fdT) (G_leaving_of : FnOk P w K mg base CX0 1 fL fdL ["courses"] (spLeaving K)) (C_leaving_of : CallC K mg "leaving_of" ["courses"] fL fdL) : FnOk P w K mg base CX0 8 f fd ["self", "courses"] (spBkInit K C) := by
  refine F.ok scBi (fun vs H Q E h => ?_) (fun cdv A outer s H vs Q E hr h => ?_)
  · obtain ⟨p, a, dx, cs, rfl, _⟩ := h
    rfl
  · obtain ⟨p, a, dx, cs, rfl, hp, hC, ok, q⟩ := h
    refine ⟨_, pss_cons (ps_if (pt_not (pt_val (pe_callB call_isi (by rfl) N.isinstance (by decide +kernel) (pa_cons (pv 1) (pa_cons (pe_bltn (v := .ty "tuple") (by rfl) N.tuple (by decide +kernel) rfl) pa_nil))))) (pss_one ps_never) pss_nil)
      (pss_cons (ps_expr (pe_call G_check_each (hr.mono (by decide)) (by rfl) C_check_each.g C_check_each.kp C_check_each.b .nil pass0 (pa_cons (pv 1) pa_nil)))
      (pss_cons (ps_expr (pe_call G_check_together (hr.mono (by decide)) (by rfl) C_check_together.g C_check_together.kp C_check_together.b .nil pass0 (pa_cons (pv 1) pa_nil)))
      (pss_cons (ps_fld (pv 0) (pv 1) rfl)
      (pss_cons (ps_fld (pv 0) (pe_dc (own := [("at", 2), ("course", 3)]) (g := gTup K 2 (gCons (gName 2) (gCons (gName 3) gNil))) (tt := tYes) rfl scBi.nd (Ka.pi_enumT (by rfl) N.enumerate (pa_cons (pv 1) pa_nil)) (blkOk_by (own := [("at", 2), ("course", 3)]) (N := nBi) (sc := defScope sBkInit) (by decide +kernel)) (fun _ _ _ _ _ => (tup_at (K := K) rfl rfl (pgs_cons (pg_name (i := 2) scBi.nd rfl (Or.inl rfl)) (pgs_cons (pg_name (i := 3) scBi.nd rfl (Or.inl rfl)) pgs_nil)))) (fun _ _ _ _ _ => pts_nil) (fun _ _ _ _ _ => (pe_ix (ixT_at (K := K) rfl) (pv 3) pe_int (fun _ _ => rfl))) (fun _ _ _ _ _ => (pv 2))) rfl)
      (pss_cons (ps_fld (pv 0) (pe_callTy call_tuple_of (by rfl) N.tuple (by decide +kernel) (pa_cons (pe_callB (Ka.cr_sortG hr.units) (by rfl) N.sorted (by decide +kernel) (pa_cons (pe_lc2 (own := [("course", 3), ("number", 4)]) (vs1 := [4]) (g := gName 3) (g1 := gName 4) (tt := tYes) (tt1 := tYes) rfl scBi.nd (pi_tup (pv 1)) (blkOk_by (own := [("course", 3), ("number", 4)]) (N := nBi) (sc := defScope sBkInit) (by decide +kernel)) (by decide) (fun _ _ _ _ _ => (pg_name (i := 3) scBi.nd rfl (Or.inl rfl))) (fun _ _ _ _ _ => pts_nil) (fun _ _ _ _ _ => (pi_range1 (by rfl) N.range (pa_cons (pe_ix (ixT_at (K := K) rfl) (pv 3) pe_int (fun _ _ => rfl)) pa_nil))) (fun _ _ _ _ _ => (pg_name (i := 4) scBi.nd rfl (Or.inl rfl))) (fun _ _ _ _ _ => pts_nil) (fun _ _ _ _ _ => (pe_tup (pa_cons (pe_ix (ixT_at (K := K) rfl) (pv 3) pe_int (fun _ _ => rfl)) (pa_cons (pv 4) pa_nil))))) pa_nil)) pa_nil)) rfl)
      (pss_cons (ps_fld (pv 0) (Ka.pe_dc2 (own := [("course", 3), ("number", 4)]) (vs1 := [4]) (g := gName 3) (g1 := gName 4) (tt := tYes) (tt1 := tYes) (Ka.storeT (hu_of hr)) rfl scBi.nd (pi_tup (pv 1)) (blkOk_by (own := [("course", 3), ("number", 4)]) (N := nBi) (sc := defScope sBkInit) (by decide +kernel)) (by decide) (fun _ _ _ _ _ => (pg_name (i := 3) scBi.nd rfl (Or.inl rfl))) (fun _ _ _ _ _ => pts_nil) (fun _ _ _ _ _ => (piT_at (K := K) rfl (pe_ix (ixT_at (K := K) rfl) (pv 3) pe_int (fun _ _ => rfl)))) (fun _ _ _ _ _ => (pg_name (i := 4) scBi.nd rfl (Or.inl rfl))) (fun _ _ _ _ _ => pts_nil) (fun _ _ _ _ _ => (pe_tup (pa_cons (pe_ix (ixT_at (K := K) rfl) (pv 3) pe_int (fun _ _ => rfl)) (pa_cons (pv 4) pa_nil)))) (fun _ _ _ _ _ => pe_bl)) rfl)
      (pss_one (ps_fld (pv 0) (pe_call G_leaving_of (hr.mono (by decide)) (by rfl) C_leaving_of.g C_leaving_of.kp C_leaving_of.b .nil pass0 (pa_cons (pv 1) pa_nil)) rfl)))))))), ?_⟩
    refine ⟨.ref a, rfl, .ref a, .ty "tuple", .type "tuple", .type "tuple", true, rfl, .ty "tuple", tyT hC.1, kit_ty (by decide +kernel), true, rfl, iteF ?_⟩
    refine ⟨_, rfl, a, cs, rfl, hC, ok, fun H1 s1 => ?_⟩
    refine ⟨_, rfl, a, cs, rfl, hC.mono s1, ok, fun H2 s2 => ?_⟩
    have hp2 := s2 _ _ (s1 _ _ hp)
    have k2 : But p H H2 := But.of (s1.trans s2)
    have hC2 := (hC.mono s1).mono s2
    refine ⟨_, rfl, _, rfl, p, C, dx, [], rfl, hp2, B.cl, B.nC, (by show 0 < 1000; decide), ?_⟩
    have F1 : FsOk (putF "courses" (.ref a) []) a 1 := ⟨by rw [lookup_putF, if_pos rfl], fun k hk => by rw [lookup_putF, if_neg (fun e => absurd (e ▸ hk) (by decide +kernel))]; rfl, Nat.le_trans putF_len (Nat.le_refl _)⟩
    have hp3 : upd H2 p (.ins C dx (putF "courses" (.ref a) [])) p = some (.ins C dx (putF "courses" (.ref a) [])) := upd_same
    have k3 : But p H (upd H2 p (.ins C dx (putF "courses" (.ref a) []))) := k2.trans But.upd
    generalize upd H2 p (.ins C dx (putF "courses" (.ref a) [])) = G1 at hp3 k3
    generalize putF "courses" (.ref a) [] = fs1 at F1 hp3
    have hC3 := hC.but k3 hp
    -- _places
    refine ⟨_, rfl, a, _, rfl, hC3.1, fun D nD => ?_⟩
    refine dcK_it (walk_enumT (K := K) (a := a) (xs := cs.map fun c => V.ref c.a)) (fun i G => Same G1 G ∧ G D = some (.dK (plTo cs i))) ⟨same_new nD, upd_same⟩ (fun _ _ _ h => Same.sqT h.1 hC3.1) (fun i x G G' hi h y => ?_) (fun G h => ?_)
    · obtain ⟨T, z, v, rfl, nT, rfl, hz, hv⟩ := y
      obtain ⟨sG, eG⟩ := h
      cases hz
      obtain ⟨c, hc, rfl⟩ := get_map hv
      have n8 := ok.n8
      have hi8 := lt_of_get hc
      have sT := same_new (o := .tup [V.int (i : Nat), V.ref c.a]) nT
      have hT : upd G T (.tup [V.int (i : Nat), V.ref c.a]) T = some (.tup [V.int (i : Nat), V.ref c.a]) := upd_same
      have mc := (hC3.2 c (List.mem_of_getElem? hc)).mono (sG.trans sT)
      refine ⟨T, _, rfl, sqT_new hT, rfl, _, _, rfl, _, _, rfl, rfl, rfl, ?_⟩
      refine ⟨_, rfl, c.a, _, _, .str c.nm, rfl, rfl, mc.t, rfl, _, rfl, _, Sum.inr c.nm, rfl, sT _ _ eG, by rw [plTo_len]; exact small (by omega), fun b o e => ?_, ?_⟩
      · rw [upd_ne (ne_of_none e nD)]
        exact sT _ _ (sG _ _ e)
      · rw [upd_same, putK_new, plTo_succ hc]
        rw [plTo_keys i (by omega)]
        intro z
        obtain ⟨y, hy, e⟩ := List.mem_map.mp z
        rw [Sum.inr.inj e] at hy
        have nd := ok.nd
        rw [← List.take_append_drop i cs, List.map_append, drop_of_get hc, List.map_cons, List.nodup_append] at nd
        exact nd.2.2 _ hy _ List.mem_cons_self rfl
    obtain ⟨sG, eP⟩ := h
    rw [List.length_map] at eP
    have nDp : D ≠ p := fun z => by rw [z, hp3] at nD; cases nD
    have hp4 := sG _ _ hp3
    have k4 := k3.trans (But.of sG)
    have F2 : FsOk (putF "_places" (.ref D) fs1) a 2 := F1.put (by decide +kernel) (by decide +kernel)
    have L2p : (putF "_places" (.ref D) fs1).lookup ("_places" : Str) = some (.ref D) := by rw [lookup_putF, if_pos rfl]
    have eP : upd G p (.ins C dx (putF "_places" (.ref D) fs1)) D = some (.dK (plTo cs cs.length)) := by rw [upd_ne nDp]; exact eP
    refine ⟨_, rfl, p, C, dx, fs1, rfl, hp4, B.cl, B.nP, (by have := F1.l; omega), ?_⟩
    have hp5 : upd G p (.ins C dx (putF "_places" (.ref D) fs1)) p = some (.ins C dx (putF "_places" (.ref D) fs1)) := upd_same
    have k5 : But p H (upd G p (.ins C dx (putF "_places" (.ref D) fs1))) := k4.trans But.upd
    generalize upd G p (.ins C dx (putF "_places" (.ref D) fs1)) = G2 at hp5 k5 eP
    generalize putF "_places" (.ref D) fs1 = fs2 at F2 hp5 L2p
    have hC5 := hC.but k5 hp
    clear hp4 k4 sG nD hp3 k3 F1 hC3
    -- _stages
    refine ⟨_, rfl, a, rfl, ⟨_, hC5.1⟩, fun L nL => ?_⟩
    refine lcout_it (walk_tup (K := K) (a := a) (xs := cs.map fun c => V.ref c.a)) (fun i G => Same G2 G ∧ ∃ S : List SP, G L = some (.lst (spV S)) ∧ (∀ t ∈ S, G t.1 = some (.tup [V.str t.2.1, V.int (t.2.2 : Nat)])) ∧ S.length ≤ nStages (cs.take i) ∧ S.map (·.2) = stagesOf (cs.take i)) ⟨same_new nL, [], upd_same, (fun t ht => nomatch ht), Nat.zero_le _, rfl⟩ (fun _ _ _ h => Same.sqT h.1 hC5.1) (fun i x G G' hi h y => ?_) (fun G h => ?_)
    · obtain ⟨rfl, hx⟩ := y
      obtain ⟨c, hc, rfl⟩ := get_map hx
      obtain ⟨sG, S, eG, tS, lS, oS⟩ := h
      have mc := List.mem_of_getElem? hc
      have okc := ok.ok c mc
      have n1 := okc.n1
      have h2 := nStages_le cs (i + 1)
      have h3 := nStages_snoc hc
      have st60 := ok.st
      refine ⟨rfl, _, rfl, c.a, _, _, .int (c.n : Nat), rfl, rfl, ((hC5.2 c mc).mono sG).t, rfl, _, rfl, by omega, by omega, ?_⟩
      refine lcin_it (walk_r0 (n := c.n)) (fun j G3 => Same G2 G3 ∧ ∃ S : List SP, G3 L = some (.lst (spV S)) ∧ (∀ t ∈ S, G3 t.1 = some (.tup [V.str t.2.1, V.int (t.2.2 : Nat)])) ∧ S.length ≤ nStages (cs.take i) + j ∧ S.map (·.2) = stagesOf (cs.take i) ++ (List.range j).map fun k => (c.nm, k)) ⟨sG, S, eG, tS, lS, by rw [oS]; simp⟩ (fun _ _ _ _ => True.intro) (fun j x G3 G4 hj h2 y => ?_) (fun G3 h2 => ?_)
      · obtain ⟨rfl, rfl⟩ := y
        obtain ⟨s3, S, e3, tS, lS, oS⟩ := h2
        refine ⟨rfl, _, rfl, c.a, _, _, .str c.nm, rfl, rfl, ((hC5.2 c mc).mono s3).t, rfl, _, rfl, smallE (by show 2 ≤ 1000000; decide), fun b nb => ?_⟩
        have sb := same_new (o := .tup [V.str c.nm, V.int (j : Nat)]) nb
        have eb : upd G4 b (.tup [V.str c.nm, V.int (j : Nat)]) b = some (.tup [V.str c.nm, V.int (j : Nat)]) := upd_same
        have lb : b ≠ L := fun z => by rw [z, e3] at nb; cases nb
        refine ⟨_, sb _ _ e3, ?_, fun b2 o e => ?_, S ++ [(b, c.nm, j)], ?_, fun t ht => ?_, ?_, by rw [List.map_append, oS, List.range_succ, List.map_append, List.append_assoc]; rfl⟩
        · unfold spV
          rw [List.length_map]
          exact small (by omega)
        · rw [upd_ne (ne_of_none e nL)]
          exact sb _ _ (s3 _ _ e)
        · rw [upd_same]
          unfold spV
          rw [List.map_append]
          rfl
        · rcases List.mem_append.mp ht with z | z
          · rw [upd_ne (fun w => by have := tS t z; rw [w, e3] at this; cases this)]
            exact sb _ _ (tS t z)
          · rw [List.mem_singleton.mp z, upd_ne lb]
            exact eb
        · rw [List.length_append, List.length_singleton]
          omega
      · obtain ⟨s3, S, e3, tS, lS, oS⟩ := h2
        exact ⟨s3, S, e3, tS, by rw [h3]; exact lS, by rw [oS, stagesOf_snoc hc]⟩
    obtain ⟨sG, S, eG, tS, lS, oS⟩ := h
    rw [List.length_map, List.take_of_length_le (Nat.le_refl _)] at oS
    have hz0 : Ka.hzV (S.map spZ) = spV S := by
      unfold Ka.hzV spV
      rw [List.map_map]
      rfl
    refine ⟨L, S.map spZ, rfl, by rw [hz0]; exact sqL_new eG, fun z hz => ?_, fun z hz y hy => ?_, fun z hz => ?_, fun z hz => ?_, fun q1 nq1 => ?_⟩
    · obtain ⟨t, ht, rfl⟩ := List.mem_map.mp hz
      exact .tup (sqT_new (tS t ht)) (.cons (.str _) (.cons (.int _) .nil))
    · obtain ⟨t, ht, rfl⟩ := List.mem_map.mp hz
      obtain ⟨u, hu, rfl⟩ := List.mem_map.mp hy
      simp [spZ, PySem.W.alike, PySem.W.alikeAll]
    · obtain ⟨t, ht, rfl⟩ := List.mem_map.mp hz
      exact ⟨_, _, rfl⟩
    · obtain ⟨t, ht, rfl⟩ := List.mem_map.mp hz
      simp [spZ, PyData.depth, PyData.depthAll]
    have hS2 : Ka.hzV ((S.map spZ).mergeSort Ka.hzLe) = spV (S.mergeSort fun x y => stLe x.2 y.2) := by
      rw [← PySem.W.sort_maps (r := fun x y : SP => stLe x.2 y.2) (s := Ka.hzLe) spZ (l := S) (fun x _ y _ => rfl)]
      unfold Ka.hzV spV
      rw [List.map_map]
      rfl
    have oS2 : (S.mergeSort fun x y => stLe x.2 y.2).map (·.2) = (stagesOf cs).mergeSort stLe := by
      rw [← oS]
      exact PySem.W.sort_maps (fun x : SP => x.2) (fun x _ y _ => rfl)
    have tS2 : ∀ t ∈ S.mergeSort (fun x y => stLe x.2 y.2), G t.1 = some (.tup [V.str t.2.1, V.int (t.2.2 : Nat)]) := fun t ht => tS t (List.mem_mergeSort.mp ht)
    rw [hS2]
    generalize S.mergeSort (fun x y => stLe x.2 y.2) = S2 at oS2 tS2
    have sq := same_new (o := .lst (spV S2)) nq1
    have eq1 : upd G q1 (.lst (spV S2)) q1 = some (.lst (spV S2)) := upd_same
    have tS2 := fun t ht => sq _ _ (tS2 t ht)
    have sG := sG.trans sq
    generalize upd G q1 (.lst (spV S2)) = G3 at sG eq1 tS2
    refine ⟨q1, _, rfl, .inl ⟨sqL_new eq1, fun l nl => ?_⟩⟩
    have sl := same_new (o := .tup (spV S2)) nl
    have sG := sG.trans sl
    have tS2 := fun t ht => sl _ _ (tS2 t ht)
    have eS : upd G3 l (.tup (spV S2)) l = some (.tup (spV S2)) := upd_same
    generalize upd G3 l (.tup (spV S2)) = G4 at sG tS2 eS
    have eP := sG _ _ eP
    have hp6 := sG _ _ hp5
    have k6 := k5.trans (But.of sG)
    have F3 : FsOk (putF "_stages" (.ref l) fs2) a 3 := F2.put (by decide +kernel) (by decide +kernel)
    have L3p : (putF "_stages" (.ref l) fs2).lookup ("_places" : Str) = some (.ref D) := by rw [lookup_putF, if_neg (by decide +kernel)]; exact L2p
    have L3s : (putF "_stages" (.ref l) fs2).lookup ("_stages" : Str) = some (.ref l) := by rw [lookup_putF, if_pos rfl]
    have nP : ∀ {c : Addr} {o : HO}, G4 c = some o → (∀ fs, o ≠ .ins C dx fs) → c ≠ p := fun e h2 z => by
      rw [z, hp6] at e
      exact h2 _ (Option.some.inj e).symm
    have eP : upd G4 p (.ins C dx (putF "_stages" (.ref l) fs2)) D = some (.dK (plTo cs cs.length)) := by rw [upd_ne nDp]; exact eP
    have eS : upd G4 p (.ins C dx (putF "_stages" (.ref l) fs2)) l = some (.tup (spV S2)) := by rw [upd_ne (nP eS fun _ e => by cases e)]; exact eS
    have tS2 : ∀ t ∈ S2, upd G4 p (.ins C dx (putF "_stages" (.ref l) fs2)) t.1 = some (.tup [V.str t.2.1, V.int (t.2.2 : Nat)]) := fun t ht => by rw [upd_ne (nP (tS2 t ht) fun _ e => by cases e)]; exact tS2 t ht
    refine ⟨_, rfl, p, C, dx, fs2, rfl, hp6, B.cl, B.nS, (by have := F2.l; omega), ?_⟩
    have hp7 : upd G4 p (.ins C dx (putF "_stages" (.ref l) fs2)) p = some (.ins C dx (putF "_stages" (.ref l) fs2)) := upd_same
    have k7 : But p H (upd G4 p (.ins C dx (putF "_stages" (.ref l) fs2))) := k6.trans But.upd
    generalize upd G4 p (.ins C dx (putF "_stages" (.ref l) fs2)) = G5 at hp7 k7 eP eS tS2
    generalize putF "_stages" (.ref l) fs2 = fs3 at F3 hp7 L3p L3s
    have hC7 := hC.but k7 hp
    clear nP hp6 k6 sG sq eq1 eG tS hp5 k5 F2 hC5 sl
    -- _ends
    refine ⟨_, rfl, a, rfl, ⟨_, hC7.1⟩, fun D2 nD2 => ?_⟩
    refine out_it (walk_tup (K := K) (a := a) (xs := cs.map fun c => V.ref c.a)) (fun i G => Same G5 G ∧ G D2 = some (.dT (edKV (edKeys (cs.take i)))) ∧ (edKeys (cs.take i)).length ≤ 10000 * i) ⟨same_new nD2, upd_same, Nat.zero_le _⟩ (fun _ _ _ h => Same.sqT h.1 hC7.1) (fun i x G G' hi h y => ?_) (fun G h => ?_)
    · obtain ⟨rfl, hx⟩ := y
      obtain ⟨c, hc, rfl⟩ := get_map hx
      obtain ⟨sG, eG, lG⟩ := h
      have mc := List.mem_of_getElem? hc
      have okc := ok.ok c mc
      have n8 := ok.n8
      have ez := okc.ez
      have hi8 := lt_of_get hc
      have mcG := (hC7.2 c mc).mono sG
      refine ⟨rfl, _, rfl, c.a, _, _, .ref c.ea, rfl, rfl, mcG.t, rfl, c.ea, rfl, ⟨_, mcG.e⟩, ?_⟩
      refine in_it (walk_tup (K := K) (a := c.ea) (xs := natV c.es)) (fun j G6 => Same G5 G6 ∧ G6 D2 = some (.dT (edKV (edKeys (cs.take i) ++ (c.es.take j).map (skey c))))) ⟨sG, by rw [List.take_zero, List.map_nil, List.append_nil]; exact eG⟩ (fun _ _ _ h => Same.sqT h.1 (hC7.2 c mc).e) (fun j x G6 G7 hj h2 y => ?_) (fun G6 h2 => ?_)
      · obtain ⟨rfl, hx⟩ := y
        rw [natV_len] at hj
        obtain ⟨e, he, rfl⟩ := get_map (f := fun (i : Nat) => V.int (i : Int)) hx
        obtain ⟨s6, e6⟩ := h2
        refine ⟨rfl, _, rfl, c.a, _, _, .str c.nm, rfl, rfl, ((hC7.2 c mc).mono s6).t, rfl, _, rfl, smallE (by show 2 ≤ 1000000; decide), fun b nb => ?_⟩
        have sb := same_new (o := .tup [V.str c.nm, V.int (e : Int)]) nb
        have eb : upd G7 b (.tup [V.str c.nm, V.int (e : Int)]) b = some (.tup ((skey c e).map kV)) := upd_same
        refine ⟨_, skey c e, b, rfl, eb, sb _ _ e6, ?_, fun b2 o e => ?_, ?_⟩
        · rw [edKV_len, List.length_append, List.length_map, List.length_take]
          exact small (by omega)
        · rw [upd_ne (ne_of_none e nD2)]
          exact sb _ _ (s6 _ _ e)
        · rw [upd_same, putK_new]
          · rw [take_of_get he, List.map_append, ← List.append_assoc]
            unfold edKV
            rw [List.map_append (l₂ := [e].map (skey c))]
            rfl
          · rw [edKV_keys]
            exact edKey_new ok.nd hc okc.asc he
      · obtain ⟨s6, e6⟩ := h2
        rw [natV_len, List.take_of_length_le (Nat.le_refl _)] at e6
        refine ⟨s6, by rw [edKeys_snoc hc]; exact e6, ?_⟩
        rw [edKeys_snoc hc, List.length_append, List.length_map]
        omega
    obtain ⟨sG, eE, _⟩ := h
    rw [List.length_map, List.take_of_length_le (Nat.le_refl _)] at eE
    have eP := sG _ _ eP
    have eS := sG _ _ eS
    have tS2 := fun t ht => sG _ _ (tS2 t ht)
    have hp8 := sG _ _ hp7
    have k8 := k7.trans (But.of sG)
    have F4 : FsOk (putF "_ends" (.ref D2) fs3) a 4 := F3.put (by decide +kernel) (by decide +kernel)
    have L4p : (putF "_ends" (.ref D2) fs3).lookup ("_places" : Str) = some (.ref D) := by rw [lookup_putF, if_neg (by decide +kernel)]; exact L3p
    have L4s : (putF "_ends" (.ref D2) fs3).lookup ("_stages" : Str) = some (.ref l) := by rw [lookup_putF, if_neg (by decide +kernel)]; exact L3s
    have L4e : (putF "_ends" (.ref D2) fs3).lookup ("_ends" : Str) = some (.ref D2) := by rw [lookup_putF, if_pos rfl]
    have nP : ∀ {c : Addr} {o : HO}, G c = some o → (∀ fs, o ≠ .ins C dx fs) → c ≠ p := fun e h2 z => by
      rw [z, hp8] at e
      exact h2 _ (Option.some.inj e).symm
    have eP : upd G p (.ins C dx (putF "_ends" (.ref D2) fs3)) D = some (.dK (plTo cs cs.length)) := by rw [upd_ne nDp]; exact eP
    have eS : upd G p (.ins C dx (putF "_ends" (.ref D2) fs3)) l = some (.tup (spV S2)) := by rw [upd_ne (nP eS fun _ e => by cases e)]; exact eS
    have tS2 : ∀ t ∈ S2, upd G p (.ins C dx (putF "_ends" (.ref D2) fs3)) t.1 = some (.tup [V.str t.2.1, V.int (t.2.2 : Nat)]) := fun t ht => by rw [upd_ne (nP (tS2 t ht) fun _ e => by cases e)]; exact tS2 t ht
    have eE : upd G p (.ins C dx (putF "_ends" (.ref D2) fs3)) D2 = some (.dT (edKV (edKeys cs))) := by rw [upd_ne (nP eE fun _ e => by cases e)]; exact eE
    refine ⟨_, rfl, p, C, dx, fs3, rfl, hp8, B.cl, B.nE, (by have := F3.l; omega), ?_⟩
    have hp9 : upd G p (.ins C dx (putF "_ends" (.ref D2) fs3)) p = some (.ins C dx (putF "_ends" (.ref D2) fs3)) := upd_same
    have k9 : But p H (upd G p (.ins C dx (putF "_ends" (.ref D2) fs3))) := k8.trans But.upd
    generalize upd G p (.ins C dx (putF "_ends" (.ref D2) fs3)) = G8 at hp9 k9 eP eS tS2 eE
    generalize putF "_ends" (.ref D2) fs3 = fs4 at F4 hp9 L4p L4s L4e
    have hC9 := hC.but k9 hp
    -- _leaving
    refine ⟨_, rfl, a, cs, rfl, hC9, ok, fun G9 l2 s9 nl2 lv => ?_⟩
    have F5 : FsOk (putF "_leaving" (.ref l2) fs4) a 5 := F4.put (by decide +kernel) (by decide +kernel)
    have hpA := s9 _ _ hp9
    refine ⟨_, rfl, p, C, dx, fs4, rfl, hpA, B.cl, B.nL, (by have := F4.l; omega), ?_⟩
    have k10 : But p H (upd G9 p (.ins C dx (putF "_leaving" (.ref l2) fs4))) := (k9.trans (But.of s9)).trans But.upd
    have nP : ∀ {c : Addr} {o : HO}, G9 c = some o → (∀ fs, o ≠ .ins C dx fs) → upd G9 p (.ins C dx (putF "_leaving" (.ref l2) fs4)) c = some o := fun {c o} e h2 => by
      rw [upd_ne]
      · exact e
      · intro z
        rw [z, hpA] at e
        exact h2 _ (Option.some.inj e).symm
    refine q _ k10 ⟨dx, _, D, l, D2, l2, S2, upd_same, ⟨F5.c, by rw [lookup_putF, if_neg (by decide +kernel)]; exact L4p, by rw [lookup_putF, if_neg (by decide +kernel)]; exact L4s, by rw [lookup_putF, if_neg (by decide +kernel)]; exact L4e, by rw [lookup_putF, if_pos rfl], F5.d⟩, hC.but k10 hp, ok, nP (s9 _ _ eP) (fun _ e => by cases e), nP (s9 _ _ eS) (fun _ e => by cases e), fun t ht => nP (s9 _ _ (tS2 t ht)) (fun _ e => by cases e), oS2, nP (s9 _ _ eE) (fun _ e => by cases e), ?_⟩
    obtain ⟨M, m1, m2, m3, m4⟩ := lv
    exact ⟨M, nP m1 (fun _ e => by cases e), m2, fun t ht => nP (m3 t ht) (fun _ e => by cases e), m4⟩
/-- the deeds of a book -/
def spBkDeeds (K : PySem.W.Frag) (C : Addr) : Sp := fun vs H Q _ => ∃ (p a : Addr) (cs : List CA), vs = [.ref p] ∧ BookAt K C H p a cs ∧ ∀ H' q ds, Same H H' → H q = none → H' q = some (.tup (ds.map V.str)) → ds.Perm (uniq (dns cs)) → sortedS ds = true → Q (.ref q) H'
abbrev nBd : List Str := ["self"]
theorem scBd : FnScope nBd ["self"] (defScope sBkDeeds) := ⟨rfl, rfl, rfl, by decide +kernel, rfl, by decide +kernel, by decide +kernel⟩
theorem ok_bkdeeds {f C fI : Addr} {fd fdI : FuncData} (F : Fun K "deeds" "Book.deeds" sBkDeeds f fd) (N : Nones mg) (B : BkC K mg C) (G_deeds_in : FnOk P w K mg base CX0 1 fI fdI ["courses"] (spDeedsIn K)) (C_deeds_in : CallC K mg "deeds_in" ["courses"] fI fdI) : FnOk P w K mg base CX0 2 f fd ["self"] (spBkDeeds K C) := by
  refine F.ok scBd (fun vs H Q E h => ?_) (fun cdv A outer s H vs Q E hr h => ?_)
  · obtain ⟨p, a, cs, rfl, _⟩ := h
    rfl
  · obtain ⟨p, a, cs, rfl, ⟨dx, fs, _, _, _, _, _, hp, ⟨hc, _, _, _, _, _⟩, hC, ok, _⟩, q⟩ := h
    refine ⟨_, pss_one (ps_ret (pe_callTy call_tuple_of (by rfl) N.tuple (by decide +kernel) (pa_cons (pe_callB (call_sortedD rfl) (by rfl) N.sorted (by decide +kernel) (pa_cons (pe_call G_deeds_in (hr.mono (by decide)) (by rfl) C_deeds_in.g C_deeds_in.kp C_deeds_in.b .nil pass0 (pa_cons (pe_fld (pv 0) rfl) pa_nil)) pa_nil)) pa_nil))), ?_⟩
    refine ⟨_, rfl, p, C, dx, fs, .ref a, rfl, hp, B.cl, B.nC, hc, a, cs, rfl, hC, ok.dz, fun H1 D s1 nD eD => ?_⟩
    refine ⟨D, _, uniq (dns cs), rfl, .inl eD, deedKV_keys _, by have := ok.d12; omega, fun ys l hperm hs nl => ?_⟩
    have s2 := same_new (o := .lst (ys.map V.str)) nl
    refine ⟨l, _, rfl, .inl ⟨sqL_new upd_same, fun t nt => ?_⟩⟩
    exact q _ t ys ((s1.trans s2).trans (same_new nt)) ((s1.trans s2).free nt) upd_same hperm hs
end
end Kb
namespace Kb
open PySem PySem.Spec PyProof.Rows L2
/-! ### a book's own: ends, steps, steps_from, is_end, stages, main -/
abbrev Stg := Str × Nat
def stK (x : Stg) : List L2.Key := [.inr x.1, .inl (x.2 : Int)]
def stV (x : Stg) : List V := [.str x.1, .int (x.2 : Int)]
theorem stKV (x : Stg) : (stK x).map kV = stV x := rfl
theorem stK_inj {x y : Stg} (h : stK x = stK y) : x = y := by
  unfold stK at h
  injection h with h1 h
  injection h with h2 h
  have h1 := Sum.inr.inj h1
  have h2 := Sum.inl.inj h2
  have h2 : (x.2 : Int) = (y.2 : Int) := h2
  exact Prod.ext h1 (by omega)
theorem valV_has {κ : Type} [DecidableEq κ] : ∀ (kvs : List (κ × V)) (k : κ), (valV kvs k).isSome = decide (k ∈ kvs.map (·.1))
  | [], _ => rfl
  | p :: r, k => by
    by_cases h : p.1 = k
    · rw [valV_pos h]
      simp [h]
    · rw [valV_neg h, valV_has r k]
      have : (k ∈ (p :: r).map (·.1)) ↔ k ∈ r.map (·.1) := by
        rw [List.map_cons, List.mem_cons]
        exact ⟨fun z => z.elim (fun e => absurd e.symm h) id, .inr⟩
      exact decide_eq_decide.mpr this.symm
theorem same_course {cs : List CA} (nd : (cs.map (·.nm)).Nodup) {c c' : CA} (h : c ∈ cs) (h' : c' ∈ cs) (e : c.nm = c'.nm) : c = c' := inj_of_nd nd h h' e
theorem edKeys_mem {cs : List CA} (nd : (cs.map (·.nm)).Nodup) {c : CA} (h : c ∈ cs) (k : Nat) : skey c k ∈ edKeys cs ↔ k ∈ c.es := by
  unfold edKeys
  rw [List.mem_flatMap]
  constructor
  · rintro ⟨c', h', hk⟩
    obtain ⟨e, he, e2⟩ := List.mem_map.mp hk
    obtain ⟨n1, n2⟩ := skey_inj e2
    have := same_course nd h' h n1
    subst this
    rw [← n2]
    exact he
  · exact fun hk => ⟨c, h, List.mem_map.mpr ⟨k, hk, rfl⟩⟩
theorem pl_at {cs : List CA} (nd : (cs.map (·.nm)).Nodup) {i : Nat} {c : CA} (h : cs[i]? = some c) : valV (plTo cs cs.length) (Sum.inr c.nm : L2.Key) = some (.int (i : Int)) := by
  refine valV_mem ?_ ?_
  · rw [plTo_keys _ (Nat.le_refl _), List.take_length]
    unfold List.Nodup at nd ⊢
    rw [List.pairwise_map]
    exact nd.imp fun ne e => ne (Sum.inr.inj e)
  · unfold plTo
    exact List.mem_map.mpr ⟨i, List.mem_range.mpr (lt_of_get h), by rw [h]; rfl⟩
section
variable {P : Program} {w : World} {K : PySem.W.Frag} {mg : Str → Option Value} {base : Heap}
def spBkSteps (K : PySem.W.Frag) (C : Addr) : Sp := fun vs H Q _ => ∃ (p a : Addr) (cs : List CA) (c : CA), vs = [.ref p, .str c.nm] ∧ BookAt K C H p a cs ∧ c ∈ cs ∧ Q (.ref c.sa) H
abbrev nBs : List Str := ["self", "course"]
theorem scBs : FnScope nBs ["self", "course"] (defScope sBkSteps) := ⟨rfl, rfl, rfl, by decide +kernel, rfl, by decide +kernel, by decide +kernel⟩
theorem ok_bksteps {f C : Addr} {fd : FuncData} (F : Fun K "steps" "Book.steps" sBkSteps f fd) (B : BkC K mg C) : FnOk P w K mg base CX0 1 f fd ["self", "course"] (spBkSteps K C) := by
  refine F.ok scBs (fun vs H Q E h => ?_) (fun cdv A outer s H vs Q E hr h => ?_)
  · obtain ⟨p, a, cs, c, rfl, _⟩ := h
    rfl
  · obtain ⟨p, a, cs, c, rfl, ⟨dx, fs, P1, S1, E1, L1, S, hp, L, hC, ok, eP, _⟩, mc, q⟩ := h
    refine ⟨_, pss_one (ps_ret (pe_ix ix_tup (pe_ix ix_tup (pe_fld (pv 0) rfl) (pe_dget (hu_of hr) (pe_fld (pv 0) rfl) (pv 1) (fun _ _ => rfl)) (fun _ _ => rfl)) pe_int (fun _ _ => rfl))), ?_⟩
    obtain ⟨i, hi⟩ := List.getElem?_of_mem mc
    have g1 : DGet H P1 (.str c.nm) (some (.int (i : Int))) := by
      have := DGet.k (k := Sum.inr c.nm) eP
      rw [pl_at ok.nd hi] at this
      exact this
    have hic : (cs.map fun c => V.ref c.a)[i]? = some (.ref c.a) := by rw [List.getElem?_map, hi]; rfl
    exact ⟨_, rfl, p, C, dx, fs, .ref a, rfl, hp, B.cl, B.nC, L.c, _, rfl, p, C, dx, fs, .ref P1, rfl, hp, B.cl, B.nP, L.p, _, rfl, P1, .int (i : Int), rfl, g1, a, _, _, .ref c.a, rfl, rfl, hC.1, atI_nat hic, c.a, _, _, .ref c.sa, rfl, rfl, (hC.2 c mc).t, rfl, q⟩
def spBkEnds (K : PySem.W.Frag) (C : Addr) : Sp := fun vs H Q _ => ∃ (p a : Addr) (cs : List CA) (c : CA), vs = [.ref p, .str c.nm] ∧ BookAt K C H p a cs ∧ c ∈ cs ∧ Q (.ref c.ea) H
abbrev nBe : List Str := ["self", "course"]
def spBkFrom (K : PySem.W.Frag) (C : Addr) : Sp := fun vs H Q _ => ∃ (p a b : Addr) (cs : List CA) (c : CA) (k : Nat), vs = [.ref p, .ref b] ∧ BookAt K C H p a cs ∧ c ∈ cs ∧ k < c.n ∧ H b = some (.tup (stV (c.nm, k))) ∧ ∀ q, H q = some (.tup (natV (offs c k))) → Q (.ref q) H
abbrev nBf : List Str := ["self", "stage"]
def spBkIsEnd (K : PySem.W.Frag) (C : Addr) : Sp := fun vs H Q _ => ∃ (p a b : Addr) (cs : List CA) (c : CA) (k : Nat), vs = [.ref p, .ref b] ∧ BookAt K C H p a cs ∧ c ∈ cs ∧ H b = some (.tup (stV (c.nm, k))) ∧ Q (.bl (decide (k ∈ c.es))) H
abbrev nBx2 : List Str := ["self", "stage"]
theorem scBx2 : FnScope nBx2 ["self", "stage"] (defScope sBkIsEnd) := ⟨rfl, rfl, rfl, by decide +kernel, rfl, by decide +kernel, by decide +kernel⟩
theorem ok_bkisend {f C : Addr} {fd : FuncData} (F : Fun K "is_end" "Book.is_end" sBkIsEnd f fd) (B : BkC K mg C) : FnOk P w K mg base CX0 1 f fd ["self", "stage"] (spBkIsEnd K C) := by
  refine F.ok scBx2 (fun vs H Q E h => ?_) (fun cdv A outer s H vs Q E hr h => ?_)
  · obtain ⟨p, a, b, cs, c, k, rfl, _⟩ := h
    rfl
  · obtain ⟨p, a, b, cs, c, k, rfl, ⟨dx, fs, P1, S1, E1, L1, S, hp, L, hC, ok, _, _, _, _, eE, _⟩, mc, hb, q⟩ := h
    refine ⟨_, pss_one (ps_ret (pe_cmp (pc_din (hu_of hr) (pv 1) (pe_fld (pv 0) rfl)) rfl)), ?_⟩
    refine ⟨_, rfl, _, rfl, p, C, dx, fs, .ref E1, rfl, hp, B.cl, B.nE, L.e, E1, _, rfl, DGet.t eE (k := stK (c.nm, k)) hb, ?_⟩
    have : (valV (edKV (edKeys cs)) (stK (c.nm, k))).isSome = decide (k ∈ c.es) := by
      rw [valV_has, edKV_keys]
      exact decide_eq_decide.mpr (edKeys_mem ok.nd mc k)
    rw [this]
    exact q
end
end Kb
namespace Kb
open PySem PySem.Spec PyProof.Rows L2
/-! ### parts_of, steps_out, all_in, plain, joined_row -/
def partsS (nm : Str) (s : Stp) : List Stg := if s.call = true then [(s.nm, 0), (nm, s.o)] else [(nm, s.o)]
/-- stages where they stand -/
def PtsAt (H : Hp) (q : Addr) (xs : List Stg) : Prop := ∃ L : List (Addr × Stg), H q = some (.tup (L.map fun t => V.ref t.1)) ∧ L.map (·.2) = xs ∧ ∀ t ∈ L, H t.1 = some (.tup (stV t.2))
theorem PtsAt.mono {H H' : Hp} {q : Addr} {xs : List Stg} (s : Same H H') (h : PtsAt H q xs) : PtsAt H' q xs := by
  obtain ⟨L, h1, h2, h3⟩ := h
  exact ⟨L, s _ _ h1, h2, fun t ht => s _ _ (h3 t ht)⟩
theorem kind_do (c : Bool) : decide (V.str (kindS c) = V.str (Str.ofString "do")) = !c := by
  cases c <;> decide +kernel
section
variable {P : Program} {w : World} {K : PySem.W.Frag} {mg : Str → Option Value} {base : Heap}
def spPartsOf : Sp := fun vs H Q _ => ∃ (b : Addr) (nm : Str) (s : Stp), vs = [.str nm, .ref b] ∧ H b = some (.tup (stpV s)) ∧ ∀ H' q, Same H H' → H q = none → PtsAt H' q (partsS nm s) → Q (.ref q) H'
abbrev nPf : List Str := ["course", "step", "_", "kind", "name", "onto"]
theorem scPf : FnScope nPf ["course", "step"] (defScope sPartsOf) := ⟨rfl, rfl, rfl, by decide +kernel, rfl, by decide +kernel, by decide +kernel⟩
theorem ok_partsof {f : Addr} {fd : FuncData} (F : Fun K "parts_of" "parts_of" sPartsOf f fd) : FnOk P w K mg base CX0 1 f fd ["course", "step"] spPartsOf := by
  refine F.ok scPf (fun vs H Q E h => ?_) (fun cdv A outer s H vs Q E hr h => ?_)
  · obtain ⟨b, nm, s, rfl, _⟩ := h
    rfl
  · obtain ⟨b, nm, s, rfl, hb, q⟩ := h
    refine ⟨_, pss_cons (ps_asg (pv 1) (pg_tup rfl (pgs_cons (pg_name (i := 2) scPf.nd rfl (Or.inl rfl)) (pgs_cons (pg_name (i := 3) scPf.nd rfl (Or.inl rfl)) (pgs_cons (pg_name (i := 4) scPf.nd rfl (Or.inl rfl)) (pgs_cons (pg_name (i := 5) scPf.nd rfl (Or.inl rfl)) pgs_nil))))))
      (pss_cons (ps_if (pt_cmpR op_eq (pv 3) pe_str (nomark _)) (pss_one (ps_ret (pe_tup (pa_cons (pe_tup (pa_cons (pv 0) (pa_cons (pv 5) pa_nil))) pa_nil)))) pss_nil)
      (pss_one (ps_ret (pe_tup (pa_cons (pe_tup (pa_cons (pv 4) (pa_cons pe_int pa_nil))) (pa_cons (pe_tup (pa_cons (pv 0) (pa_cons (pv 5) pa_nil))) pa_nil)))))), ?_⟩
    refine ⟨_, rfl, b, _, rfl, sqT_new hb, rfl, _, _, rfl, _, _, rfl, _, _, rfl, _, _, rfl, rfl, ?_⟩
    refine ⟨_, rfl, rfl, _, rfl, ?_⟩
    rw [kind_do]
    cases hc : s.call with
    | false =>
      refine iteYes rfl ?_
      refine ⟨.str nm, rfl, .int (s.o : Int), rfl, smallE (by show 2 ≤ 1000000; decide), fun e1 n1 => ⟨smallE (by show 1 ≤ 1000000; decide), fun e2 n2 => ?_⟩⟩
      have s1 := same_new (o := .tup [V.str nm, V.int (s.o : Int)]) n1
      have s2 := same_new (o := .tup [V.ref e1]) n2
      refine q _ e2 (s1.trans s2) (s1.free n2) ⟨[(e1, nm, s.o)], upd_same, by rw [partsS, hc]; rfl, fun t ht => ?_⟩
      rw [List.mem_singleton.mp ht]
      exact s2 _ _ upd_same
    | true =>
      refine iteNo rfl ?_
      refine ⟨.str s.nm, rfl, smallE (by show 2 ≤ 1000000; decide), fun e1 n1 => ⟨.str nm, rfl, .int (s.o : Int), rfl, smallE (by show 2 ≤ 1000000; decide), fun e2 n2 => ⟨smallE (by show 2 ≤ 1000000; decide), fun e3 n3 => ?_⟩⟩⟩
      have s1 := same_new (o := .tup [V.str s.nm, V.int 0]) n1
      have s2 := same_new (o := .tup [V.str nm, V.int (s.o : Int)]) n2
      have s3 := same_new (o := .tup [V.ref e1, V.ref e2]) n3
      refine q _ e3 ((s1.trans s2).trans s3) ((s1.trans s2).free n3) ⟨[(e1, s.nm, 0), (e2, nm, s.o)], upd_same, by rw [partsS, hc]; rfl, fun t ht => ?_⟩
      rcases List.mem_cons.mp ht with e | ht
      · rw [e]
        exact s3 _ _ (s2 _ _ upd_same)
      · rw [List.mem_singleton.mp ht]
        exact s3 _ _ upd_same
/-- the steps that leave a stage, each with its parts -/
abbrev SO := Addr × Nat × Addr
def OutAt (H : Hp) (l : Addr) (c : CA) (k : Nat) : Prop := ∃ L : List SO, H l = some (.lst (L.map fun t => V.ref t.1)) ∧ L.map (·.2.1) = offs c k ∧ ∀ t ∈ L, H t.1 = some (.tup [.int (t.2.1 : Int), .ref t.2.2]) ∧ ∀ s, c.ss[t.2.1]? = some s → PtsAt H t.2.2 (partsS c.nm s.2)
theorem OutAt.mono {H H' : Hp} {l : Addr} {c : CA} {k : Nat} (s : Same H H') (h : OutAt H l c k) : OutAt H' l c k := by
  obtain ⟨L, h1, h2, h3⟩ := h
  exact ⟨L, s _ _ h1, h2, fun t ht => ⟨s _ _ (h3 t ht).1, fun x hx => ((h3 t ht).2 x hx).mono s⟩⟩
theorem offs_lt {c : CA} {k i : Nat} (h : i ∈ offs c k) : ∃ s, c.ss[i]? = some s ∧ s.2.n = k := by
  have h := (List.mem_filter.mp h).2
  have h := of_decide_eq_true h
  cases e : c.ss[i]? with
  | none =>
    rw [e] at h
    cases h
  | some s =>
    rw [e] at h
    exact ⟨s, rfl, Option.some.inj h⟩
theorem offs_len (c : CA) (k : Nat) : (offs c k).length ≤ c.ss.length := by
  have := List.length_filter_le (fun i => decide ((c.ss[i]?).map (·.2.n) = some k)) (List.range c.ss.length)
  rwa [List.length_range] at this
def spAllIn (K : PySem.W.Frag) : Sp := fun vs H Q _ => ∃ (q d : Addr) (xs : List Stg) (kvs : List (List L2.Key × V)), vs = [.ref q, .ref d] ∧ PtsAt H q xs ∧ xs.length ≤ 100000 ∧ Rd H d (.dT kvs) ∧ ∀ H', Same H H' → Q (.bl (xs.all fun x => (valV kvs (stK x)).isSome)) H'
abbrev nAi : List Str := ["parts", "table", "part"]
theorem scAi : FnScope nAi ["parts", "table"] (defScope sAllIn) := ⟨rfl, rfl, rfl, by decide +kernel, rfl, by decide +kernel, by decide +kernel⟩
theorem ok_allin {f : Addr} {fd : FuncData} (F : Fun K "all_in" "all_in" sAllIn f fd) (N : Nones mg) : FnOk P w K mg base CX0 1 f fd ["parts", "table"] (spAllIn K) := by
  refine F.ok scAi (fun vs H Q E h => ?_) (fun cdv A outer s H vs Q E hr h => ?_)
  · obtain ⟨q, d, xs, kvs, rfl, _⟩ := h
    rfl
  · obtain ⟨q, d, xs, kvs, rfl, ⟨L, h1, rfl, h3⟩, hl, hd, fin⟩ := h
    rw [List.length_map] at hl
    refine ⟨_, pss_one (ps_ret (pe_callB (cr_all rfl) (by rfl) N.all (by decide +kernel) (pa_cons (pe_lc (own := [("part", 2)]) (g := gName 2) (tt := tYes) rfl scAi.nd (pi_tup (pv 0)) (blkOk_by (own := [("part", 2)]) (N := nAi) (sc := defScope sAllIn) (by decide +kernel)) (fun _ _ _ _ _ => (pg_name (i := 2) scAi.nd rfl (Or.inl rfl))) (fun _ _ _ _ _ => pts_nil) (fun _ _ _ _ _ => (pe_cmp (pc_din (hu_of hr) (pv 2) (pv 1)) rfl))) pa_nil))), ?_⟩
    refine ⟨_, rfl, q, rfl, ⟨_, sqT_new h1⟩, fun D nD => ?_⟩
    refine lc_pure (walk_tup (K := K) (a := q) (xs := L.map fun t => V.ref t.1)) ((L.map fun t => (valV kvs (stK t.2)).isSome).map V.bl) (by rw [List.length_map, List.length_map, List.length_map]) nD (fun _ s => sqT_new (s _ _ h1)) (fun i x H0 H' hi h0 y => ?_) (fun H' s' e => ?_)
    · obtain ⟨rfl, hy⟩ := y
      obtain ⟨t, ht, rfl⟩ := get_map hy
      have g : DGet H' d (.ref t.1) (valV kvs (stK t.2)) := .inr ⟨kvs, stK t.2, t.1, (by rcases hd with hd | ⟨o, hd⟩; exact .inl (h0.1 _ _ hd); exact .inr ⟨o, h0.1 _ _ hd⟩), rfl, h0.1 _ _ (h3 t (List.mem_of_getElem? ht)), rfl⟩
      refine ⟨rfl, _, rfl, _, rfl, d, _, rfl, g, ?_⟩
      refine h0.put nD (fun _ _ e => e) ?_ (by rw [List.length_map, List.length_map]; omega)
      rw [List.getElem?_map, List.getElem?_map, ht]
      rfl
    · refine ⟨D, _, rfl, sqL_new e, ?_⟩
      have : (L.map fun t => (valV kvs (stK t.2)).isSome).all id = (L.map (·.2)).all fun x => (valV kvs (stK x)).isSome := by
        rw [List.all_map, List.all_map]
        rfl
      rw [this]
      exact fin H' s'
end
end Kb
namespace Kb
open PySem PySem.Spec PyProof.Rows L2
/-! ### texts and places, as a table -/
abbrev SA := Str × Addr
def saKV (T : List SA) : List (L2.Key × V) := T.map fun t => (Sum.inr t.1, V.ref t.2)
theorem saKV_keys (T : List SA) : (saKV T).map (·.1) = (T.map (·.1)).map Sum.inr := by
  unfold saKV
  rw [List.map_map, List.map_map]
  rfl
theorem nd_map {α β : Type} {f : α → β} (inj : ∀ a b, f a = f b → a = b) {l : List α} (h : l.Nodup) : (l.map f).Nodup := by
  unfold List.Nodup at h ⊢
  rw [List.pairwise_map]
  exact h.imp fun ne e => ne (inj _ _ e)
theorem saKV_len (T : List SA) : (saKV T).length = T.length := List.length_map _
theorem sa_get {T : List SA} (nd : (T.map (·.1)).Nodup) {t : SA} (h : t ∈ T) : valV (saKV T) (Sum.inr t.1 : L2.Key) = some (.ref t.2) := valV_mem (by
  rw [saKV_keys]
  exact nd_map (fun a b e => Sum.inr.inj e) nd) (List.mem_map.mpr ⟨t, h, rfl⟩)
end Kb
namespace Kb
open PySem PySem.Spec PyProof.Rows L2
theorem partsS_len (nm : Str) (s : Stp) : (partsS nm s).length ≤ 2 := by
  unfold partsS
  split <;> simp
end Kb
namespace Kb
open PySem PySem.Spec PyProof.Rows L2
/-! ### the steps that leave a stage -/
section
variable {P : Program} {w : World} {K : PySem.W.Frag} {mg : Str → Option Value} {base : Heap}
theorem scBf : FnScope nBf ["self", "stage"] (defScope sBkFrom) := ⟨rfl, rfl, rfl, by decide +kernel, rfl, by decide +kernel, by decide +kernel⟩
theorem ok_bkfrom {f C : Addr} {fd : FuncData} (F : Fun K "steps_from" "Book.steps_from" sBkFrom f fd) (B : BkC K mg C) : FnOk P w K mg base CX0 1 f fd ["self", "stage"] (spBkFrom K C) := by
  refine F.ok scBf (fun vs H Q E h => ?_) (fun cdv A outer s H vs Q E hr h => ?_)
  · obtain ⟨p, a, b, cs, c, k, rfl, _⟩ := h
    rfl
  · obtain ⟨p, a, b, cs, c, k, rfl, ⟨dx, fs, P1, S1, E1, L1, S, hp, L, hC, ok, eP, _, _, _, _, M, m1, m2, m3, m4⟩, mc, hk, hb, q⟩ := h
    refine ⟨_, pss_one (ps_ret (pe_dget (hu_of hr) (pe_fld (pv 0) rfl) (pv 1) (fun _ _ => rfl))), ?_⟩
    have hm : skey c k ∈ M.map (·.1) := by rw [m2]; exact mem_keysOf mc hk
    obtain ⟨t, ht, et⟩ := List.mem_map.mp hm
    have kn : (M.map (·.1)).Nodup := by
      rw [m2]
      have := keys_nd ok.nd cs.length (Nat.le_refl _)
      rwa [List.take_length] at this
    have hv : valV (M.map fun t => (t.1, V.ref t.2.1)) (stK (c.nm, k)) = some (.ref t.2.1) := valV_mem (by rw [List.map_map]; exact kn) (List.mem_map.mpr ⟨t, ht, by rw [et]; rfl⟩)
    refine ⟨_, rfl, p, C, dx, fs, .ref L1, rfl, hp, B.cl, B.nL, L.l, _, rfl, L1, .ref t.2.1, rfl, hv ▸ DGet.t m1 (k := stK (c.nm, k)) hb, ?_⟩
    refine q t.2.1 ?_
    rw [m3 t ht, m4 t ht c mc k et]
def spStepsOut (K : PySem.W.Frag) (C : Addr) : Sp := fun vs H Q _ => ∃ (p a b : Addr) (cs : List CA) (c : CA) (k : Nat), vs = [.ref p, .ref b] ∧ BookAt K C H p a cs ∧ c ∈ cs ∧ k < c.n ∧ H b = some (.tup (stV (c.nm, k))) ∧ ∀ H' l, Same H H' → H l = none → OutAt H' l c k → Q (.ref l) H'
abbrev nSo : List Str := ["book", "stage", "steps", "k"]
theorem scSo : FnScope nSo ["book", "stage"] (defScope sStepsOut) := ⟨rfl, rfl, rfl, by decide +kernel, rfl, by decide +kernel, by decide +kernel⟩
theorem ok_stepsout {f C fS fF fP : Addr} {fd fdS fdF fdP : FuncData} (F : Fun K "steps_out" "steps_out" sStepsOut f fd) (B : BkC K mg C) (GM_steps : FnOk P w K mg base CX0 1 fS fdS ["self", "course"] (spBkSteps K C)) (bM_steps : Binds K fdS ["self", "course"] []) (m_steps : Meth K C "steps" fS)
    (GM_steps_from : FnOk P w K mg base CX0 1 fF fdF ["self", "stage"] (spBkFrom K C)) (bM_steps_from : Binds K fdF ["self", "stage"] []) (m_steps_from : Meth K C "steps_from" fF) (G_parts_of : FnOk P w K mg base CX0 1 fP fdP ["course", "step"] spPartsOf) (C_parts_of : CallC K mg "parts_of" ["course", "step"] fP fdP) : FnOk P w K mg base CX0 2 f fd ["book", "stage"] (spStepsOut K C) := by
  refine F.ok scSo (fun vs H Q E h => ?_) (fun cdv A outer s H vs Q E hr h => ?_)
  · obtain ⟨p, a, b, cs, c, k, rfl, _⟩ := h
    rfl
  · obtain ⟨p, a, b, cs, c, k, rfl, hB, mc, hk, hb, q⟩ := h
    refine ⟨_, pss_cons (ps_set (i := 2) scSo.nd rfl (Or.inr rfl) (pe_meth (pv 0) B.cl m_steps GM_steps (hr.mono (by decide)) bM_steps .nil pass0 (pa_cons (pe_ix ix_tup (pv 1) pe_int (fun _ _ => rfl)) pa_nil)))
      (pss_one (ps_ret (pe_lc (own := [("k", 3)]) (g := gName 3) (tt := tYes) rfl scSo.nd (pi_tup (pe_meth (pv 0) B.cl m_steps_from GM_steps_from (hr.mono (by decide)) bM_steps_from .nil pass0 (pa_cons (pv 1) pa_nil))) (blkOk_by (own := [("k", 3)]) (N := nSo) (sc := defScope sStepsOut) (by decide +kernel)) (fun _ _ _ _ _ => (pg_name (i := 3) scSo.nd rfl (Or.inl rfl))) (fun _ _ _ _ _ => pts_nil) (fun _ _ _ _ _ => (pe_tup (pa_cons (pv 3) (pa_cons (pe_call G_parts_of (hr.mono (by decide)) (by rfl) C_parts_of.g C_parts_of.kp C_parts_of.b .nil pass0 (pa_cons (pe_ix (ixT_at (K := K) rfl) (pv 1) pe_int (fun _ _ => rfl)) (pa_cons (pe_ix (ixT_at (K := K) rfl) (pv 2) (pv 3) (fun _ _ => rfl)) pa_nil))) pa_nil))))))), ?_⟩
    obtain ⟨dx, fs, P1, S1, E1, L1, S, hp, L, hC, ok, _⟩ := id hB
    have cc := hC.2 c mc
    refine ⟨_, rfl, p, dx, fs, rfl, hp, L.no _ (by decide +kernel), _, rfl, b, _, _, .str c.nm, rfl, rfl, sqT_new hb, rfl, p, a, cs, c, rfl, hB, mc, ?_⟩
    refine ⟨_, rfl, p, dx, fs, rfl, hp, L.no _ (by decide +kernel), _, rfl, p, a, b, cs, c, k, rfl, hB, mc, hk, hb, fun q1 e1 => ?_⟩
    refine ⟨q1, rfl, ⟨_, sqT_new e1⟩, fun D nD => ?_⟩
    have osz := (ok.ok c mc).sz
    have ol := offs_len c k
    refine lc_it (walk_tup (K := K) (a := q1) (xs := natV (offs c k))) (fun i G => ∃ L : List SO, Same H G ∧ G D = some (.lst (L.map fun t => V.ref t.1)) ∧ L.map (·.2.1) = (offs c k).take i ∧ ∀ t ∈ L, G t.1 = some (.tup [.int (t.2.1 : Int), .ref t.2.2]) ∧ ∀ s, c.ss[t.2.1]? = some s → PtsAt G t.2.2 (partsS c.nm s.2)) ⟨[], same_new nD, upd_same, rfl, fun t ht => nomatch ht⟩ (fun _ _ _ h => sqT_new (h.choose_spec.1 _ _ e1)) (fun i x G G' hi h y => ?_) (fun G h => ?_)
    · obtain ⟨rfl, hy⟩ := y
      obtain ⟨j, hj, rfl⟩ := get_map (f := fun (i : Nat) => V.int (i : Int)) hy
      obtain ⟨L, sG, eG, kL, tL⟩ := h
      obtain ⟨s0, hs0, _⟩ := offs_lt (List.mem_of_getElem? hj)
      have lL : L.length ≤ 10000 := by
        have := congrArg List.length kL
        rw [List.length_map, List.length_take] at this
        omega
      have hsv : (c.ss.map fun p => V.ref p.1)[j]? = some (.ref s0.1) := by rw [List.getElem?_map, hs0]; rfl
      refine ⟨rfl, .int (j : Nat), rfl, _, rfl, b, _, _, .str c.nm, rfl, rfl, sqT_new (sG _ _ hb), rfl, _, rfl, .int (j : Nat), rfl, c.sa, _, _, .ref s0.1, rfl, rfl, Same.sqT sG cc.s, atI_nat hsv, s0.1, c.nm, s0.2, rfl, sG _ _ (cc.p s0 (List.mem_of_getElem? hs0)), fun H2 q2 s2 n2 pq => ?_⟩
      refine ⟨smallE (by show 2 ≤ 1000000; decide), fun t0 nt => ?_⟩
      have st := same_new (o := .tup [V.int (j : Nat), V.ref q2]) nt
      have et : upd H2 t0 (.tup [V.int (j : Nat), V.ref q2]) t0 = some (.tup [V.int (j : Nat), V.ref q2]) := upd_same
      have pq := pq.mono st
      have sZ := s2.trans st
      generalize upd H2 t0 (.tup [V.int (j : Nat), V.ref q2]) = Z at st et pq sZ
      have eD := sZ _ _ eG
      have nDt : ∀ {c : Addr} {xs : List V}, Z c = some (.tup xs) → upd Z D (.lst (L.map (fun t => V.ref t.1) ++ [V.ref t0])) c = some (.tup xs) := fun {c xs} e => by
        rw [upd_ne]
        · exact e
        · intro w
          rw [w, eD] at e
          cases e
      have pD : ∀ {q : Addr} {xs : List Stg}, PtsAt Z q xs → PtsAt (upd Z D (.lst (L.map (fun t => V.ref t.1) ++ [V.ref t0]))) q xs := fun ⟨L, a1, a2, a3⟩ => ⟨L, nDt a1, a2, fun t ht => nDt (a3 t ht)⟩
      refine ⟨_, eD, by rw [List.length_map]; exact small (by omega), L ++ [(t0, j, q2)], fun c o e => ?_, ?_, ?_, fun t ht => ?_⟩
      · rw [upd_ne (ne_of_none e nD)]
        exact sZ _ _ (sG _ _ e)
      · rw [upd_same, List.map_append]
        rfl
      · rw [List.map_append, kL, take_of_get hj]
        rfl
      · rcases List.mem_append.mp ht with z | z
        · obtain ⟨a1, a2⟩ := tL t z
          exact ⟨nDt (sZ _ _ a1), fun x hx => pD ((a2 x hx).mono sZ)⟩
        · rw [List.mem_singleton.mp z]
          refine ⟨nDt et, fun x hx => ?_⟩
          have hx : c.ss[j]? = some x := hx
          rw [hs0] at hx
          cases hx
          exact pD pq
    · obtain ⟨L, sG, eG, kL, tL⟩ := h
      rw [natV_len, List.take_of_length_le (Nat.le_refl _)] at kL
      exact q G D sG nD ⟨L, eG, kL, tL⟩
end
end Kb
namespace Kb
open PySem PySem.Spec PyProof.Rows L2
/-! ### a book's stages and names -/
/-- the stages in their order -/
def stagesS (cs : List CA) : List Stg := (stagesOf cs).mergeSort stLe
theorem mem_stagesS {cs : List CA} {x : Stg} : x ∈ stagesS cs ↔ ∃ c ∈ cs, x.1 = c.nm ∧ x.2 < c.n := by
  unfold stagesS
  rw [(List.mergeSort_perm _ _).mem_iff]
  unfold stagesOf
  rw [List.mem_flatMap]
  constructor
  · rintro ⟨c, h, h2⟩
    obtain ⟨k, hk, rfl⟩ := List.mem_map.mp h2
    exact ⟨c, h, rfl, List.mem_range.mp hk⟩
  · rintro ⟨c, h, e, hk⟩
    exact ⟨c, h, List.mem_map.mpr ⟨x.2, List.mem_range.mpr hk, by rw [← e]⟩⟩
theorem stagesOf_keys (cs : List CA) : (stagesOf cs).map stK = keysOf cs := by
  unfold stagesOf keysOf
  rw [List.map_flatMap]
  congr 1
  funext c
  unfold keysC
  rw [List.map_map]
  rfl
theorem stagesOf_len (cs : List CA) : (stagesOf cs).length = nStages cs := by
  rw [← keysOf_len, ← stagesOf_keys, List.length_map]
theorem stagesS_len (cs : List CA) : (stagesS cs).length = nStages cs := by
  unfold stagesS
  rw [(List.mergeSort_perm _ _).length_eq, stagesOf_len]
theorem stagesS_nd {cs : List CA} (nd : (cs.map (·.nm)).Nodup) : (stagesS cs).Nodup := by
  unfold stagesS
  refine (List.mergeSort_perm _ _).nodup_iff.mpr ?_
  have h := keys_nd nd cs.length (Nat.le_refl _)
  rw [List.take_length, ← stagesOf_keys] at h
  unfold List.Nodup at *
  rw [List.pairwise_map] at h
  exact h.imp fun ne e => ne (by rw [e])
theorem stK_nd {l : List Stg} (h : l.Nodup) : (l.map stK).Nodup := by
  unfold List.Nodup at *
  rw [List.pairwise_map]
  exact h.imp fun ne e => ne (stK_inj e)
/-- the parts of a step are stages -/
theorem parts_stage {cs : List CA} (ok : CsOk cs) {c : CA} (hc : c ∈ cs) {p : Addr × Stp} (hp : p ∈ c.ss) {x : Stg} (h : x ∈ partsS c.nm p.2) : x ∈ stagesS cs := by
  have own : (c.nm, p.2.o) ∈ stagesS cs := mem_stagesS.mpr ⟨c, hc, rfl, ((ok.ok c hc).sl p hp).2.1⟩
  unfold partsS at h
  split at h
  · rename_i e
    rcases List.mem_cons.mp h with z | z
    · have : p.2.nm ∈ calls c.ss := List.mem_map.mpr ⟨p, List.mem_filter.mpr ⟨hp, e⟩, rfl⟩
      obtain ⟨c', h1, h2⟩ := List.mem_map.mp (ok.cl c hc _ this)
      rw [z]
      exact mem_stagesS.mpr ⟨c', h1, h2.symm, (ok.ok c' h1).n0⟩
    · rw [List.mem_singleton.mp z]
      exact own
  · rw [List.mem_singleton.mp h]
    exact own
section
variable {P : Program} {w : World} {K : PySem.W.Frag} {mg : Str → Option Value} {base : Heap}
/-- the stages of a book where they stand -/
def spBkStages (K : PySem.W.Frag) (C : Addr) : Sp := fun vs H Q _ => ∃ (p a : Addr) (cs : List CA), vs = [.ref p] ∧ BookAt K C H p a cs ∧ ∀ q, PtsAt H q (stagesS cs) → Q (.ref q) H
abbrev nBt : List Str := ["self"]
theorem scBt : FnScope nBt ["self"] (defScope sBkStages) := ⟨rfl, rfl, rfl, by decide +kernel, rfl, by decide +kernel, by decide +kernel⟩
theorem ok_bkstages {f C : Addr} {fd : FuncData} (F : Fun K "stages" "Book.stages" sBkStages f fd) (B : BkC K mg C) : FnOk P w K mg base CX0 1 f fd ["self"] (spBkStages K C) := by
  refine F.ok scBt (fun vs H Q E h => ?_) (fun cdv A outer s H vs Q E hr h => ?_)
  · obtain ⟨p, a, cs, rfl, _⟩ := h
    rfl
  · obtain ⟨p, a, cs, rfl, ⟨dx, fs, P1, S1, E1, L1, S, hp, L, hC, ok, eP, eS, hS, oS, _⟩, q⟩ := h
    refine ⟨_, pss_one (ps_ret (pe_fld (pv 0) rfl)), ?_⟩
    exact ⟨_, rfl, p, C, dx, fs, .ref S1, rfl, hp, B.cl, B.nS, L.s, q S1 ⟨S, eS, oS, fun t ht => hS t ht⟩⟩
def spBkNames (K : PySem.W.Frag) (C : Addr) : Sp := fun vs H Q _ => ∃ (p a : Addr) (cs : List CA), vs = [.ref p] ∧ BookAt K C H p a cs ∧ ∀ H' q, Same H H' → H q = none → H' q = some (.tup (cs.map fun c => V.str c.nm)) → Q (.ref q) H'
abbrev nBn : List Str := ["self", "course"]
theorem scBn : FnScope nBn ["self"] (defScope sBkNames) := ⟨rfl, rfl, rfl, by decide +kernel, rfl, by decide +kernel, by decide +kernel⟩
theorem ok_bknames {f C : Addr} {fd : FuncData} (F : Fun K "names" "Book.names" sBkNames f fd) (N : Nones mg) (B : BkC K mg C) : FnOk P w K mg base CX0 1 f fd ["self"] (spBkNames K C) := by
  refine F.ok scBn (fun vs H Q E h => ?_) (fun cdv A outer s H vs Q E hr h => ?_)
  · obtain ⟨p, a, cs, rfl, _⟩ := h
    rfl
  · obtain ⟨p, a, cs, rfl, ⟨dx, fs, P1, S1, E1, L1, S, hp, L, hC, ok, _⟩, q⟩ := h
    refine ⟨_, pss_one (ps_ret (pe_callTy call_tuple_of (by rfl) N.tuple (by decide +kernel) (pa_cons (pe_lc (own := [("course", 1)]) (g := gName 1) (tt := tYes) rfl scBn.nd (pi_tup (pe_fld (pv 0) rfl)) (blkOk_by (own := [("course", 1)]) (N := nBn) (sc := defScope sBkNames) (by decide +kernel)) (fun _ _ _ _ _ => (pg_name (i := 1) scBn.nd rfl (Or.inl rfl))) (fun _ _ _ _ _ => pts_nil) (fun _ _ _ _ _ => (pe_ix (ixT_at (K := K) rfl) (pv 1) pe_int (fun _ _ => rfl)))) pa_nil))), ?_⟩
    refine ⟨_, rfl, p, C, dx, fs, .ref a, rfl, hp, B.cl, B.nC, L.c, a, rfl, ⟨_, hC.1⟩, fun D nD => ?_⟩
    refine lc_pure (walk_tup (K := K) (a := a) (xs := cs.map fun c => V.ref c.a)) (cs.map fun c => V.str c.nm) (by rw [List.length_map, List.length_map]) nD (fun _ s => Same.sqT s hC.1) (fun i x H0 H' hi h0 y => ?_) (fun H' s' e => ?_)
    · obtain ⟨rfl, hy⟩ := y
      obtain ⟨c, hc, rfl⟩ := get_map hy
      have n8 := ok.n8
      have hCc := (hC.2 c (List.mem_of_getElem? hc)).mono h0.1
      refine ⟨rfl, _, rfl, c.a, _, _, .str c.nm, rfl, rfl, hCc.t, rfl, ?_⟩
      refine h0.put nD (fun _ _ e => e) ?_ (by rw [List.length_map]; omega)
      rw [List.getElem?_map, hc]
      rfl
    · refine ⟨D, _, rfl, .inl ⟨sqL_new e, fun l nl => ?_⟩⟩
      exact q _ l (s'.trans (same_new nl)) (s'.free nl) upd_same
end
end Kb
/-! {k: v for target in iter if ..} whose keys are tuples, with tests; and y = {..} on one line. -/
namespace Ka
open PySem PySem.Spec PyProof.Rows L2
section
variable {X : Cx}
/-- with tests -/
def tDcTt (wi : TI) (g : TG) (tt : TT) (tk tv : TE) (vs : List Nat) : TE := fun σ H Q => wi σ H fun J H1 => ∀ D, H1 D = none → ∃ W : Nat → Nat → Hp → Prop, (∃ m, W 0 m (upd H1 D (.dT []))) ∧ ∀ i m H, W i m H →
  (J.stop i H ∧ Q (.ref D) H) ∨ (J.go i H ∧ ∃ Nx : Hp → Prop, (∀ H', Nx H' → ∃ m', m' < m ∧ W (i + 1) m' H') ∧ ∀ x H', J.yld i H x H' → g x (wipe σ vs) H' fun σ2 H2 => wipe σ2 vs = wipe σ vs ∧ tt σ2 H2 fun b H3 =>
    if b = true then tk σ2 H3 fun y H4 => tv σ2 H4 fun z H5 => ∃ kvs k b, y = .ref b ∧ H5 b = some (.tup (k.map kV)) ∧ H5 D = some (.dT kvs) ∧ kvs.length < sizeLine ∧ Nx (upd H5 D (.dT (putK kvs k z))) else Nx H3)
/-- one turn of the block, from the item drawn on -/
theorem dctt_turn {Z : Cx} {kx vx tg : Expr} {ifs : List Expr} {g : TG} {tt : TT} {tk tv : TE} {D : Addr} {τ : L2.St} {vs : List Nat} {H : Hp} {s : Shared} {x : V} {u : Value} {Nx : Hp → Prop} {R : Shared → Prop} {pins : List (Addr × Obj)} {E' : Value → Shared → Prop} (hE : Z.xe = fun _ _ => False) (hu : Z.A.units + 1 < cLine)
    (pg : PG Z tg g) (pts : PTs Z ifs tt) (pk : PE Z kx tk) (pe : PE Z vx tv) (I : Inv Z pins τ H s) (rx : RelV x u)
    (h : g x τ H fun σ2 H2 => wipe σ2 vs = τ ∧ tt σ2 H2 fun bb H3 => if bb = true then tk σ2 H3 fun y H4 => tv σ2 H4 fun z H5 => ∃ kvs k b, y = .ref b ∧ H5 b = some (.tup (k.map kV)) ∧ H5 D = some (.dT kvs) ∧ kvs.length < sizeLine ∧ Nx (upd H5 D (.dT (putK kvs k z))) else Nx H3)
    (fin : ∀ σ2 H' s', wipe σ2 vs = τ → Inv Z pins σ2 H' s' → Nx H' → R s') :
    wpAny (model Z.prog Z.w) Z.A (assign tg Z.env u) (fun _ s₂ => wpAny (model Z.prog Z.w) Z.A (forIn ifs true fun c r => if r = true then do let ok ← isTrue c Z.env (eval c Z.env); pure (ForInStep.yield ok) else pure (ForInStep.yield r)) (fun ok s₃ =>
      if ok = true then wpAny (model Z.prog Z.w) Z.A (eval kx Z.env) (fun kv s₄ => wpAny (model Z.prog Z.w) Z.A (eval vx Z.env) (fun vv s₅ => wpAny (model Z.prog Z.w) Z.A (dictSet D kv vv) (fun _ s₆ => R s₆) E' s₅) E' s₄) E' s₃ else R s₃) E' s₂) E' s := by
  have a1 := pg.run pins s τ H x u _ I rx h
  rw [hE] at a1
  refine thnF a1 fun _ s8 ⟨σ8, H8, I8, hw, q8⟩ => ?_
  have a0 := pts.run pins s8 σ8 H8 _ I8 q8
  rw [hE] at a0
  refine thnF a0 fun bb s9 ⟨H9, I9, q9⟩ => ?_
  cases bb with
  | false =>
    rw [if_neg Bool.false_ne_true] at q9 ⊢
    exact fin σ8 _ s9 hw I9 q9
  | true =>
  rw [if_pos rfl] at q9 ⊢
  have a2 := pk.run pins s9 σ8 H9 _ I9 q9
  rw [hE] at a2
  refine thnF a2 fun kv s10 ⟨y, H10, I10, r10, q10⟩ => ?_
  have a3 := pe.run pins s10 σ8 H10 _ I10 q10
  rw [hE] at a3
  refine thnF a3 fun vv s11 ⟨z, H11, I11, r11, kvs, k, b, ey, hb, hD, hz, nx⟩ => ?_
  subst ey
  exact dT_set hu I11 hD hz hb r10 r11 fun s12 I12 => fin σ8 _ s12 hw I12 nx

theorem dcT_core {pins : List (Addr × Obj)} {s : Shared} {σ : L2.St} {H : Hp} {Q : VK} {kx vx tg iter : Expr} {ifs : List Expr} {scope : Scope} {own : List (Str × Nat)} {pos pos' : Pos} {wi : TI} {g : TG} {tt : TT} {tk tv : TE} {used : Option (Value → Sem Unit)} {Qf : Value → Shared → Prop} (hc : X.calm = true) (hu : X.A.units + 1 < cLine) (hN : X.N.Nodup) (I : Inv X pins σ H s) (hi : PI X tg iter wi) (ok : BlkOk X.N X.env.scope scope own)
    (hg : ∀ (s : Shared) (H : Hp) (C : Addr) (cl : List (Str × Addr)) (fp : List Addr), PG (X.blk s H scope (compEnvC scope cl C X.env) fp) tg g)
    (ht : ∀ (s : Shared) (H : Hp) (C : Addr) (cl : List (Str × Addr)) (fp : List Addr), PTs (X.blk s H scope (compEnvC scope cl C X.env) fp) ifs tt)
    (hk : ∀ (s : Shared) (H : Hp) (C : Addr) (cl : List (Str × Addr)) (fp : List Addr), PE (X.blk s H scope (compEnvC scope cl C X.env) fp) kx tk)
    (hv : ∀ (s : Shared) (H : Hp) (C : Addr) (cl : List (Str × Addr)) (fp : List Addr), PE (X.blk s H scope (compEnvC scope cl C X.env) fp) vx tv) (hs : ∀ x, foldedSetIterable iter X.env x = pure x)
    (h : tDcTt wi g tt tk tv (own.map (·.2)) σ H Q)
    (fin : ∀ D C s' m H', Inv X pins σ H' s' → Q (.ref D) H' → s'.heap.Ns C m → FpOk X pins H' C → compPost (model X.prog X.w) X.A X.xe used Qf (.ref D) C (.ok .next) s') :
    wpAny (model X.prog X.w) X.A (comprehension (.DictComp kx vx [⟨tg, iter, ifs, 0⟩] scope pos) scope X.env pos' newDict false (eval iter X.env) used) Qf X.xe s := by
  have free : ∀ y ∈ scope.names, y.2 = .free → ∃ c, X.env.cells.lookup y.1 = some c := fun y hy e => (ok.free y hy e).elim (fun k => I.ok.has _ (.inl k)) (fun k => I.ok.has _ (.inr k))
  refine wpAny_comprehension_free (use := used) rfl hs (closure_ok free) ok.kind (fun y hy e => by rw [ok.uniq y hy, e]) (thn (hi.run pins s σ H _ I h) fun _ s1 hx => thn hx fun _ s2 ⟨it, fp, tn, J, H2, e, I2, T, st2, f2, q⟩ => ?_)
  subst e
  refine wpAny_newObj_type (newEnv_comp ?_)
  generalize hD : s2.heap.objs.size = D
  have nD : H2 D = none := I2.hok.fresh (Nat.le_of_eq hD)
  obtain ⟨W, ⟨m0, w0⟩, turn⟩ := q D nD
  generalize hs3 : ({ s2 with heap := s2.heap.push { cls := .type "dict", data := .dict #[] } } : Shared) = s3
  have h3 : s3.heap = s2.heap.push { cls := .type "dict", data := .dict #[] } := by rw [← hs3]
  have I3 : Inv X pins σ (upd H2 D (.dT [])) s3 := by
    subst hs3 hD
    exact I2.laid (t' := s2.toks) (fun b o z => Heap.get?_push_of_some _ z) (Nat.le_refl _) (dt_empty s2.heap I2.big)
  have f3 : ∀ b ∈ fp, FpOk X pins (upd H2 D (.dT [])) b ∧ b < s3.heap.objs.size := fun b hb => by
    obtain ⟨o, e, _⟩ := T.obj _ _ st2 b hb
    have lt : b < s2.heap.objs.size := Heap.lt_size e
    refine ⟨⟨?_, (f2 b hb).2⟩, by rw [h3, Heap.size_push]; exact Nat.lt_succ_of_lt lt⟩
    rw [upd_ne (by rw [← hD]; exact Nat.ne_of_lt lt)]
    exact (f2 b hb).1
  have I4 := block_start I3 ok hN f3
  have pg := hg s3 (upd H2 D (.dT [])) s3.heap.objs.size (cellsFrom (s3.heap.objs.size + 1) scope.names (cloFrom X.env.cells scope.names [])) fp
  have pts := ht s3 (upd H2 D (.dT [])) s3.heap.objs.size (cellsFrom (s3.heap.objs.size + 1) scope.names (cloFrom X.env.cells scope.names [])) fp
  have pk := hk s3 (upd H2 D (.dT [])) s3.heap.objs.size (cellsFrom (s3.heap.objs.size + 1) scope.names (cloFrom X.env.cells scope.names [])) fp
  have pv := hv s3 (upd H2 D (.dT [])) s3.heap.objs.size (cellsFrom (s3.heap.objs.size + 1) scope.names (cloFrom X.env.cells scope.names [])) fp
  show codeAny _ _ (.compStart (.DictComp kx vx [⟨tg, iter, ifs, 0⟩] scope pos) 0 (.ref it) (.ref D) (compEnvC scope (cellsFrom (s3.heap.objs.size + 1) scope.names (cloFrom X.env.cells scope.names [])) s3.heap.objs.size X.env)) (compPost (model X.prog X.w) X.A X.xe used Qf (.ref D) s3.heap.objs.size) { s3 with heap := pushCells (s3.heap.push { cls := .type "dict", data := .dict #[] }) scope.names }
  generalize hce : compEnvC scope (cellsFrom (s3.heap.objs.size + 1) scope.names (cloFrom X.env.cells scope.names [])) s3.heap.objs.size X.env = ce at I4 pg pts pk pv ⊢
  have cL : ce.locals = s3.heap.objs.size := by subst hce; rfl
  generalize hH3 : upd H2 D (.dT []) = H3 at I3 I4 pg pts pk pv w0 f3
  generalize hs4 : ({ s3 with heap := pushCells (s3.heap.push { cls := .type "dict", data := .dict #[] }) scope.names } : Shared) = s4 at I4 ⊢
  have st4 : tn 0 s4.heap := T.keep _ _ _ st2 fun b _ o z => by
    rw [← hs4]
    exact pushCells_keeps _ _ _ _ (Heap.get?_push_of_some _ (by rw [h3]; exact Heap.get?_push_of_some _ z))
  have blk : ∀ {σ' : L2.St} {H' : Hp} {s' : Shared}, Inv (X.blk s3 H3 scope ce fp) [] σ' H' s' → (∀ b ∈ fp, H' b = none) → ∀ b ∈ fp, FpOk (X.blk s3 H3 scope ce fp) [] H' b := fun J' hn b hb =>
    ⟨hn b hb, (J'.ok.exf b hb).1, J'.ok.exfs b hb, .inl hb, fun x c z => (J'.ok.exf b hb).2 x c z, fun p hp => absurd (show p ∈ ([] : List (Addr × Obj)) ++ [] from hp) (by simp)⟩
  have loop : codeAny (model X.prog X.w) X.A (.compLoop (.DictComp kx vx [⟨tg, iter, ifs, 0⟩] scope pos) 0 (.ref it) (.ref D) ce) (compPost (model X.prog X.w) X.A X.xe used Qf (.ref D) s3.heap.objs.size) s4 := by
    refine compLoop_anyD (BetweenT (X.blk s3 H3 scope ce fp) fp tn (wipe σ (own.map (·.2))) W) ?_ m0 ⟨0, H3, I4, st4, fun b hb => (f3 b hb).1.1, w0⟩
    rintro n s5 ⟨i, H5, I5, st5, n5, w5⟩
    rcases turn i n H5 w5 with ⟨stop, qq⟩ | ⟨go, Nx, hNx, step⟩
    · refine thnF (T.done (X.blk s3 H3 scope ce fp) rfl rfl rfl hc i [] s5 _ H5 (fun _ _ => False) I5 (blk I5 n5) st5 stop) fun r s6 ⟨hr, I6⟩ => ?_
      subst hr
      have I7 : Inv X pins σ H5 s6 := I3.call' (ch := fp) I6.os I6.base I6.hok I6.bare fun b hb => ⟨(f3 b hb).1.2.2.2.1, (f3 b hb).1.2.1, (f3 b hb).1.2.2.2.2.1, (f3 b hb).1.2.2.2.2.2⟩
      have nC : H5 s3.heap.objs.size = none := by
        have z : H5 ce.locals = none := I6.free
        rwa [cL] at z
      obtain ⟨m, hn, _⟩ := I6.loc
      have hn : s6.heap.Ns ce.locals m := hn
      rw [cL] at hn
      exact fin D s3.heap.objs.size s6 m H5 I7 qq hn (I3.fpOk (Nat.le_refl _) nC)
    · refine thnF (T.item (X.blk s3 H3 scope ce fp) rfl rfl rfl hc i [] s5 _ H5 (fun _ _ => False) I5 (blk I5 n5) st5 go) fun r s6 ⟨u, hr, h6⟩ => ?_
      subst hr
      refine thnF h6 fun _ s7 ⟨x, H7, I7, r7, y7, st7, n7⟩ => ?_
      have I7' := I7.pinned (blk I7 n7) (T.obj _ _ st7)
      have main := dctt_turn (s := s7) (Z := X.blk s3 H3 scope ce fp) (vs := own.map (·.2)) (D := D) (Nx := Nx) (E' := notedBy (model X.prog X.w) X.A ce fun e s' => compPost (model X.prog X.w) X.A X.xe used Qf (.ref D) s3.heap.objs.size (.error e) s') (R := fun s' => ∃ m, m < n ∧ BetweenT (X.blk s3 H3 scope ce fp) fp tn (wipe σ (own.map (·.2))) W m s') rfl hu pg pts pk pv I7' r7 (step x H7 y7) fun σ8 H' s' hw I' nx => by
        obtain ⟨m', hm, w'⟩ := hNx H' nx
        have keep : ∀ b ∈ fp, ∀ o, s7.heap.get? b = some o → s'.heap.get? b = some o ∧ H' b = none := fun b hb o z =>
          let y := I'.pin (b, o) (List.mem_append_right _ (List.mem_append_right _ (mem_pinsAt hb z)))
          ⟨y.1, y.2.1⟩
        refine ⟨m', hm, i + 1, H', (I'.unpinned (pins := [])).weak (by rw [← hw, wipe_length]) (fun j v z => ?_), T.keep _ _ _ st7 fun b hb o z => (keep b hb o z).1, fun b hb => ?_, w'⟩
        · rw [← hw] at z
          exact (wipe_some z).1
        · obtain ⟨o, z, _⟩ := T.obj _ _ st7 b hb
          exact (keep b hb o z).2
      exact main
  exact codeAny_compStart_dict loop (T.self X.A 0 _ _ _ st4 loop)
/-- as a value -/
theorem pe_dcTt {kx vx tg iter : Expr} {ifs : List Expr} {scope : Scope} {own : List (Str × Nat)} {pos : Pos} {wi : TI} {g : TG} {tt : TT} {tk tv : TE} (hc : X.calm = true) (hu : X.A.units + 1 < cLine) (hN : X.N.Nodup) (hi : PI X tg iter wi) (ok : BlkOk X.N X.env.scope scope own)
    (hg : ∀ (s : Shared) (H : Hp) (C : Addr) (cl : List (Str × Addr)) (fp : List Addr), PG (X.blk s H scope (compEnvC scope cl C X.env) fp) tg g)
    (ht : ∀ (s : Shared) (H : Hp) (C : Addr) (cl : List (Str × Addr)) (fp : List Addr), PTs (X.blk s H scope (compEnvC scope cl C X.env) fp) ifs tt)
    (hk : ∀ (s : Shared) (H : Hp) (C : Addr) (cl : List (Str × Addr)) (fp : List Addr), PE (X.blk s H scope (compEnvC scope cl C X.env) fp) kx tk)
    (hv : ∀ (s : Shared) (H : Hp) (C : Addr) (cl : List (Str × Addr)) (fp : List Addr), PE (X.blk s H scope (compEnvC scope cl C X.env) fp) vx tv) (hs : ∀ x, foldedSetIterable iter X.env x = pure x := by intro _; rfl) :
    PE X (.DictComp kx vx [⟨tg, iter, ifs, 0⟩] scope pos) (tDcTt wi g tt tk tv (own.map (·.2))) := by
  refine ⟨fun pins s σ H Q I h => ?_⟩
  rw [arm_eval_DictComp]
  refine dcT_core hc hu hN I hi ok hg ht hk hv hs h fun D C s' m H' J q hn f => ?_
  obtain ⟨f0, f1, f2, f4, f5, f6⟩ := f
  exact ⟨m, hn, fun h'' sb => ⟨.ref D, H', J.turned (t' := s'.toks) (fun b o hb z => (sb.2 b hb).trans z) f0 f1 f4 f5 f6, rfl, q⟩⟩
theorem ps_setDcT {i : Nat} {y : Str} {py : Pos} {kx vx tg iter : Expr} {ifs : List Expr} {scope : Scope} {own : List (Str × Nat)} {pos spos : Pos} {wi : TI} {g : TG} {tt : TT} {tk tv : TE} (hc : X.calm = true) (hu : X.A.units + 1 < cLine) (hN : X.N.Nodup) (hy : X.N[i]? = some y) (hyl : X.env.scope.names.lookup y = some .local)
    (hsw : swapsWith (.DictComp kx vx [⟨tg, iter, ifs, 0⟩] scope pos) (some (.Name y py)) spos.line X.env = pure true) (hi : PI X tg iter wi) (ok : BlkOk X.N X.env.scope scope own)
    (hg : ∀ (s : Shared) (H : Hp) (C : Addr) (cl : List (Str × Addr)) (fp : List Addr), PG (X.blk s H scope (compEnvC scope cl C X.env) fp) tg g) (ht : ∀ (s : Shared) (H : Hp) (C : Addr) (cl : List (Str × Addr)) (fp : List Addr), PTs (X.blk s H scope (compEnvC scope cl C X.env) fp) ifs tt)
    (hk : ∀ (s : Shared) (H : Hp) (C : Addr) (cl : List (Str × Addr)) (fp : List Addr), PE (X.blk s H scope (compEnvC scope cl C X.env) fp) kx tk)
    (he : ∀ (s : Shared) (H : Hp) (C : Addr) (cl : List (Str × Addr)) (fp : List Addr), PE (X.blk s H scope (compEnvC scope cl C X.env) fp) vx tv) (hs : ∀ x, foldedSetIterable iter X.env x = pure x := by intro _; rfl) :
    PS X (.Assign [.Name y py] (.DictComp kx vx [⟨tg, iter, ifs, 0⟩] scope pos) spos) (tAsg (tDcTt wi g tt tk tv (own.map (·.2))) (gName i)) := by
  refine ⟨fun pins s σ H D I h => ?_⟩
  rw [exec_Assign_Name_used _ _ _ _ hsw]
  refine wpAny_bind (wpAny_standAt (wpAny_bind ?_))
  show wpAny _ X.A (do let _ ← comprehension (.DictComp kx vx [⟨tg, iter, ifs, 0⟩] scope pos) scope X.env (firstIterPos [⟨tg, iter, ifs, 0⟩] pos) newDict false (eval iter X.env) (some (assign (.Name y py) X.env))) _ _ s
  have h : tDcTt wi g tt tk tv (own.map (·.2)) σ H (fun x H1 => gName i x σ H1 D.nx) := h
  refine wpAny_bind (thn (dcT_core (Qf := fun _ s' => SP X pins D .next s') hc hu hN I hi ok hg ht hk he hs h fun L C s' m H' I' q hn f => ?_) fun _ s' hq => wpAny_pure (wpAny_pure hq))
  show wpAny _ _ (assign (.Name y py) X.env (.ref L)) _ _ _
  refine wpAny_assign_Name (store_ok2 (v := V.ref L) I' hN hy (.inl hyl) rfl (fun s2 I2 ⟨a, sb, ha⟩ => ?_) (.inr hyl))
  obtain ⟨f0, f1, f2, f3, f4, f5⟩ := f
  have haC : C ≠ a := by
    rcases ha with z | z
    · rw [z]; exact f1
    · exact fun e => f4 y a z e.symm
  refine ⟨m, hn.sameBut sb haC, fun h3 sb3 => ?_⟩
  exact ⟨_, H', I2.turned (t' := s2.toks) (fun b o hb e => (sb3.2 b hb).trans e) f0 f1 f3 f4 f5, q⟩
/-- walks, with tests -/
theorem dcTt_it {J : It} {n : Nat} {G : Hp → Prop} {Y : Nat → Hp → V → Hp → Prop} (w : Walk J n G Y) {g : TG} {tt : TT} {tk tv : TE} {vs : List Nat} {σ : L2.St} {H1 : Hp} {D : Addr} {Qd : Hp → Prop} (Pv : Nat → Hp → Prop) (h0 : Pv 0 (upd H1 D (.dT []))) (hG : ∀ i H, i ≤ n → Pv i H → G H)
    (hs : ∀ i x H H', i < n → Pv i H → Y i H x H' → g x (wipe σ vs) H' fun σ2 H2 => wipe σ2 vs = wipe σ vs ∧ tt σ2 H2 fun b H3 => if b = true then tk σ2 H3 fun y H4 => tv σ2 H4 fun z H5 => ∃ kvs k b, y = .ref b ∧ H5 b = some (.tup (k.map kV)) ∧ H5 D = some (.dT kvs) ∧ kvs.length < sizeLine ∧ Pv (i + 1) (upd H5 D (.dT (putK kvs k z))) else Pv (i + 1) H3)
    (hd : ∀ H, Pv n H → Qd H) : ∃ W : Nat → Nat → Hp → Prop, (∃ m, W 0 m (upd H1 D (.dT []))) ∧ ∀ i m H, W i m H →
      (J.stop i H ∧ Qd H) ∨ (J.go i H ∧ ∃ Nx : Hp → Prop, (∀ H', Nx H' → ∃ m', m' < m ∧ W (i + 1) m' H') ∧ ∀ x H', J.yld i H x H' → g x (wipe σ vs) H' fun σ2 H2 => wipe σ2 vs = wipe σ vs ∧ tt σ2 H2 fun b H3 =>
        if b = true then tk σ2 H3 fun y H4 => tv σ2 H4 fun z H5 => ∃ kvs k b, y = .ref b ∧ H5 b = some (.tup (k.map kV)) ∧ H5 D = some (.dT kvs) ∧ kvs.length < sizeLine ∧ Nx (upd H5 D (.dT (putK kvs k z))) else Nx H3) := by
  refine ⟨fun i m H => m = n - i ∧ i ≤ n ∧ Pv i H, ⟨n, rfl, Nat.zero_le _, h0⟩, fun i m H ⟨em, hi, p⟩ => ?_⟩
  by_cases hlt : i < n
  · refine .inr ⟨w.goes i H hlt (hG i H hi p), Pv (i + 1), fun H' p' => ⟨n - (i + 1), by omega, rfl, hlt, p'⟩, fun x H' y => ?_⟩
    exact hs i x H H' hlt p (w.yields i H x H' hlt (hG i H hi p) y)
  · obtain rfl : i = n := by omega
    exact .inl ⟨w.stops H (hG i H hi p), hd H p⟩
end
end Ka
/-! {k: v}, k a tuple of numbers and texts: one entry. -/
namespace Ka
open PySem PySem.Spec PyProof.Rows L2
/-- a display of one entry whose key is a tuple -/
def tDisp1T (tk tv : TE) : TE := fun σ H Q => ∀ p, H p = none → tk σ (upd H p (.dT [])) fun y H1 => tv σ H1 fun z H2 => ∃ (b : Addr) (k : List L2.Key), y = .ref b ∧ H2 b = some (.tup (k.map kV)) ∧ H2 p = some (.dT []) ∧ Q (.ref p) (upd H2 p (.dT [(k, z)]))
theorem pe_disp1T {X : Cx} {kx vx : Expr} {pos : Pos} {tk tv : TE} (hu : X.A.units + 1 < cLine) (hk : PE X kx tk) (hv : PE X vx tv) : PE X (.Dict [some kx] [vx] pos) (tDisp1T tk tv) := by
  refine ⟨fun pins s σ H Q I q => ?_⟩
  have hn := I.hok.fresh (Nat.le_refl s.heap.objs.size)
  have I1 := I.laid (a := s.heap.objs.size) (o := .dT []) (h' := s.heap.push { cls := .type "dict", data := .dict #[] }) (t' := s.toks) (fun _ _ q => Heap.get?_push_of_some _ q) (Nat.le_refl _) (dt_empty s.heap I.big)
  refine wpAny_Dict_any rfl rfl (fun z => by cases z) (show 1 ≤ 15 by decide) ?_
  refine pairTrees_cons_walk (thn (hk.run pins _ σ _ _ I1 (q _ hn)) fun u s1 ⟨y, H1, I1', ry, q1⟩ => thn (hv.run pins s1 σ H1 _ I1' q1) fun w2 s2 ⟨z, H2, I2, rz, b, k, ey, eb, ep, q2⟩ => pairTrees_nil_walk ?_)
  subst ey
  have e0 : ∀ (d : Addr) (vs : List (Value × Value)), storeAll d vs = forIn vs PUnit.unit fun (x : Value × Value) (_ : PUnit) => (do dictSet d x.1 x.2; pure (ForInStep.yield PUnit.unit) : Sem (ForInStep PUnit)) := fun _ _ => rfl
  rw [e0, List.forIn_cons]
  refine wpAny_bind (wpAny_bind (dT_set hu I2 ep (by rw [List.length_nil, sizeLine_eq]; decide) eb (show RelV (.ref b) u from ry) rz fun s' I' => wpAny_pure ?_))
  exact wpAny_pure ⟨.ref _, _, I', rfl, q2⟩
end Ka
/-! y = {k: v for ..} on one line. -/
namespace Ka
open PySem PySem.Spec PyProof.Rows L2
theorem sw_dc {kx vx : Expr} {gs : List Comprehension} {scope : Scope} {pos py : Pos} {y : Str} {l : Nat} {env : Env} (hk : env.scope.kind = .function) (hy : env.scope.names.lookup y = some .local) (hl : (py.line == pos.line) = true)
    (ha : (scope.names.any fun (n, k) => n == y && (k == .local || k == .cell)) = false) : swapsWith (.DictComp kx vx gs scope pos) (some (.Name y py)) l env = pure true := by
  have ky : env.kindOf y = some .local := hy
  have hb : env.blockKind = .function := by unfold Env.blockKind; rw [hk]; rfl
  unfold swapsWith
  simp only [hb, ky, ha, Expr.pos, hl]
  rfl
theorem ps_setDc {X : Cx} {i : Nat} {y : Str} {py : Pos} {kx vx tg iter : Expr} {ifs : List Expr} {scope : Scope} {own : List (Str × Nat)} {pos spos : Pos} {wi : TI} {g : TG} {tt : TT} {tk tv : TE} (hc : X.calm = true) (hN : X.N.Nodup) (hy : X.N[i]? = some y) (hyl : X.env.scope.names.lookup y = some .local)
    (hsw : swapsWith (.DictComp kx vx [⟨tg, iter, ifs, 0⟩] scope pos) (some (.Name y py)) spos.line X.env = pure true) (hi : PI X tg iter wi) (ok : BlkOk X.N X.env.scope scope own)
    (hg : ∀ (s : Shared) (H : Hp) (C : Addr) (cl : List (Str × Addr)) (fp : List Addr), PG (X.blk s H scope (compEnvC scope cl C X.env) fp) tg g) (ht : ∀ (s : Shared) (H : Hp) (C : Addr) (cl : List (Str × Addr)) (fp : List Addr), PTs (X.blk s H scope (compEnvC scope cl C X.env) fp) ifs tt)
    (hk : ∀ (s : Shared) (H : Hp) (C : Addr) (cl : List (Str × Addr)) (fp : List Addr), PE (X.blk s H scope (compEnvC scope cl C X.env) fp) kx tk)
    (he : ∀ (s : Shared) (H : Hp) (C : Addr) (cl : List (Str × Addr)) (fp : List Addr), PE (X.blk s H scope (compEnvC scope cl C X.env) fp) vx tv) (hs : ∀ x, foldedSetIterable iter X.env x = pure x := by intro _; rfl) :
    PS X (.Assign [.Name y py] (.DictComp kx vx [⟨tg, iter, ifs, 0⟩] scope pos) spos) (tAsg (tDc wi g tt tk tv (own.map (·.2))) (gName i)) := by
  refine ⟨fun pins s σ H D I h => ?_⟩
  rw [exec_Assign_Name_used _ _ _ _ hsw]
  refine wpAny_bind (wpAny_standAt (wpAny_bind ?_))
  show wpAny _ X.A (do let _ ← comprehension (.DictComp kx vx [⟨tg, iter, ifs, 0⟩] scope pos) scope X.env (firstIterPos [⟨tg, iter, ifs, 0⟩] pos) newDict false (eval iter X.env) (some (assign (.Name y py) X.env))) _ _ s
  have h : tDc wi g tt tk tv (own.map (·.2)) σ H (fun x H1 => gName i x σ H1 D.nx) := h
  refine wpAny_bind (thn (dc_core (Qf := fun _ s' => SP X pins D .next s') hc hN I hi ok hg ht hk he hs h fun L C s' m H' I' q hn f => ?_) fun _ s' hq => wpAny_pure (wpAny_pure hq))
  show wpAny _ _ (assign (.Name y py) X.env (.ref L)) _ _ _
  refine wpAny_assign_Name (store_ok2 (v := V.ref L) I' hN hy (.inl hyl) rfl (fun s2 I2 ⟨a, sb, ha⟩ => ?_) (.inr hyl))
  obtain ⟨f0, f1, f2, f3, f4, f5⟩ := f
  have haC : C ≠ a := by
    rcases ha with z | z
    · rw [z]; exact f1
    · exact fun e => f4 y a z e.symm
  refine ⟨m, hn.sameBut sb haC, fun h3 sb3 => ?_⟩
  exact ⟨_, H', I2.turned (t' := s2.toks) (fun b o hb e => (sb3.2 b hb).trans e) f0 f1 f3 f4 f5, q⟩
end Ka
namespace Kb
open PySem PySem.Spec PyProof.Rows L2
/-! ### steps_into: the lines that a stage is a part of -/
/-- an entry where it stands -/
structure EN where
  e : Addr
  u : Addr
  nm : Str
  s : Stp
  sa : Addr
  pa : Addr
def EnAt (H : Hp) (x : EN) : Prop := H x.e = some (.tup [.ref x.u, .ref x.sa, .ref x.pa]) ∧ H x.u = some (.tup (stV (x.nm, x.s.n))) ∧ H x.sa = some (.tup (stpV x.s)) ∧ PtsAt H x.pa (partsS x.nm x.s)
theorem EnAt.keep {H H' : Hp} {x : EN} (k : ∀ c xs, H c = some (.tup xs) → H' c = some (.tup xs)) (h : EnAt H x) : EnAt H' x := by
  obtain ⟨h1, h2, h3, L, h4, h5, h6⟩ := h
  exact ⟨k _ _ h1, k _ _ h2, k _ _ h3, L, k _ _ h4, h5, fun t ht => k _ _ (h6 t ht)⟩
theorem EnAt.mono {H H' : Hp} {x : EN} (s : Same H H') (h : EnAt H x) : EnAt H' x := h.keep fun _ _ e => s _ _ e
/-- tuples stay -/
def TS (H H' : Hp) : Prop := ∀ c xs, H c = some (.tup xs) → H' c = some (.tup xs)
theorem TS.refl {H : Hp} : TS H H := fun _ _ e => e
theorem TS.of {H H' : Hp} (s : Same H H') : TS H H' := fun _ _ e => s _ _ e
theorem TS.trans {H H' H'' : Hp} (a : TS H H') (b : TS H' H'') : TS H H'' := fun c xs e => b _ _ (a _ _ e)
abbrev ME := Stg × Addr × List EN
def trM (M : List ME) : List TR := M.map fun t => (stK t.1, t.2.1, t.2.2.map fun x => V.ref x.e)
def pushM (M : List ME) (k : Stg) (x : EN) : List ME := M.map fun t => if t.1 = k then (t.1, t.2.1, t.2.2 ++ [x]) else t
theorem trM_keys (M : List ME) : (trM M).map (·.1) = (M.map (·.1)).map stK := by
  unfold trM
  rw [List.map_map, List.map_map]
  rfl
theorem trM_push (M : List ME) (k : Stg) (x : EN) : trM (pushM M k x) = pushT (trM M) (stK k) (.ref x.e) := by
  unfold trM pushM pushT
  rw [List.map_map, List.map_map]
  refine List.map_congr_left fun t _ => ?_
  show _ = if stK t.1 = stK k then _ else _
  by_cases e : t.1 = k
  · rw [if_pos (by rw [e])]
    simp only [Function.comp_apply, if_pos e, List.map_append]
    rfl
  · rw [if_neg (fun z => e (stK_inj z))]
    simp only [Function.comp_apply, if_neg e]
theorem pushM_keys (M : List ME) (k : Stg) (x : EN) : (pushM M k x).map (·.1) = M.map (·.1) := by
  unfold pushM
  rw [List.map_map]
  refine List.map_congr_left fun t _ => ?_
  show (if t.1 = k then (t.1, t.2.1, t.2.2 ++ [x]) else t).1 = t.1
  split <;> rfl
/-- a line: the course's name and the step -/
abbrev LN := Str × Stp
def linesC (c : CA) : List LN := c.ss.map fun p => (c.nm, p.2)
def linesS (cs : List CA) : List LN := cs.flatMap linesC
theorem mem_linesS {cs : List CA} {l : LN} : l ∈ linesS cs ↔ ∃ c ∈ cs, ∃ p ∈ c.ss, l = (c.nm, p.2) := by
  unfold linesS linesC
  rw [List.mem_flatMap]
  exact ⟨fun ⟨c, h, h2⟩ => let ⟨p, hp, e⟩ := List.mem_map.mp h2; ⟨c, h, p, hp, e.symm⟩, fun ⟨c, h, p, hp, e⟩ => ⟨c, h, List.mem_map.mpr ⟨p, hp, e.symm⟩⟩⟩
/-- what the lists hold: only lines that have the stage as a part, and all that are done -/
structure Held (cs : List CA) (G : Hp) (done : LN → Stg → Prop) (M : List ME) : Prop where
  sound : ∀ t ∈ M, ∀ x ∈ t.2.2, EnAt G x ∧ (x.nm, x.s) ∈ linesS cs ∧ t.1 ∈ partsS x.nm x.s
  full : ∀ t ∈ M, ∀ l : LN, done l t.1 → ∃ x ∈ t.2.2, (x.nm, x.s) = l
theorem Held.keep {cs : List CA} {G G' : Hp} {done : LN → Stg → Prop} {M : List ME} (k : ∀ c xs, G c = some (.tup xs) → G' c = some (.tup xs)) (h : Held cs G done M) : Held cs G' done M :=
  ⟨fun t ht x hx => ⟨(h.sound t ht x hx).1.keep k, (h.sound t ht x hx).2⟩, h.full⟩
theorem Held.less {cs : List CA} {G : Hp} {done done' : LN → Stg → Prop} {M : List ME} (k : ∀ l, ∀ t ∈ M, done' l t.1 → done l t.1) (h : Held cs G done M) : Held cs G done' M :=
  ⟨h.sound, fun t ht l d => h.full t ht l (k l t ht d)⟩
theorem Held.push {cs : List CA} {G : Hp} {done done' : LN → Stg → Prop} {M : List ME} {k : Stg} {x : EN} (h : Held cs G done M) (hx : EnAt G x) (hl : (x.nm, x.s) ∈ linesS cs) (hk : k ∈ partsS x.nm x.s) (hd : ∀ l, ∀ t ∈ M, done' l t.1 → done l t.1 ∨ (t.1 = k ∧ l = (x.nm, x.s))) : Held cs G done' (pushM M k x) := by
  refine ⟨fun t ht y hy => ?_, fun t ht l d => ?_⟩
  · obtain ⟨t0, ht0, rfl⟩ := List.mem_map.mp ht
    by_cases e : t0.1 = k
    · rw [if_pos e] at hy ⊢
      rcases List.mem_append.mp hy with z | z
      · exact h.sound t0 ht0 y z
      · rw [List.mem_singleton.mp z]
        exact ⟨hx, hl, by show t0.1 ∈ _; rw [e]; exact hk⟩
    · rw [if_neg e] at hy ⊢
      exact h.sound t0 ht0 y hy
  · obtain ⟨t0, ht0, rfl⟩ := List.mem_map.mp ht
    by_cases e : t0.1 = k
    · rw [if_pos e] at d ⊢
      rcases hd l t0 ht0 d with z | z
      · obtain ⟨y, hy, e2⟩ := h.full t0 ht0 l z
        exact ⟨y, List.mem_append_left _ hy, e2⟩
      · exact ⟨x, List.mem_append_right _ List.mem_cons_self, z.2.symm⟩
    · rw [if_neg e] at d ⊢
      rcases hd l t0 ht0 d with z | z
      · exact h.full t0 ht0 l z
      · exact absurd z.1 e
/-- the table of a book's lines, by stages -/
def IntoAt (H : Hp) (q : Addr) (cs : List CA) : Prop := ∃ M : List ME, H q = some (.dT (kvT (trM M))) ∧ M.map (·.1) = stagesS cs ∧ (∀ t ∈ M, H t.2.1 = some (.lst (t.2.2.map fun x => V.ref x.e)) ∧ t.2.2.length ≤ 16000) ∧ Held cs H (fun l st => l ∈ linesS cs ∧ st ∈ partsS l.1 l.2) M
theorem IntoAt.mono {H H' : Hp} {q : Addr} {cs : List CA} (s : Same H H') (h : IntoAt H q cs) : IntoAt H' q cs := by
  obtain ⟨M, h1, h2, h3, h4⟩ := h
  exact ⟨M, s _ _ h1, h2, fun t ht => ⟨s _ _ (h3 t ht).1, (h3 t ht).2⟩, h4.keep fun _ _ e => s _ _ e⟩
/-- which lines are in, when i courses, of the next j steps, of the next m parts are done -/
def doneTo (cs : List CA) (i : Nat) (j m : Nat) (l : LN) (st : Stg) : Prop :=
  (l ∈ linesS (cs.take i) ∧ st ∈ partsS l.1 l.2) ∨ ∃ c, cs[i]? = some c ∧ ((∃ j' p, j' < j ∧ c.ss[j']? = some p ∧ l = (c.nm, p.2) ∧ st ∈ partsS l.1 l.2) ∨ ∃ p, c.ss[j]? = some p ∧ l = (c.nm, p.2) ∧ st ∈ (partsS l.1 l.2).take m)
theorem doneTo_part {cs : List CA} {i j m : Nat} {c : CA} {p : Addr × Stp} {k : Stg} (hc : cs[i]? = some c) (hp : c.ss[j]? = some p) (hk : (partsS c.nm p.2)[m]? = some k) (l : LN) (st : Stg) (h : doneTo cs i j (m + 1) l st) : doneTo cs i j m l st ∨ (st = k ∧ l = (c.nm, p.2)) := by
  rcases h with h | ⟨c', hc', h | ⟨p', hp', e, h⟩⟩
  · exact .inl (.inl h)
  · exact .inl (.inr ⟨c', hc', .inl h⟩)
  · rw [hc] at hc'
    cases hc'
    rw [hp] at hp'
    cases hp'
    have e1 : partsS l.1 l.2 = partsS c.nm p.2 := by rw [e]
    rw [e1, take_of_get hk] at h
    rcases List.mem_append.mp h with z | z
    · exact .inl (.inr ⟨c, hc, .inr ⟨p, hp, e, by rw [e1]; exact z⟩⟩)
    · exact .inr ⟨List.mem_singleton.mp z, e⟩
theorem doneTo_step {cs : List CA} {i j m : Nat} {c : CA} {p : Addr × Stp} (hc : cs[i]? = some c) (hp : c.ss[j]? = some p) (hm : m = (partsS c.nm p.2).length) (l : LN) (st : Stg) (h : doneTo cs i (j + 1) 0 l st) : doneTo cs i j m l st := by
  rcases h with h | ⟨c', hc', ⟨j', p', hj, hp', e, h⟩ | ⟨p', hp', e, h⟩⟩
  · exact .inl h
  · rw [hc] at hc'
    cases hc'
    by_cases w : j' < j
    · exact .inr ⟨c, hc, .inl ⟨j', p', w, hp', e, h⟩⟩
    · obtain rfl : j' = j := by omega
      rw [hp] at hp'
      cases hp'
      refine .inr ⟨c, hc, .inr ⟨p, hp, e, ?_⟩⟩
      have e1 : partsS l.1 l.2 = partsS c.nm p.2 := by rw [e]
      rw [e1, hm, List.take_length]
      rw [e1] at h
      exact h
  · rw [List.take_zero] at h
    exact nomatch h
theorem doneTo_course {cs : List CA} {i : Nat} {c : CA} (hc : cs[i]? = some c) (l : LN) (st : Stg) (h : doneTo cs (i + 1) 0 0 l st) : doneTo cs i c.ss.length 0 l st := by
  rcases h with ⟨h, h2⟩ | ⟨c', hc', ⟨j', p', hj, hp', e, h⟩ | ⟨p', hp', e, h⟩⟩
  · rw [take_of_get hc] at h
    unfold linesS at h
    rw [List.flatMap_append] at h
    rcases List.mem_append.mp h with z | z
    · exact .inl ⟨z, h2⟩
    · have z : l ∈ linesC c := by simpa using z
      obtain ⟨p, hp, e⟩ := List.mem_map.mp z
      obtain ⟨j, hj⟩ := List.getElem?_of_mem hp
      exact .inr ⟨c, hc, .inl ⟨j, p, lt_of_get hj, hj, e.symm, h2⟩⟩
  · exact absurd hj (Nat.not_lt_zero _)
  · rw [List.take_zero] at h
    exact nomatch h
theorem doneTo_all {cs : List CA} (l : LN) (st : Stg) (h : l ∈ linesS cs ∧ st ∈ partsS l.1 l.2) : doneTo cs cs.length 0 0 l st := .inl (by rw [List.take_length]; exact h)
section
variable {P : Program} {w : World} {K : PySem.W.Frag} {mg : Str → Option Value} {base : Heap}
def spInto (K : PySem.W.Frag) (C : Addr) : Sp := fun vs H Q _ => ∃ (p a : Addr) (cs : List CA), vs = [.ref p] ∧ BookAt K C H p a cs ∧ ∀ H' q, Same H H' → H q = none → IntoAt H' q cs → Q (.ref q) H'
abbrev nSi : List Str := ["book", "found", "course", "step", "parts", "part", "stage"]
theorem scSi : FnScope nSi ["book"] (defScope sStepsInto) := ⟨rfl, rfl, rfl, by decide +kernel, rfl, by decide +kernel, by decide +kernel⟩
theorem ok_into {f C fT fN fS fP : Addr} {fd fdT fdN fdS fdP : FuncData} (F : Fun K "steps_into" "steps_into" sStepsInto f fd) (B : BkC K mg C) (GM_stages : FnOk P w K mg base CX0 1 fT fdT ["self"] (spBkStages K C)) (bM_stages : Binds K fdT ["self"] []) (m_stages : Meth K C "stages" fT) (GM_names : FnOk P w K mg base CX0 1 fN fdN ["self"] (spBkNames K C)) (bM_names : Binds K fdN ["self"] []) (m_names : Meth K C "names" fN)
    (GM_steps : FnOk P w K mg base CX0 1 fS fdS ["self", "course"] (spBkSteps K C)) (bM_steps : Binds K fdS ["self", "course"] []) (m_steps : Meth K C "steps" fS) (G_parts_of : FnOk P w K mg base CX0 1 fP fdP ["course", "step"] spPartsOf) (C_parts_of : CallC K mg "parts_of" ["course", "step"] fP fdP) : FnOk P w K mg base CX0 2 f fd ["book"] (spInto K C) := by
  refine F.ok scSi (fun vs H Q E h => ?_) (fun cdv A outer s H vs Q E hr h => ?_)
  · obtain ⟨p, a, cs, rfl, _⟩ := h
    rfl
  · obtain ⟨p, a, cs, rfl, hB, q⟩ := h
    refine ⟨_, pss_cons (Ka.ps_setDcT (i := 1) (own := [("stage", 6)]) (g := gName 6) (tt := tYes) rfl (hu_of hr) scSi.nd rfl rfl (Ka.sw_dc rfl rfl rfl rfl) (pi_tup (pe_meth0 (pv 0) B.cl m_stages GM_stages (hr.mono (by decide)) bM_stages .nil pass0)) (blkOk_by (own := [("stage", 6)]) (N := nSi) (sc := defScope sStepsInto) (by decide +kernel)) (fun _ _ _ _ _ => (pg_name (i := 6) scSi.nd rfl (Or.inl rfl))) (fun _ _ _ _ _ => pts_nil) (fun _ _ _ _ _ => (pv 6)) (fun _ _ _ _ _ => (pe_lst pa_nil)))
      (pss_cons (ps_for PassesOwn.never rfl (pi_tup (pe_meth0 (pv 0) B.cl m_names GM_names (hr.mono (by decide)) bM_names .nil pass0)) (pg_name (i := 2) scSi.nd rfl (Or.inl rfl))
        (pss_one (ps_for PassesOwn.never rfl (pi_tup (pe_meth (pv 0) B.cl m_steps GM_steps (hr.mono (by decide)) bM_steps .nil pass0 (pa_cons (pv 2) pa_nil))) (pg_name (i := 3) scSi.nd rfl (Or.inl rfl))
          (pss_cons (ps_set (i := 4) scSi.nd rfl (Or.inl rfl) (pe_call G_parts_of (hr.mono (by decide)) (by rfl) C_parts_of.g C_parts_of.kp C_parts_of.b .nil pass0 (pa_cons (pv 2) (pa_cons (pv 3) pa_nil))))
          (pss_one (ps_for PassesOwn.never rfl (pi_tup (pv 4)) (pg_name (i := 5) scSi.nd rfl (Or.inl rfl))
            (pss_one (ps_expr (pe_bm PySem.F.plainAttrs_list PySem.F.slot_list_append PySem.F.type_list_append mt_append (pe_dget (hu_of hr) (pv 1) (pv 5) (fun _ _ => rfl)) (pa_cons (pe_tup (pa_cons (pe_tup (pa_cons (pv 2) (pa_cons (pe_ix ix_tup (pv 3) pe_int (fun _ _ => rfl)) pa_nil))) (pa_cons (pv 3) (pa_cons (pv 4) pa_nil)))) pa_nil))))))))))
      (pss_one (ps_ret (pv 1)))), ?_⟩
    obtain ⟨dx, fs, P1, S1, E1, L1, S, hp, L, hC, ok, _⟩ := id hB
    have st60 := ok.st
    have n8 := ok.n8
    have sN := stagesS_nd ok.nd
    have sL := stagesS_len cs
    refine ⟨_, rfl, p, dx, fs, rfl, hp, L.no _ (by decide +kernel), p, a, cs, rfl, hB, fun q1 hq1 => ?_⟩
    obtain ⟨SL, e1, e2, e3⟩ := hq1
    have lSL : SL.length ≤ 60 := by
      have := congrArg List.length e2
      rw [List.length_map] at this
      omega
    refine ⟨q1, rfl, ⟨_, sqT_new e1⟩, fun D nD => ?_⟩
    refine Ka.dcTt_it (walk_tup (K := K) (a := q1) (xs := SL.map fun t => V.ref t.1)) (fun i G => ∃ M : List ME, Same H G ∧ G D = some (.dT (kvT (trM M))) ∧ M.map (·.1) = (stagesS cs).take i ∧ LsAt H G D 0 (trM M) ∧ ∀ t ∈ M, t.2.2 = []) ⟨[], same_new nD, upd_same, rfl, ⟨(fun t ht => nomatch ht), List.nodup_nil⟩, fun t ht => nomatch ht⟩ (fun _ _ _ h => sqT_new (h.choose_spec.1 _ _ e1)) (fun i x G G' hi h y => ?_) (fun G h => ?_)
    · obtain ⟨rfl, hx⟩ := y
      obtain ⟨t0, ht0, rfl⟩ := get_map hx
      obtain ⟨M, sG, eG, kM, lM, z0⟩ := h
      refine ⟨rfl, _, rfl, smallE (by show 0 ≤ 1000000; decide), fun l nl => ?_⟩
      have hst : (stagesS cs)[i]? = some t0.2 := by rw [← e2, List.getElem?_map, ht0]; rfl
      have sl := same_new (o := .lst []) nl
      have el : upd G' l (.lst []) l = some (.lst []) := upd_same
      have nT : ∀ t ∈ trM M, t.2.1 ≠ l := fun t ht => ne_of_none (lM.st t ht).1 nl
      have lM := lM.mono fun t _ o e => sl _ _ e
      have lD : l ≠ D := fun z => by
        rw [z, eG] at nl
        cases nl
      have nlH := sG.free nl
      have eG := sl _ _ eG
      have sG := sG.trans sl
      generalize upd G' l (.lst []) = G5 at sl el lM eG sG
      have len : (kvT (trM M)).length ≤ 60 := by
        have h1 : (kvT (trM M)).length = (M.map (·.1)).length := by unfold kvT trM; rw [List.length_map, List.length_map, List.length_map]
        rw [h1, kM, List.length_take]
        omega
      refine ⟨kvT (trM M), stK t0.2, t0.1, rfl, sG _ _ (e3 t0 (List.mem_of_getElem? ht0)), eG, small (by omega), M ++ [(t0.2, l, [])], fun b o e => ?_, ?_, ?_, ?_, fun t ht => ?_⟩
      · rw [upd_ne (ne_of_none e nD)]
        exact sG _ _ e
      · rw [upd_same, putK_new]
        · unfold kvT trM
          rw [List.map_append, List.map_append]
          rfl
        · rw [kvT_keys, trM_keys, kM]
          intro z
          obtain ⟨y, hy, e⟩ := List.mem_map.mp z
          have := stK_inj e
          subst this
          have nd2 := sN
          rw [← List.take_append_drop i (stagesS cs), drop_of_get hst, List.nodup_append] at nd2
          exact nd2.2.2 _ hy _ List.mem_cons_self rfl
      · rw [List.map_append, kM, take_of_get hst]
        rfl
      · have e5 : trM (M ++ [(t0.2, l, [])]) = trM M ++ [(stK t0.2, l, [])] := by unfold trM; rw [List.map_append]; rfl
        rw [e5]
        refine (lM.snoc el nlH lD nT).mono fun t ht o e => ?_
        rw [upd_ne]
        · exact e
        · rcases List.mem_append.mp ht with z | z
          · exact (lM.st t z).2.2.1
          · rw [List.mem_singleton.mp z]
            exact lD
      · rcases List.mem_append.mp ht with z | z
        · exact z0 t z
        · rw [List.mem_singleton.mp z]
    · obtain ⟨M, sG, eG, kM, lM, z0⟩ := h
      have lS2 : SL.length = (stagesS cs).length := by rw [← e2, List.length_map]
      rw [List.length_map, lS2, List.take_length] at kM
      refine ⟨_, rfl, p, dx, fs, rfl, sG _ _ hp, L.no _ (by decide +kernel), p, a, cs, rfl, hB.mono sG, fun H2 qn s2 nqn eqn => ?_⟩
      have sG2 := sG.trans s2
      have lM := lM.mono fun t _ o e => s2 _ _ e
      have eG := s2 _ _ eG
      refine ⟨qn, rfl, ⟨_, sqT_new eqn⟩, ?_⟩
      have kndM : ∀ {M : List ME}, M.map (·.1) = stagesS cs → ((trM M).map (·.1)).Nodup := fun {M} e => by
        rw [trM_keys, e]
        exact stK_nd sN
      refine for_it (walk_tup (K := K) (a := qn) (xs := cs.map fun c => V.str c.nm)) (fun i σ Z => ∃ (x2 x3 x4 x5 x6 : Option V) (M : List ME), σ = [some (.ref p), some (.ref D), x2, x3, x4, x5, x6] ∧ Same H Z ∧ TS H2 Z ∧ Z D = some (.dT (kvT (trM M))) ∧ M.map (·.1) = stagesS cs ∧ LsAt H Z D (2000 * i) (trM M) ∧ Held cs Z (doneTo cs i 0 0) M) ⟨none, none, none, none, none, M, rfl, sG2, TS.refl, eG, kM, lM, ⟨fun t ht x hx => (by rw [z0 t ht] at hx; exact nomatch hx), fun t ht l d => ?_⟩⟩ (fun i σ Z _ h => ?_) (fun i x σ Z Z' hi h y => ?_) (fun σ Z h => ?_)
      · rcases d with ⟨d, _⟩ | ⟨c, _, ⟨j', _, hj, _⟩ | ⟨_, _, _, d⟩⟩
        · unfold linesS at d
          rw [List.take_zero] at d
          exact nomatch d
        · exact absurd hj (Nat.not_lt_zero _)
        · rw [List.take_zero] at d
          exact nomatch d
      · obtain ⟨_, _, _, _, _, _, _, _, tZ, _⟩ := h
        exact sqT_new (tZ _ _ eqn)
      · obtain ⟨rfl, hx⟩ := y
        obtain ⟨c, hc, rfl⟩ := get_map hx
        obtain ⟨x2, x3, x4, x5, x6, M, rfl, sZ, t2Z, eZ, kM, lM, hM⟩ := h
        have mc := List.mem_of_getElem? hc
        have okc := ok.ok c mc
        have osz := okc.sz
        have hi8 := lt_of_get hc
        have sHZ := sZ
        have mcZ := (hC.2 c mc).mono sHZ
        refine ⟨_, rfl, p, dx, fs, rfl, sHZ _ _ hp, L.no _ (by decide +kernel), _, rfl, p, a, cs, c, rfl, hB.mono sHZ, mc, ?_⟩
        refine ⟨c.sa, rfl, ⟨_, mcZ.s⟩, ?_⟩
        refine for_it (walk_tup (K := K) (a := c.sa) (xs := c.ss.map fun p => V.ref p.1)) (fun j σ Y => ∃ (x3 x4 x5 x6 : Option V) (M : List ME), σ = [some (.ref p), some (.ref D), some (.str c.nm), x3, x4, x5, x6] ∧ Same H Y ∧ TS H2 Y ∧ Y D = some (.dT (kvT (trM M))) ∧ M.map (·.1) = stagesS cs ∧ LsAt H Y D (2000 * i + 2 * j) (trM M) ∧ Held cs Y (doneTo cs i j 0) M) ⟨x3, x4, x5, x6, M, rfl, sZ, t2Z, eZ, kM, lM, hM⟩ (fun j σ Y _ h => ?_) (fun j x σ Y Y' hj h y => ?_) (fun σ Y h => ?_)
        · obtain ⟨_, _, _, _, _, _, sY, _⟩ := h
          exact Same.sqT sY (hC.2 c mc).s
        · obtain ⟨rfl, hx⟩ := y
          obtain ⟨sp, hsp, rfl⟩ := get_map hx
          obtain ⟨x3, x4, x5, x6, M, rfl, sY, t2Y, eY, kM, lM, hM⟩ := h
          have msp := List.mem_of_getElem? hsp
          have sHY := sY
          have mcY := (hC.2 c mc).mono sHY
          have hjl := lt_of_get hsp
          refine ⟨_, rfl, _, rfl, sp.1, c.nm, sp.2, rfl, mcY.p sp msp, fun Y1 qp s1 nqp hpp => ?_⟩
          obtain ⟨PL, p1, p2, p3⟩ := id hpp
          have lPL : PL.length ≤ 2 := by
            have := congrArg List.length p2
            rw [List.length_map] at this
            have := partsS_len c.nm sp.2
            omega
          have eY := s1 _ _ eY
          have lM := lM.mono fun t _ o e => s1 _ _ e
          have hM := hM.keep fun _ _ e => s1 _ _ e
          have sY := sY.trans s1
          have t2Y := t2Y.trans (TS.of s1)
          refine ⟨_, rfl, qp, rfl, ⟨_, sqT_new p1⟩, ?_⟩
          refine for_it (walk_tup (K := K) (a := qp) (xs := PL.map fun t => V.ref t.1)) (fun m σ X => ∃ (x5 x6 : Option V) (M : List ME), σ = [some (.ref p), some (.ref D), some (.str c.nm), some (.ref sp.1), some (.ref qp), x5, x6] ∧ Same H X ∧ TS H2 X ∧ TS Y1 X ∧ X D = some (.dT (kvT (trM M))) ∧ M.map (·.1) = stagesS cs ∧ LsAt H X D (2000 * i + 2 * j + m) (trM M) ∧ Held cs X (doneTo cs i j m) M) ⟨x5, x6, M, rfl, sY, t2Y, TS.refl, eY, kM, lM, hM⟩ (fun m σ X _ h => ?_) (fun m x σ X X' hm h y => ?_) (fun σ X h => ?_)
          · obtain ⟨_, _, _, _, _, _, tX, _⟩ := h
            exact sqT_new (tX _ _ p1)
          · obtain ⟨rfl, hx⟩ := y
            obtain ⟨pt, hpt, rfl⟩ := get_map hx
            obtain ⟨x5, x6, M, rfl, sX, t2X, tX, eX, kM, lM, hM⟩ := h
            have mpt := List.mem_of_getElem? hpt
            have hml := lt_of_get hpt
            have hk : (partsS c.nm sp.2)[m]? = some pt.2 := by rw [← p2, List.getElem?_map, hpt]; rfl
            have mst : pt.2 ∈ stagesS cs := parts_stage ok mc msp (List.mem_of_getElem? hk)
            rw [← kM] at mst
            obtain ⟨t, ht, et⟩ := List.mem_map.mp mst
            have kn := kndM kM
            have htr : (stK t.1, t.2.1, t.2.2.map fun x => V.ref x.e) ∈ trM M := List.mem_map.mpr ⟨t, ht, rfl⟩
            have hv : valV (kvT (trM M)) (stK pt.2) = some (.ref t.2.1) := valV_mem (by rw [kvT_keys]; exact kn) (List.mem_map.mpr ⟨_, htr, by rw [et]⟩)
            obtain ⟨a1, a2, a3, a4⟩ := lM.st _ htr
            have eS := tX _ _ (s1 _ _ (mcY.p sp msp))
            have ePt : X' pt.1 = some (.tup ((stK pt.2).map kV)) := tX _ _ (p3 pt mpt)
            refine ⟨_, rfl, _, rfl, D, .ref t.2.1, rfl, (hv ▸ DGet.t eX ePt), .inl ⟨rfl, _, sqL_new a1⟩, _, rfl, _, rfl, sp.1, _, _, .int (sp.2.n : Nat), rfl, rfl, sqT_new eS, rfl, smallE (by show 2 ≤ 1000000; decide), fun u nu => ⟨_, rfl, _, rfl, smallE (by show 3 ≤ 1000000; decide), fun e ne => ?_⟩⟩
            have su := same_new (o := .tup [V.str c.nm, V.int (sp.2.n : Nat)]) nu
            have eu : upd X' u (.tup [V.str c.nm, V.int (sp.2.n : Nat)]) u = some (.tup (stV (c.nm, sp.2.n))) := upd_same
            have lM := lM.mono fun t _ o e => su _ _ e
            have a1 := su _ _ a1
            have eX := su _ _ eX
            have hM := hM.keep fun _ _ e => su _ _ e
            have tX := tX.trans (TS.of su)
            have t2X := t2X.trans (TS.of su)
            have eS := su _ _ eS
            have sX := sX.trans su
            generalize upd X' u (.tup [V.str c.nm, V.int (sp.2.n : Nat)]) = X1 at su eu lM a1 eX hM tX t2X sX ne eS
            have se := same_new (o := .tup [V.ref u, V.ref sp.1, V.ref qp]) ne
            have ee : upd X1 e (.tup [V.ref u, V.ref sp.1, V.ref qp]) e = some (.tup [V.ref u, V.ref sp.1, V.ref qp]) := upd_same
            have lM := lM.mono fun t _ o e => se _ _ e
            have a1 := se _ _ a1
            have eX := se _ _ eX
            have hM := hM.keep fun _ _ e => se _ _ e
            have tX := tX.trans (TS.of se)
            have t2X := t2X.trans (TS.of se)
            have eS := se _ _ eS
            have eu := se _ _ eu
            have sX := sX.trans se
            generalize upd X1 e (.tup [V.ref u, V.ref sp.1, V.ref qp]) = X2 at se ee lM a1 eX hM tX t2X sX eS eu
            refine ⟨t.2.1, _, _, rfl, rfl, a1, by rw [List.length_map]; exact small (by rw [List.length_map] at a4; omega), ?_⟩
            have tK : ∀ {c : Addr} {xs : List V}, X2 c = some (.tup xs) → upd X2 t.2.1 (.lst ((t.2.2.map fun x => V.ref x.e) ++ [.ref e])) c = some (.tup xs) := fun {c xs} z => by
              rw [upd_ne]
              · exact z
              · intro w
                rw [w, a1] at z
                cases z
            have hx : EnAt X2 ⟨e, u, c.nm, sp.2, sp.1, qp⟩ := ⟨ee, eu, eS, PL, tX _ _ p1, p2, fun t ht => tX _ _ (p3 t ht)⟩
            refine ⟨some (.ref pt.1), x6, pushM M pt.2 ⟨e, u, c.nm, sp.2, sp.1, qp⟩, rfl, fun b o z => ?_, (fun c xs z => tK (t2X c xs z)), (fun c xs z => tK (tX c xs z)), ?_, by rw [pushM_keys]; exact kM, ?_, ?_⟩
            · rw [upd_ne (ne_of_none z a2)]
              exact sX _ _ z
            · rw [upd_ne a3.symm, trM_push, pushT_kv]
              exact eX
            · rw [trM_push, ← et]
              exact lM.push kn htr
            · exact (hM.push hx (mem_linesS.mpr ⟨c, mc, sp, msp, rfl⟩) (List.mem_of_getElem? hk) fun l t _ d => doneTo_part hc hsp hk l t.1 d).keep fun c xs z => tK z
          · obtain ⟨x5, x6, M, rfl, sX, t2X, tX, eX, kM, lM, hM⟩ := h
            rw [List.length_map] at lM hM
            exact ⟨_, _, _, _, M, rfl, sX, t2X, eX, kM, lM.le (by omega), hM.less fun l t _ d => doneTo_step hc hsp (by rw [← p2, List.length_map]) l t.1 d⟩
        · obtain ⟨x3, x4, x5, x6, M, rfl, sY, t2Y, eY, kM, lM, hM⟩ := h
          rw [List.length_map] at lM hM
          exact ⟨_, _, _, _, _, M, rfl, sY, t2Y, eY, kM, lM.le (by omega), hM.less fun l t _ d => doneTo_course hc l t.1 d⟩
      · obtain ⟨x2, x3, x4, x5, x6, M, rfl, sZ, t2Z, eZ, kM, lM, hM⟩ := h
        rw [List.length_map] at lM hM
        refine ⟨_, rfl, q Z D sZ nD ⟨M, eZ, kM, fun t ht => ?_, hM.less fun l t _ d => doneTo_all l t.1 d⟩⟩
        have htr : (stK t.1, t.2.1, t.2.2.map fun x => V.ref x.e) ∈ trM M := List.mem_map.mpr ⟨t, ht, rfl⟩
        obtain ⟨a1, a2, a3, a4⟩ := lM.st _ htr
        rw [List.length_map] at a4
        exact ⟨a1, by omega⟩
end
end Kb
namespace Kb
open PySem PySem.Spec PyProof.Rows L2
/-! ### the law's own lines: _law_leaving, _law_ends -/
structure EL where
  e : Addr
  m : Addr
  pa : Addr
  k : Nat
  s : Stp
def labV (s : Stp) : V := if s.call = true then .non else .str s.nm
def ELAt (H : Hp) (nm : Str) (x : EL) : Prop := H x.e = some (.tup [.ref x.m, .ref x.pa, labV x.s]) ∧ H x.m = some (.tup [.str (kindS x.s.call), .int (x.k : Int)]) ∧ PtsAt H x.pa (partsS nm x.s)
theorem ELAt.ts {H H' : Hp} {nm : Str} {x : EL} (k : TS H H') (h : ELAt H nm x) : ELAt H' nm x := by
  obtain ⟨h1, h2, L, h4, h5, h6⟩ := h
  exact ⟨k _ _ h1, k _ _ h2, L, k _ _ h4, h5, fun t ht => k _ _ (h6 t ht)⟩
abbrev ML := Stg × Addr × List EL
def trL (M : List ML) : List TR := M.map fun t => (stK t.1, t.2.1, t.2.2.map fun x => V.ref x.e)
theorem trL_keys (M : List ML) : (trL M).map (·.1) = (M.map (·.1)).map stK := by
  unfold trL
  rw [List.map_map, List.map_map]
  rfl
def pushL (M : List ML) (k : Stg) (x : EL) : List ML := M.map fun t => if t.1 = k then (t.1, t.2.1, t.2.2 ++ [x]) else t
theorem trL_push (M : List ML) (k : Stg) (x : EL) : trL (pushL M k x) = pushT (trL M) (stK k) (.ref x.e) := by
  unfold trL pushL pushT
  rw [List.map_map, List.map_map]
  refine List.map_congr_left fun t _ => ?_
  show _ = if stK t.1 = stK k then _ else _
  by_cases e : t.1 = k
  · rw [if_pos (by rw [e])]
    simp only [Function.comp_apply, if_pos e, List.map_append]
    rfl
  · rw [if_neg (fun z => e (stK_inj z))]
    simp only [Function.comp_apply, if_neg e]
theorem pushL_keys (M : List ML) (k : Stg) (x : EL) : (pushL M k x).map (·.1) = M.map (·.1) := by
  unfold pushL
  rw [List.map_map]
  refine List.map_congr_left fun t _ => ?_
  show (if t.1 = k then (t.1, t.2.1, t.2.2 ++ [x]) else t).1 = t.1
  split <;> rfl
/-- the first m steps that leave the stage j, with their places -/
def leavTo (ss : List (Addr × Stp)) : Nat → Nat → List (Nat × Stp)
  | 0, _ => []
  | m + 1, j => leavTo ss m j ++ (match ss[m]? with
    | some p => if p.2.n = j then [(m, p.2)] else []
    | none => [])
theorem leavTo_succ {ss : List (Addr × Stp)} {m : Nat} {p : Addr × Stp} (h : ss[m]? = some p) (j : Nat) : leavTo ss (m + 1) j = leavTo ss m j ++ (if p.2.n = j then [(m, p.2)] else []) := by
  rw [leavTo, h]
def ksL (t : ML) : List (Nat × Stp) := t.2.2.map fun x => (x.k, x.s)
structure HeldL (cs : List CA) (G : Hp) (i m : Nat) (M : List ML) : Prop where
  sound : ∀ t ∈ M, ∀ x ∈ t.2.2, ELAt G t.1.1 x
  full : ∀ t ∈ M, ∀ (ci : Nat) (c : CA), cs[ci]? = some c → t.1.1 = c.nm → ksL t = leavTo c.ss (if ci < i then c.ss.length else if ci = i then m else 0) t.1.2
theorem HeldL.ts {cs : List CA} {G G' : Hp} {i m : Nat} {M : List ML} (k : TS G G') (h : HeldL cs G i m M) : HeldL cs G' i m M := ⟨fun t ht x hx => (h.sound t ht x hx).ts k, h.full⟩
theorem HeldL.next {cs : List CA} {G : Hp} {i : Nat} {c : CA} {M : List ML} (hc : cs[i]? = some c) (h : HeldL cs G i c.ss.length M) : HeldL cs G (i + 1) 0 M := ⟨h.sound, fun t ht ci c' hci e => by
  rw [h.full t ht ci c' hci e]
  by_cases h1 : ci < i
  · rw [if_pos h1, if_pos (by omega)]
  · rw [if_neg h1]
    by_cases h2 : ci = i
    · subst h2
      rw [hc] at hci
      cases hci
      rw [if_pos rfl, if_pos (by omega)]
    · rw [if_neg h2, if_neg (by omega)]
      by_cases h3 : ci = i + 1
      · rw [if_pos h3]
      · rw [if_neg h3]⟩
theorem HeldL.snoc {cs : List CA} (nd : (cs.map (·.nm)).Nodup) {G : Hp} {i : Nat} {c : CA} {M : List ML} (hc : cs[i]? = some c) (h : HeldL cs G i 0 M) (j : Nat) (l : Addr) : HeldL cs G i 0 (M ++ [((c.nm, j), l, [])]) := by
  refine ⟨fun t ht x hx => ?_, fun t ht ci c' hci e => ?_⟩
  · rcases List.mem_append.mp ht with z | z
    · exact h.sound t z x hx
    · rw [List.mem_singleton.mp z] at hx
      exact nomatch hx
  · rcases List.mem_append.mp ht with z | z
    · exact h.full t z ci c' hci e
    · rw [List.mem_singleton.mp z] at e ⊢
      have e1 : (cs.map (·.nm))[ci]? = some c.nm := by rw [List.getElem?_map, hci]; show some c'.nm = _; rw [← e]
      have e2 : (cs.map (·.nm))[i]? = some c.nm := by rw [List.getElem?_map, hc]; rfl
      have : ci = i := (List.getElem?_inj (lt_of_get e1) nd).mp (e1.trans e2.symm)
      rw [this, if_neg (Nat.lt_irrefl _), if_pos rfl]
      rfl
theorem HeldL.push {cs : List CA} (nd : (cs.map (·.nm)).Nodup) {G : Hp} {i m : Nat} {c : CA} {p : Addr × Stp} {M : List ML} {x : EL} (hc : cs[i]? = some c) (hp : c.ss[m]? = some p) (h : HeldL cs G i m M) (hx : ELAt G c.nm x) (xk : x.k = m) (xs : x.s = p.2) : HeldL cs G i (m + 1) (pushL M (c.nm, p.2.n) x) := by
  have same : ∀ {ci c'}, cs[ci]? = some c' → c'.nm = c.nm → ci = i := fun {ci c'} hci en => by
    have e1 : (cs.map (·.nm))[ci]? = some c.nm := by rw [List.getElem?_map, hci, ← en]; rfl
    have e2 : (cs.map (·.nm))[i]? = some c.nm := by rw [List.getElem?_map, hc]; rfl
    exact (List.getElem?_inj (lt_of_get e1) nd).mp (e1.trans e2.symm)
  refine ⟨fun t ht y hy => ?_, fun t ht ci c' hci e => ?_⟩
  · obtain ⟨t0, ht0, rfl⟩ := List.mem_map.mp ht
    by_cases w : t0.1 = (c.nm, p.2.n)
    · rw [if_pos w] at hy ⊢
      rcases List.mem_append.mp hy with z | z
      · exact h.sound t0 ht0 y z
      · rw [List.mem_singleton.mp z]
        show ELAt G t0.1.1 x
        rw [w]
        exact hx
    · rw [if_neg w] at hy ⊢
      exact h.sound t0 ht0 y hy
  · obtain ⟨t0, ht0, rfl⟩ := List.mem_map.mp ht
    by_cases w : t0.1 = (c.nm, p.2.n)
    · rw [if_pos w] at e ⊢
      have e : t0.1.1 = c'.nm := e
      rw [w] at e
      obtain rfl := same hci e.symm
      rw [hc] at hci
      cases hci
      have h0 := h.full t0 ht0 ci c hc (by rw [w])
      rw [if_neg (Nat.lt_irrefl _), if_pos rfl] at h0 ⊢
      show (t0.2.2 ++ [x]).map (fun x => (x.k, x.s)) = leavTo c.ss (m + 1) t0.1.2
      have h0 : t0.2.2.map (fun x => (x.k, x.s)) = leavTo c.ss m t0.1.2 := h0
      rw [List.map_append, h0, leavTo_succ hp, w, if_pos rfl, List.map_singleton, xk, xs]
    · rw [if_neg w] at e ⊢
      rw [h.full t0 ht0 ci c' hci e]
      by_cases h1 : ci < i
      · rw [if_pos h1, if_pos h1]
      · rw [if_neg h1, if_neg h1]
        by_cases h2 : ci = i
        · subst h2
          rw [hc] at hci
          cases hci
          rw [if_pos rfl, if_pos rfl, leavTo_succ hp, if_neg fun z => w (Prod.ext e z.symm), List.append_nil]
        · rw [if_neg h2, if_neg h2]
/-- the law's table of the lines that leave each stage -/
def LeavAt (H : Hp) (q : Addr) (cs : List CA) : Prop := ∃ M : List ML, H q = some (.dT (kvT (trL M))) ∧ M.map (·.1) = stagesOf cs ∧ (∀ t ∈ M, H t.2.1 = some (.lst (t.2.2.map fun x => V.ref x.e))) ∧ HeldL cs H cs.length 0 M
theorem LeavAt.mono {H H' : Hp} {q : Addr} {cs : List CA} (s : Same H H') (h : LeavAt H q cs) : LeavAt H' q cs := by
  obtain ⟨M, h1, h2, h3, h4⟩ := h
  exact ⟨M, s _ _ h1, h2, fun t ht => s _ _ (h3 t ht), h4.ts (TS.of s)⟩
theorem stagesOf_nd {cs : List CA} (nd : (cs.map (·.nm)).Nodup) : (stagesOf cs).Nodup := (List.mergeSort_perm _ stLe).nodup_iff.mp (stagesS_nd nd)
section
variable {P : Program} {w : World} {K : PySem.W.Frag} {mg : Str → Option Value} {base : Heap}
def spLawLeav (K : PySem.W.Frag) : Sp := fun vs H Q _ => ∃ (a : Addr) (cs : List CA), vs = [.ref a] ∧ CsAt K H a cs ∧ CsOk cs ∧ ∀ H' q, Same H H' → H q = none → LeavAt H' q cs → Q (.ref q) H'
abbrev nLv : List Str := ["courses", "leaving", "name", "stages", "ends", "steps", "number", "k", "step", "row"]
theorem scLv : FnScope nLv ["courses"] (defScope sLawLeaving) := ⟨rfl, rfl, rfl, by decide +kernel, rfl, by decide +kernel, by decide +kernel⟩
theorem ok_lawleav {f : Addr} {fd : FuncData} (F : Fun K "_law_leaving" "_law_leaving" sLawLeaving f fd) (N : Nones mg) : FnOk P w K mg base CX0 1 f fd ["courses"] (spLawLeav K) := by
  refine F.ok scLv (fun vs H Q E h => ?_) (fun cdv A outer s0 H vs Q E hr h => ?_)
  · obtain ⟨a, cs, rfl, _⟩ := h
    rfl
  · obtain ⟨a, cs, rfl, hC, ok, q⟩ := h
    refine ⟨_, pss_cons (ps_set (i := 1) scLv.nd rfl (Or.inl rfl) pe_dnewT)
      (pss_cons (ps_for PassesOwn.never rfl (pi_tup (pv 0)) (pg_tup rfl (pgs_cons (pg_name (i := 2) scLv.nd rfl (Or.inl rfl)) (pgs_cons (pg_name (i := 3) scLv.nd rfl (Or.inl rfl)) (pgs_cons (pg_name (i := 4) scLv.nd rfl (Or.inl rfl)) (pgs_cons (pg_name (i := 5) scLv.nd rfl (Or.inl rfl)) pgs_nil)))))
        (pss_cons (ps_for PassesOwn.never rfl (pi_range1 (by rfl) N.range (pa_cons (pv 3) pa_nil)) (pg_name (i := 6) scLv.nd rfl (Or.inl rfl))
          (pss_one (ps_dput (hu_of hr) (pv 1) (pe_tup (pa_cons (pv 2) (pa_cons (pv 6) pa_nil))) (pe_lst pa_nil) rfl)))
        (pss_one (ps_for PassesOwn.never rfl (Ka.pi_enumT (by rfl) N.enumerate (pa_cons (pv 5) pa_nil)) (pg_tup rfl (pgs_cons (pg_name (i := 7) scLv.nd rfl (Or.inl rfl)) (pgs_cons (pg_name (i := 8) scLv.nd rfl (Or.inl rfl)) pgs_nil)))
          (pss_cons (ps_set (i := 9) scLv.nd rfl (Or.inl rfl) (pe_dget (hu_of hr) (pv 1) (pe_tup (pa_cons (pv 2) (pa_cons (pe_ix ix_tup (pv 8) pe_int (fun _ _ => rfl)) pa_nil))) (fun _ _ => rfl)))
          (pss_one (ps_if (pt_cmpR op_eq (pe_ix ix_tup (pv 8) pe_int (fun _ _ => rfl)) pe_str (nomark _)) (pss_one (ps_expr (pe_bm PySem.F.plainAttrs_list PySem.F.slot_list_append PySem.F.type_list_append mt_append (pv 9) (pa_cons (pe_tup (pa_cons (pe_tup (pa_cons pe_str (pa_cons (pv 7) pa_nil))) (pa_cons (pe_tup (pa_cons (pe_tup (pa_cons (pv 2) (pa_cons (pe_ix ix_tup (pv 8) pe_int (fun _ _ => rfl)) pa_nil))) pa_nil)) (pa_cons (pe_ix ix_tup (pv 8) pe_int (fun _ _ => rfl)) pa_nil)))) pa_nil)))) (pss_one (ps_expr (pe_bm PySem.F.plainAttrs_list PySem.F.slot_list_append PySem.F.type_list_append mt_append (pv 9) (pa_cons (pe_tup (pa_cons (pe_tup (pa_cons pe_str (pa_cons (pv 7) pa_nil))) (pa_cons (pe_tup (pa_cons (pe_tup (pa_cons (pe_ix ix_tup (pv 8) pe_int (fun _ _ => rfl)) (pa_cons pe_int pa_nil))) (pa_cons (pe_tup (pa_cons (pv 2) (pa_cons (pe_ix ix_tup (pv 8) pe_int (fun _ _ => rfl)) pa_nil))) pa_nil))) (pa_cons pe_non pa_nil)))) pa_nil)))))))))))
      (pss_one (ps_ret (pv 1)))), ?_⟩
    have st60 := ok.st
    have n8 := ok.n8
    intro D nD
    have sD := same_new (o := .dT []) nD
    have eD : upd H D (.dT []) D = some (.dT []) := upd_same
    generalize upd H D (.dT []) = HD at sD eD
    refine ⟨_, rfl, a, rfl, ⟨_, Same.sqT sD hC.1⟩, ?_⟩
    refine for_it (walk_tup (K := K) (a := a) (xs := cs.map fun c => V.ref c.a)) (fun i σ Z => ∃ (x2 x3 x4 x5 x6 x7 x8 x9 : Option V) (M : List ML), σ = [some (.ref a), some (.ref D), x2, x3, x4, x5, x6, x7, x8, x9] ∧ Same H Z ∧ Z D = some (.dT (kvT (trL M))) ∧ M.map (·.1) = stagesOf (cs.take i) ∧ LsAt H Z D (1000 * i) (trL M) ∧ HeldL cs Z i 0 M) ⟨none, none, none, none, none, none, none, none, [], rfl, sD, eD, rfl, ⟨(fun t ht => nomatch ht), List.nodup_nil⟩, ⟨(fun t ht => nomatch ht), fun t ht => nomatch ht⟩⟩ (fun i σ Z _ h => ?_) (fun i y σ Z Z' hi h yy => ?_) (fun σ Z h => ?_)
    · obtain ⟨_, _, _, _, _, _, _, _, _, _, sZ, _⟩ := h
      exact Same.sqT sZ hC.1
    · obtain ⟨rfl, hy⟩ := yy
      obtain ⟨c, hc, rfl⟩ := get_map hy
      obtain ⟨x2, x3, x4, x5, x6, x7, x8, x9, M, rfl, sZ, eZ, kM, lM, hM⟩ := h
      have mc := List.mem_of_getElem? hc
      have okc := ok.ok c mc
      have n1 := okc.n1
      have osz := okc.sz
      have hi8 := lt_of_get hc
      have hCc := (hC.2 c mc).mono sZ
      refine ⟨c.a, _, rfl, hCc.t, rfl, _, _, rfl, _, _, rfl, _, _, rfl, _, _, rfl, rfl, ?_⟩
      refine ⟨_, rfl, _, rfl, by omega, by omega, ?_⟩
      have en : ((c.n : Int)).toNat = c.n := by omega
      rw [en]
      have ndS := stagesOf_nd ok.nd
      have stt : stagesOf (cs.take (i + 1)) = stagesOf (cs.take i) ++ (List.range c.n).map fun k => (c.nm, k) := stagesOf_snoc hc
      have newk : ∀ j, (c.nm, j) ∉ stagesOf (cs.take i) ++ (List.range j).map fun k => (c.nm, k) := fun j z => by
        have := key_new ok.nd hc j
        apply this
        have e1 : keysOf (cs.take i) = (stagesOf (cs.take i)).map stK := (stagesOf_keys _).symm
        have e2 : keysC c j = ((List.range j).map fun k => (c.nm, k)).map stK := by unfold keysC; rw [List.map_map]; rfl
        rw [e1, e2, ← List.map_append]
        exact List.mem_map.mpr ⟨_, z, rfl⟩
      refine for_it (walk_r0 (n := c.n)) (fun j σ Y => ∃ (x6 x7 x8 x9 : Option V) (M : List ML), σ = [some (.ref a), some (.ref D), some (.str c.nm), some (.int (c.n : Int)), some (.ref c.ea), some (.ref c.sa), x6, x7, x8, x9] ∧ Same H Y ∧ Y D = some (.dT (kvT (trL M))) ∧ M.map (·.1) = stagesOf (cs.take i) ++ ((List.range j).map fun k => (c.nm, k)) ∧ LsAt H Y D (1000 * i) (trL M) ∧ HeldL cs Y i 0 M) ⟨_, _, _, _, M, rfl, sZ, eZ, by rw [kM]; simp, lM, hM⟩ (fun _ _ _ _ _ => True.intro) (fun j y σ Y Y' hj h yy => ?_) (fun σ Y h => ?_)
      · obtain ⟨rfl, rfl⟩ := yy
        obtain ⟨x6, x7, x8, x9, M, rfl, sY, eY, kM, lM, hM⟩ := h
        refine ⟨smallE (by show 0 ≤ 1000000; decide), fun l nl => ?_⟩
        have sl := same_new (o := .lst []) nl
        have el : upd Y' l (.lst []) l = some (.lst []) := upd_same
        have nT : ∀ t ∈ trL M, t.2.1 ≠ l := fun t ht => ne_of_none (lM.st t ht).1 nl
        have lM := lM.mono fun t _ o e => sl _ _ e
        have lD : l ≠ D := fun z => by
          rw [z, eY] at nl
          cases nl
        have nlH := sY.free nl
        have eY := sl _ _ eY
        have sY := sY.trans sl
        have hM := hM.ts (TS.of sl)
        generalize upd Y' l (.lst []) = Y1 at sl el lM eY sY hM
        refine ⟨_, rfl, _, rfl, _, rfl, smallE (by show 2 ≤ 1000000; decide), fun b nb => ?_⟩
        have sb := same_new (o := .tup [V.str c.nm, V.int (j : Int)]) nb
        have eb : upd Y1 b (.tup [V.str c.nm, V.int (j : Int)]) b = some (.tup ((stK (c.nm, j)).map kV)) := upd_same
        have lM := lM.mono fun t _ o e => sb _ _ e
        have eY := sb _ _ eY
        have el := sb _ _ el
        have sY := sY.trans sb
        have hM := hM.ts (TS.of sb)
        generalize upd Y1 b (.tup [V.str c.nm, V.int (j : Int)]) = Y2 at sb eb lM eY el sY hM
        have len : (kvT (trL M)).length ≤ 60 := by
          have h1 : (kvT (trL M)).length = (M.map (·.1)).length := by unfold kvT trL; rw [List.length_map, List.length_map, List.length_map]
          have h2 := nStages_le cs (i + 1)
          have h3 := nStages_snoc hc
          rw [h1, kM, List.length_append, stagesOf_len, List.length_map, List.length_range]
          omega
        refine ⟨D, _, rfl, DPut.t eY eb (small (by omega)), x6 |> fun _ => some (.int (j : Int)), x7, x8, x9, M ++ [((c.nm, j), l, [])], rfl, fun b2 o e => ?_, ?_, ?_, ?_, ?_⟩
        · rw [upd_ne (ne_of_none e nD)]
          exact sY _ _ e
        · rw [upd_same, putK_new]
          · unfold kvT trL
            rw [List.map_append, List.map_append]
            rfl
          · rw [kvT_keys, trL_keys, kM]
            intro z
            obtain ⟨y, hy, e⟩ := List.mem_map.mp z
            rw [stK_inj e] at hy
            exact newk j hy
        · rw [List.map_append, kM, List.append_assoc, List.range_succ, List.map_append]
          rfl
        · have e5 : trL (M ++ [((c.nm, j), l, [])]) = trL M ++ [(stK (c.nm, j), l, [])] := by unfold trL; rw [List.map_append]; rfl
          rw [e5]
          refine (lM.snoc el nlH lD nT).mono fun t ht o e => ?_
          rw [upd_ne]
          · exact e
          · rcases List.mem_append.mp ht with z | z
            · exact (lM.st t z).2.2.1
            · rw [List.mem_singleton.mp z]
              exact lD
        · refine (hM.snoc ok.nd hc j l).ts fun c2 xs e => ?_
          rw [upd_ne]
          · exact e
          · intro z
            rw [z, eY] at e
            cases e
      · obtain ⟨x6, x7, x8, x9, M, rfl, sY, eY, kM, lM, hM⟩ := h
        rw [← stt] at kM
        have hCy := (hC.2 c mc).mono sY
        refine ⟨_, rfl, c.sa, _, rfl, hCy.s, ?_⟩
        refine for_it (walk_enumT (K := K) (a := c.sa) (xs := c.ss.map fun p => V.ref p.1)) (fun m σ X => ∃ (x7 x8 x9 : Option V) (M : List ML), σ = [some (.ref a), some (.ref D), some (.str c.nm), some (.int (c.n : Int)), some (.ref c.ea), some (.ref c.sa), x6, x7, x8, x9] ∧ Same H X ∧ X D = some (.dT (kvT (trL M))) ∧ M.map (·.1) = stagesOf (cs.take (i + 1)) ∧ LsAt H X D (1000 * i + m) (trL M) ∧ HeldL cs X i m M) ⟨x7, x8, x9, M, rfl, sY, eY, kM, lM, hM⟩ (fun m σ X _ h => ?_) (fun m y σ X X' hm h yy => ?_) (fun σ X h => ?_)
        · obtain ⟨_, _, _, _, _, sX, _⟩ := h
          exact Same.sqT sX (hC.2 c mc).s
        · obtain ⟨U, z, v, rfl, nU, rfl, hz, hv⟩ := yy
          obtain ⟨x7, x8, x9, M, rfl, sX, eX, kM, lM, hM⟩ := h
          cases hz
          obtain ⟨p, hp, rfl⟩ := get_map hv
          have mp := List.mem_of_getElem? hp
          have hml := lt_of_get hp
          have sU := same_new (o := .tup [V.int (m : Nat), V.ref p.1]) nU
          have hU : upd X U (.tup [V.int (m : Nat), V.ref p.1]) U = some (.tup [V.int (m : Nat), V.ref p.1]) := upd_same
          have lM := lM.mono fun t _ o e => sU _ _ e
          have eX := sU _ _ eX
          have sX := sX.trans sU
          have hM := hM.ts (TS.of sU)
          generalize upd X U (.tup [V.int (m : Nat), V.ref p.1]) = X1 at sU hU eX lM sX hM
          have ep := ((hC.2 c mc).mono sX).p p mp
          refine ⟨U, _, rfl, sqT_new hU, rfl, _, _, rfl, _, _, rfl, rfl, ?_⟩
          refine ⟨_, rfl, _, rfl, _, rfl, p.1, _, _, .int (p.2.n : Nat), rfl, rfl, sqT_new ep, rfl, smallE (by show 2 ≤ 1000000; decide), fun b nb => ?_⟩
          have sb := same_new (o := .tup [V.str c.nm, V.int (p.2.n : Nat)]) nb
          have eb : upd X1 b (.tup [V.str c.nm, V.int (p.2.n : Nat)]) b = some (.tup ((stK (c.nm, p.2.n)).map kV)) := upd_same
          have lM := lM.mono fun t _ o e => sb _ _ e
          have eX := sb _ _ eX
          have ep := sb _ _ ep
          have sX := sX.trans sb
          have hM := hM.ts (TS.of sb)
          generalize upd X1 b (.tup [V.str c.nm, V.int (p.2.n : Nat)]) = X2 at sb eb eX lM sX hM ep
          have mst : (c.nm, p.2.n) ∈ M.map (·.1) := by
            rw [kM, stt]
            exact List.mem_append_right _ (List.mem_map.mpr ⟨_, List.mem_range.mpr (okc.sl p mp).1, rfl⟩)
          obtain ⟨t, ht, et⟩ := List.mem_map.mp mst
          have htr : (stK t.1, t.2.1, t.2.2.map fun x => V.ref x.e) ∈ trL M := List.mem_map.mpr ⟨t, ht, rfl⟩
          have kn : ((trL M).map (·.1)).Nodup := by
            rw [trL_keys, kM]
            refine stK_nd ?_
            have := keys_nd ok.nd (i + 1) (by omega)
            rw [← stagesOf_keys] at this
            unfold List.Nodup at this ⊢
            rw [List.pairwise_map] at this
            exact this.imp fun ne e => ne (by rw [e])
          have hv : valV (kvT (trL M)) (stK (c.nm, p.2.n)) = some (.ref t.2.1) := valV_mem (by rw [kvT_keys]; exact kn) (List.mem_map.mpr ⟨_, htr, by rw [et]⟩)
          obtain ⟨a1, a2, a3, a4⟩ := lM.st _ htr
          rw [List.length_map] at a4
          refine ⟨D, .ref t.2.1, rfl, hv ▸ DGet.t eX eb, ?_⟩
          refine ⟨_, rfl, p.1, _, _, .str (kindS p.2.call), rfl, rfl, sqT_new ep, rfl, rfl, _, rfl, ?_⟩
          rw [kind_do]
          have fin : ∀ {Z : Hp} {e mv pa : Addr}, Same X2 Z → Z e = some (.tup [.ref mv, .ref pa, labV p.2]) → Z mv = some (.tup [.str (kindS p.2.call), .int (m : Int)]) → PtsAt Z pa (partsS c.nm p.2) → (Same H (upd Z t.2.1 (.lst ((t.2.2.map fun x => V.ref x.e) ++ [.ref e]))) ∧ upd Z t.2.1 (.lst ((t.2.2.map fun x => V.ref x.e) ++ [.ref e])) D = some (.dT (kvT (trL (pushL M (c.nm, p.2.n) ⟨e, mv, pa, m, p.2⟩)))) ∧ (pushL M (c.nm, p.2.n) ⟨e, mv, pa, m, p.2⟩).map (·.1) = stagesOf (cs.take (i + 1)) ∧ LsAt H (upd Z t.2.1 (.lst ((t.2.2.map fun x => V.ref x.e) ++ [.ref e]))) D (1000 * i + (m + 1)) (trL (pushL M (c.nm, p.2.n) ⟨e, mv, pa, m, p.2⟩)) ∧ HeldL cs (upd Z t.2.1 (.lst ((t.2.2.map fun x => V.ref x.e) ++ [.ref e]))) i (m + 1) (pushL M (c.nm, p.2.n) ⟨e, mv, pa, m, p.2⟩)) := fun {Z e mv pa} sZ h1 h2 h3 => by
            have lM := lM.mono fun t _ o e => sZ _ _ e
            have a1 := sZ _ _ a1
            have eX := sZ _ _ eX
            have hM := hM.ts (TS.of sZ)
            have tk : TS Z (upd Z t.2.1 (.lst ((t.2.2.map fun x => V.ref x.e) ++ [.ref e]))) := fun c2 xs e2 => by
              rw [upd_ne]
              · exact e2
              · intro z
                rw [z, a1] at e2
                cases e2
            refine ⟨fun b2 o z => ?_, ?_, by rw [pushL_keys]; exact kM, ?_, ?_⟩
            · rw [upd_ne (ne_of_none z a2)]
              exact sZ _ _ (sX _ _ z)
            · rw [upd_ne a3.symm, trL_push, pushT_kv]
              exact eX
            · rw [trL_push, ← et]
              exact lM.push kn htr
            · exact (hM.push ok.nd hc hp (x := ⟨e, mv, pa, m, p.2⟩) ⟨h1, h2, h3⟩ rfl rfl).ts tk
          cases hcall : p.2.call with
          | false =>
            refine iteYes rfl ?_
            refine ⟨_, rfl, .inl ⟨rfl, _, sqL_new a1⟩, _, rfl, smallE (by show 2 ≤ 1000000; decide), fun mv nmv => ?_⟩
            have s1 := same_new (o := .tup [V.str "do", V.int (m : Int)]) nmv
            have e1 : upd X2 mv (.tup [V.str "do", V.int (m : Int)]) mv = some (.tup [V.str (kindS p.2.call), V.int (m : Int)]) := by rw [hcall]; exact upd_same
            have ep1 := s1 _ _ ep
            generalize upd X2 mv (.tup [V.str "do", V.int (m : Int)]) = W1 at s1 e1 ep1
            refine ⟨_, rfl, _, rfl, p.1, _, _, .int (p.2.o : Nat), rfl, rfl, sqT_new ep1, rfl, smallE (by show 2 ≤ 1000000; decide), fun g1 ng1 => ?_⟩
            have s2 := same_new (o := .tup [V.str c.nm, V.int (p.2.o : Nat)]) ng1
            have e2 : upd W1 g1 (.tup [V.str c.nm, V.int (p.2.o : Nat)]) g1 = some (.tup (stV (c.nm, p.2.o))) := upd_same
            have e1 := s2 _ _ e1
            have ep1 := s2 _ _ ep1
            have s12 := s1.trans s2
            generalize upd W1 g1 (.tup [V.str c.nm, V.int (p.2.o : Nat)]) = W2 at s2 e2 e1 ep1 s12
            refine ⟨smallE (by show 1 ≤ 1000000; decide), fun pa npa => ?_⟩
            have s3 := same_new (o := .tup [V.ref g1]) npa
            have e3 : upd W2 pa (.tup [V.ref g1]) pa = some (.tup [V.ref g1]) := upd_same
            have e1 := s3 _ _ e1
            have e2 := s3 _ _ e2
            have ep1 := s3 _ _ ep1
            have s13 := s12.trans s3
            generalize upd W2 pa (.tup [V.ref g1]) = W3 at s3 e3 e2 e1 ep1 s13
            refine ⟨_, rfl, p.1, _, _, .str p.2.nm, rfl, rfl, sqT_new ep1, rfl, smallE (by show 3 ≤ 1000000; decide), fun e ne => ?_⟩
            have s4 := same_new (o := .tup [V.ref mv, V.ref pa, V.str p.2.nm]) ne
            have e4 : upd W3 e (.tup [V.ref mv, V.ref pa, V.str p.2.nm]) e = some (.tup [V.ref mv, V.ref pa, labV p.2]) := by unfold labV; rw [hcall]; exact upd_same
            have s14 := s13.trans s4
            have r := fin s14 e4 (s4 _ _ e1) ⟨[(g1, (c.nm, p.2.o))], s4 _ _ e3, by unfold partsS; rw [hcall]; rfl, fun u hu => by rw [List.mem_singleton.mp hu]; exact s4 _ _ e2⟩
            exact ⟨t.2.1, _, _, rfl, rfl, s14 _ _ a1, by rw [List.length_map]; exact small (by omega), _, _, _, _, rfl, r⟩
          | true =>
            refine iteNo rfl ?_
            refine ⟨_, rfl, .inl ⟨rfl, _, sqL_new a1⟩, _, rfl, smallE (by show 2 ≤ 1000000; decide), fun mv nmv => ?_⟩
            have s1 := same_new (o := .tup [V.str "call", V.int (m : Int)]) nmv
            have e1 : upd X2 mv (.tup [V.str "call", V.int (m : Int)]) mv = some (.tup [V.str (kindS p.2.call), V.int (m : Int)]) := by rw [hcall]; exact upd_same
            have ep1 := s1 _ _ ep
            generalize upd X2 mv (.tup [V.str "call", V.int (m : Int)]) = W1 at s1 e1 ep1
            refine ⟨_, rfl, p.1, _, _, .str p.2.nm, rfl, rfl, sqT_new ep1, rfl, smallE (by show 2 ≤ 1000000; decide), fun g0 ng0 => ?_⟩
            have s0' := same_new (o := .tup [V.str p.2.nm, V.int 0]) ng0
            have e0 : upd W1 g0 (.tup [V.str p.2.nm, V.int 0]) g0 = some (.tup (stV (p.2.nm, 0))) := upd_same
            have e1 := s0' _ _ e1
            have ep1 := s0' _ _ ep1
            have s01 := s1.trans s0'
            generalize upd W1 g0 (.tup [V.str p.2.nm, V.int 0]) = W0 at s0' e0 e1 ep1 s01
            refine ⟨_, rfl, _, rfl, p.1, _, _, .int (p.2.o : Nat), rfl, rfl, sqT_new ep1, rfl, smallE (by show 2 ≤ 1000000; decide), fun g1 ng1 => ?_⟩
            have s2 := same_new (o := .tup [V.str c.nm, V.int (p.2.o : Nat)]) ng1
            have e2 : upd W0 g1 (.tup [V.str c.nm, V.int (p.2.o : Nat)]) g1 = some (.tup (stV (c.nm, p.2.o))) := upd_same
            have e1 := s2 _ _ e1
            have e0 := s2 _ _ e0
            have s12 := s01.trans s2
            generalize upd W0 g1 (.tup [V.str c.nm, V.int (p.2.o : Nat)]) = W2 at s2 e2 e1 e0 s12
            refine ⟨smallE (by show 2 ≤ 1000000; decide), fun pa npa => ?_⟩
            have s3 := same_new (o := .tup [V.ref g0, V.ref g1]) npa
            have e3 : upd W2 pa (.tup [V.ref g0, V.ref g1]) pa = some (.tup [V.ref g0, V.ref g1]) := upd_same
            have e1 := s3 _ _ e1
            have e2 := s3 _ _ e2
            have e0 := s3 _ _ e0
            have s13 := s12.trans s3
            generalize upd W2 pa (.tup [V.ref g0, V.ref g1]) = W3 at s3 e3 e2 e1 e0 s13
            refine ⟨smallE (by show 3 ≤ 1000000; decide), fun e ne => ?_⟩
            have s4 := same_new (o := .tup [V.ref mv, V.ref pa, V.non]) ne
            have e4 : upd W3 e (.tup [V.ref mv, V.ref pa, V.non]) e = some (.tup [V.ref mv, V.ref pa, labV p.2]) := by unfold labV; rw [hcall]; exact upd_same
            have s14 := s13.trans s4
            have r := fin s14 e4 (s4 _ _ e1) ⟨[(g0, (p.2.nm, 0)), (g1, (c.nm, p.2.o))], s4 _ _ e3, by unfold partsS; rw [hcall]; rfl, fun u hu => by
              rcases List.mem_cons.mp hu with z | z
              · rw [z]
                exact s4 _ _ e0
              · rw [List.mem_singleton.mp z]
                exact s4 _ _ e2⟩
            exact ⟨t.2.1, _, _, rfl, rfl, s14 _ _ a1, by rw [List.length_map]; exact small (by omega), _, _, _, _, rfl, r⟩
        · obtain ⟨x7, x8, x9, M, rfl, sX, eX, kM, lM, hM⟩ := h
          rw [List.length_map] at lM hM
          exact ⟨_, _, _, _, _, _, _, _, M, rfl, sX, eX, kM, lM.le (by omega), hM.next hc⟩
    · obtain ⟨x2, x3, x4, x5, x6, x7, x8, x9, M, rfl, sZ, eZ, kM, lM, hM⟩ := h
      rw [List.length_map] at hM
      rw [List.length_map, List.take_length] at kM
      refine ⟨_, rfl, q Z D sZ nD ⟨M, eZ, kM, fun t ht => ?_, hM⟩⟩
      have htr : (stK t.1, t.2.1, t.2.2.map fun x => V.ref x.e) ∈ trL M := List.mem_map.mpr ⟨t, ht, rfl⟩
      exact (lM.st _ htr).1
end
end Kb
/-! Least costs found by a heap (own text). -/
namespace Kz
variable {α : Type} [DecidableEq α]
abbrev Cost := Nat × Nat
def cle (a b : Cost) : Prop := a.1 < b.1 ∨ (a.1 = b.1 ∧ a.2 ≤ b.2)
theorem cle_refl (a : Cost) : cle a a := .inr ⟨rfl, Nat.le_refl _⟩
theorem cle_trans {a b c : Cost} (h1 : cle a b) (h2 : cle b c) : cle a c := by
  unfold cle at *
  omega
theorem cle_total (a b : Cost) : cle a b ∨ cle b a := by
  unfold cle
  omega
theorem cle_anti {a b : Cost} (h1 : cle a b) (h2 : cle b a) : a = b := by
  unfold cle at *
  exact Prod.ext (by omega) (by omega)
theorem cle_pw {a b : Cost} (h1 : a.1 ≤ b.1) (h2 : a.2 ≤ b.2) : cle a b := by
  unfold cle
  omega
theorem cle_fst {a b : Cost} (h : cle a b) : a.1 ≤ b.1 := by
  unfold cle at h
  omega
def cadd (a b : Cost) : Cost := (a.1 + b.1, a.2 + b.2)
/-- a line: who uses it, what it needs, what it takes besides -/
structure Ln (α : Type) where
  user : α
  parts : List α
  base : Cost
def keys (dn : List (α × Cost)) : List α := dn.map (·.1)
theorem keys_app (dn r : List (α × Cost)) : keys (dn ++ r) = keys dn ++ keys r := List.map_append
theorem mem_keys {dn : List (α × Cost)} {x : α × Cost} (h : x ∈ dn) : x.1 ∈ keys dn := List.mem_map.mpr ⟨x, h, rfl⟩
def vf : List (α × Cost) → α → Cost
  | [], _ => (0, 0)
  | p :: r, a => if p.1 = a then p.2 else vf r a
theorem vf_app : ∀ {dn : List (α × Cost)} (r : List (α × Cost)) {a : α}, a ∈ keys dn → vf (dn ++ r) a = vf dn a
  | [], _, _, h => nomatch h
  | p :: dn, r, a, h => by
    show (if p.1 = a then p.2 else vf (dn ++ r) a) = if p.1 = a then p.2 else vf dn a
    by_cases e : p.1 = a
    · rw [if_pos e, if_pos e]
    · rw [if_neg e, if_neg e]
      refine vf_app r ?_
      rcases List.mem_cons.mp (show a ∈ p.1 :: keys dn from h) with z | z
      · exact absurd z.symm e
      · exact z
theorem vf_new : ∀ {dn : List (α × Cost)} {a : α} {c : Cost}, a ∉ keys dn → vf (dn ++ [(a, c)]) a = c
  | [], a, c, _ => by
    show (if a = a then c else _) = c
    rw [if_pos rfl]
  | p :: dn, a, c, h => by
    have h : a ∉ p.1 :: keys dn := h
    rw [List.mem_cons, not_or] at h
    show (if p.1 = a then p.2 else vf (dn ++ [(a, c)]) a) = c
    rw [if_neg (fun z => h.1 z.symm)]
    exact vf_new h.2
theorem vf_mem : ∀ {dn : List (α × Cost)} {a : α} {c : Cost}, (keys dn).Nodup → (a, c) ∈ dn → vf dn a = c
  | [], _, _, _, h => nomatch h
  | p :: dn, a, c, nd, h => by
    have nd : (p.1 :: keys dn).Nodup := nd
    rw [List.nodup_cons] at nd
    show (if p.1 = a then p.2 else vf dn a) = c
    rcases List.mem_cons.mp h with e | e
    · rw [← e, if_pos rfl]
    · have : ¬ p.1 = a := fun z => nd.1 (by rw [z]; exact mem_keys e)
      rw [if_neg this]
      exact vf_mem nd.2 e
theorem mem_vf : ∀ {dn : List (α × Cost)} {a : α}, a ∈ keys dn → (a, vf dn a) ∈ dn
  | [], _, h => nomatch h
  | p :: dn, a, h => by
    by_cases e : p.1 = a
    · have : vf (p :: dn) a = p.2 := if_pos e
      rw [this, ← e]
      exact List.mem_cons_self
    · have h : a ∈ p.1 :: keys dn := h
      have : vf (p :: dn) a = vf dn a := if_neg e
      rw [this]
      rcases List.mem_cons.mp h with z | z
      · exact absurd z.symm e
      · exact List.mem_cons_of_mem _ (mem_vf z)
/-- what a line takes -/
def lcF (f : α → Cost) (ps : List α) (b : Cost) : Cost := ps.foldl (fun acc p => cadd acc (f p)) b
def lc (dn : List (α × Cost)) (ln : Ln α) : Cost := lcF (vf dn) ln.parts ln.base
theorem lcF_congr {f g : α → Cost} : ∀ {ps : List α} (b : Cost), (∀ p ∈ ps, f p = g p) → lcF f ps b = lcF g ps b
  | [], _, _ => rfl
  | p :: ps, b, h => by
    show lcF f ps (cadd b (f p)) = lcF g ps (cadd b (g p))
    rw [h p List.mem_cons_self]
    exact lcF_congr _ fun q hq => h q (List.mem_cons_of_mem _ hq)
theorem lcF_ge (f : α → Cost) : ∀ (ps : List α) (b : Cost), b.1 ≤ (lcF f ps b).1 ∧ b.2 ≤ (lcF f ps b).2
  | [], b => ⟨Nat.le_refl _, Nat.le_refl _⟩
  | p :: ps, b => by
    have := lcF_ge f ps (cadd b (f p))
    have h1 : (cadd b (f p)).1 = b.1 + (f p).1 := rfl
    have h2 : (cadd b (f p)).2 = b.2 + (f p).2 := rfl
    have e : lcF f (p :: ps) b = lcF f ps (cadd b (f p)) := rfl
    rw [e]
    omega
theorem lcF_ge_part (f : α → Cost) : ∀ {ps : List α} (b : Cost) {p : α}, p ∈ ps → (f p).1 ≤ (lcF f ps b).1 ∧ (f p).2 ≤ (lcF f ps b).2
  | [], _, _, h => nomatch h
  | q :: ps, b, p, h => by
    have e : lcF f (q :: ps) b = lcF f ps (cadd b (f q)) := rfl
    rw [e]
    rcases List.mem_cons.mp h with z | z
    · have := lcF_ge f ps (cadd b (f q))
      have h1 : (cadd b (f q)).1 = b.1 + (f q).1 := rfl
      have h2 : (cadd b (f q)).2 = b.2 + (f q).2 := rfl
      rw [z]
      omega
    · exact lcF_ge_part f _ z
theorem lc_app {dn : List (α × Cost)} (r : List (α × Cost)) {ln : Ln α} (h : ∀ p ∈ ln.parts, p ∈ keys dn) : lc (dn ++ r) ln = lc dn ln := lcF_congr _ fun p hp => vf_app r (h p hp)
theorem lc_ge {dn : List (α × Cost)} {ln : Ln α} {p : α} (h : p ∈ ln.parts) : cle (vf dn p) (lc dn ln) := cle_pw (lcF_ge_part _ _ h).1 (lcF_ge_part _ _ h).2
/-- why a stage has its cost -/
def Just (E : List α) (LN : List (Ln α)) (e0 : Cost) (dn : List (α × Cost)) (a : α) (c : Cost) : Prop := (a ∈ E ∧ c = e0) ∨ ∃ ln ∈ LN, ln.user = a ∧ (∀ p ∈ ln.parts, p ∈ keys dn) ∧ c = lc dn ln
theorem Just.app {E : List α} {LN : List (Ln α)} {e0 : Cost} {dn : List (α × Cost)} (r : List (α × Cost)) {a : α} {c : Cost} (h : Just E LN e0 dn a c) : Just E LN e0 (dn ++ r) a c := by
  rcases h with h | ⟨ln, h1, h2, h3, h4⟩
  · exact .inl h
  · refine .inr ⟨ln, h1, h2, fun p hp => ?_, by rw [h4, lc_app r h3]⟩
    rw [keys_app]
    exact List.mem_append_left _ (h3 p hp)
structure Inv (E : List α) (LN : List (Ln α)) (e0 : Cost) (dn qs : List (α × Cost)) (pend : List (Ln α)) : Prop where
  nd : (keys dn).Nodup
  just : ∀ (i : Nat) (a : α) (c : Cost), dn[i]? = some (a, c) → Just E LN e0 (dn.take i) a c
  qjust : ∀ x ∈ qs, Just E LN e0 dn x.1 x.2
  ends : ∀ a ∈ E, a ∉ keys dn → (a, e0) ∈ qs
  endsle : ∀ a ∈ E, a ∈ keys dn → cle (vf dn a) e0
  lines : ∀ ln ∈ LN, (∀ p ∈ ln.parts, p ∈ keys dn) → ln.user ∉ keys dn → (ln.user, lc dn ln) ∈ qs ∨ ln ∈ pend
  linesle : ∀ ln ∈ LN, (∀ p ∈ ln.parts, p ∈ keys dn) → ln.user ∈ keys dn → cle (vf dn ln.user) (lc dn ln)
  mono : ∀ x ∈ dn, ∀ y ∈ qs, cle x.2 y.2
/-- all that the search gives -/
structure Settled (E : List α) (LN : List (Ln α)) (e0 : Cost) (dn : List (α × Cost)) : Prop where
  nd : (keys dn).Nodup
  just : ∀ (i : Nat) (a : α) (c : Cost), dn[i]? = some (a, c) → Just E LN e0 (dn.take i) a c
  ends : ∀ a ∈ E, a ∈ keys dn ∧ cle (vf dn a) e0
  lines : ∀ ln ∈ LN, (∀ p ∈ ln.parts, p ∈ keys dn) → ln.user ∈ keys dn ∧ cle (vf dn ln.user) (lc dn ln)
theorem inv_start {E : List α} {LN : List (Ln α)} {e0 : Cost} {qs : List (α × Cost)} (hne : ∀ ln ∈ LN, ln.parts ≠ []) (h1 : ∀ a ∈ E, (a, e0) ∈ qs) (h2 : ∀ x ∈ qs, x.1 ∈ E ∧ x.2 = e0) : Inv E LN e0 [] qs [] where
  nd := List.nodup_nil
  just := fun i a c h => by simp at h
  qjust := fun x hx => .inl (h2 x hx)
  ends := fun a ha _ => h1 a ha
  endsle := fun a _ h => nomatch h
  lines := fun ln hl hp _ => by
    cases e : ln.parts with
    | nil => exact absurd e (hne ln hl)
    | cons p r => exact nomatch hp p (by rw [e]; exact List.mem_cons_self)
  linesle := fun ln _ _ h => nomatch h
  mono := fun x h => nomatch h
theorem inv_skip {E : List α} {LN : List (Ln α)} {e0 : Cost} {dn qs qs' : List (α × Cost)} {a : α} {c : Cost} (I : Inv E LN e0 dn qs []) (p : qs.Perm ((a, c) :: qs')) (h : a ∈ keys dn) : Inv E LN e0 dn qs' [] where
  nd := I.nd
  just := I.just
  qjust := fun x hx => I.qjust x (p.mem_iff.mpr (List.mem_cons_of_mem _ hx))
  ends := fun b hb nb => (List.mem_cons.mp (p.mem_iff.mp (I.ends b hb nb))).elim (fun e => absurd (by rw [show b = a from congrArg Prod.fst e]; exact h) nb) id
  endsle := I.endsle
  lines := fun ln hl hp hu => (I.lines ln hl hp hu).elim (fun z => .inl ((List.mem_cons.mp (p.mem_iff.mp z)).elim (fun e => absurd (by rw [show ln.user = a from congrArg Prod.fst e]; exact h) hu) id)) (fun z => nomatch z)
  linesle := I.linesle
  mono := fun x hx y hy => I.mono x hx y (p.mem_iff.mpr (List.mem_cons_of_mem _ hy))
theorem inv_take {E : List α} {LN : List (Ln α)} {e0 : Cost} {dn qs qs' : List (α × Cost)} {a : α} {c : Cost} {pend : List (Ln α)} (I : Inv E LN e0 dn qs []) (p : qs.Perm ((a, c) :: qs')) (h : a ∉ keys dn) (least : ∀ y ∈ qs', cle c y.2) (hp : ∀ ln ∈ LN, a ∈ ln.parts → ln ∈ pend) : Inv E LN e0 (dn ++ [(a, c)]) qs' pend := by
  have mq : (a, c) ∈ qs := p.mem_iff.mpr List.mem_cons_self
  have sub : ∀ {y}, y ∈ qs' → y ∈ qs := fun hy => p.mem_iff.mpr (List.mem_cons_of_mem _ hy)
  have low : ∀ y ∈ qs, cle c y.2 := fun y hy => (List.mem_cons.mp (p.mem_iff.mp hy)).elim (fun e => by rw [e]; exact cle_refl _) (least y)
  have hk : ∀ b, b ∈ keys (dn ++ [(a, c)]) ↔ b ∈ keys dn ∨ b = a := fun b => by
    rw [keys_app, List.mem_append]
    show _ ∨ b ∈ [a] ↔ _
    rw [List.mem_singleton]
  have old : ∀ {ps : List α}, (∀ q ∈ ps, q ∈ keys (dn ++ [(a, c)])) → a ∉ ps → ∀ q ∈ ps, q ∈ keys dn := fun h1 h2 q hq => ((hk q).mp (h1 q hq)).elim id fun e => absurd (by rw [← e]; exact hq) h2
  have top : ∀ b, b ∈ keys (dn ++ [(a, c)]) → cle (vf (dn ++ [(a, c)]) b) c := fun b hb => by
    rcases (hk b).mp hb with z | z
    · rw [vf_app _ z]
      exact I.mono _ (mem_vf z) _ mq
    · rw [z, vf_new h]
      exact cle_refl _
  refine ⟨?_, fun i b d hd => ?_, fun x hx => (I.qjust x (sub hx)).app _, fun b hb nb => ?_, fun b hb kb => ?_, fun ln hl hps hu => ?_, fun ln hl hps hu => ?_, fun x hx y hy => ?_⟩
  · rw [keys_app, List.nodup_append]
    refine ⟨I.nd, by simp [keys], fun x hx y hy e => ?_⟩
    have hy : y ∈ [a] := hy
    rw [List.mem_singleton] at hy
    exact h (by rw [← hy, ← e]; exact hx)
  · by_cases hi : i < dn.length
    · rw [List.getElem?_append_left hi] at hd
      rw [List.take_append_of_le_length (Nat.le_of_lt hi)]
      exact I.just i b d hd
    · rw [List.getElem?_append_right (Nat.le_of_not_lt hi)] at hd
      have hi2 : i - dn.length = 0 := by
        have := (List.getElem?_eq_some_iff.mp hd).1
        rw [List.length_singleton] at this
        omega
      rw [hi2] at hd
      cases hd
      have : i = dn.length := by omega
      rw [this, List.take_append_of_le_length (Nat.le_refl _), List.take_length]
      exact I.qjust _ mq
  · have nb' : b ∉ keys dn ∧ b ≠ a := ⟨fun z => nb ((hk b).mpr (.inl z)), fun z => nb ((hk b).mpr (.inr z))⟩
    exact (List.mem_cons.mp (p.mem_iff.mp (I.ends b hb nb'.1))).elim (fun e => absurd (congrArg Prod.fst e) nb'.2) id
  · rcases (hk b).mp kb with z | z
    · rw [vf_app _ z]
      exact I.endsle b hb z
    · rw [z, vf_new h]
      exact low _ (I.ends a (z ▸ hb) h)
  · by_cases ha : a ∈ ln.parts
    · exact .inr (hp ln hl ha)
    · have o := old hps ha
      have nu : ln.user ∉ keys dn ∧ ln.user ≠ a := ⟨fun z => hu ((hk _).mpr (.inl z)), fun z => hu ((hk _).mpr (.inr z))⟩
      rw [lc_app _ o]
      rcases I.lines ln hl o nu.1 with z | z
      · exact .inl ((List.mem_cons.mp (p.mem_iff.mp z)).elim (fun e => absurd (congrArg Prod.fst e) nu.2) id)
      · exact nomatch z
  · by_cases ha : a ∈ ln.parts
    · refine cle_trans (top _ hu) ?_
      have := lc_ge (dn := dn ++ [(a, c)]) ha
      rwa [vf_new h] at this
    · have o := old hps ha
      rw [lc_app _ o]
      rcases (hk _).mp hu with z | z
      · rw [vf_app _ z]
        exact I.linesle ln hl o z
      · rw [z, vf_new h]
        have := I.lines ln hl o (by rw [z]; exact h)
        rcases this with w | w
        · exact low _ w
        · exact nomatch w
  · rcases List.mem_append.mp hx with z | z
    · exact I.mono x z y (sub hy)
    · rw [List.mem_singleton.mp z]
      exact least y hy
theorem inv_drop {E : List α} {LN : List (Ln α)} {e0 : Cost} {dn qs : List (α × Cost)} {ln : Ln α} {pend : List (Ln α)} (I : Inv E LN e0 dn qs (ln :: pend)) (h : ln.user ∈ keys dn ∨ ¬ ∀ p ∈ ln.parts, p ∈ keys dn) : Inv E LN e0 dn qs pend where
  nd := I.nd
  just := I.just
  qjust := I.qjust
  ends := I.ends
  endsle := I.endsle
  lines := fun l hl hp hu => (I.lines l hl hp hu).elim .inl fun z => (List.mem_cons.mp z).elim (fun e => by
    subst e
    exact h.elim (fun z => absurd z hu) (fun z => absurd hp z)) .inr
  linesle := I.linesle
  mono := I.mono
theorem inv_push {E : List α} {LN : List (Ln α)} {e0 : Cost} {dn qs qs' : List (α × Cost)} {ln : Ln α} {pend : List (Ln α)} {a : α} (I : Inv E LN e0 dn qs (ln :: pend)) (hl : ln ∈ LN) (hp : ∀ p ∈ ln.parts, p ∈ keys dn) (ha : a ∈ ln.parts) (top : ∀ x ∈ dn, cle x.2 (vf dn a)) (p : qs'.Perm (qs ++ [(ln.user, lc dn ln)])) : Inv E LN e0 dn qs' pend where
  nd := I.nd
  just := I.just
  qjust := fun x hx => (List.mem_append.mp (p.mem_iff.mp hx)).elim (I.qjust x) fun z => by
    rw [List.mem_singleton.mp z]
    exact .inr ⟨ln, hl, rfl, hp, rfl⟩
  ends := fun b hb nb => p.mem_iff.mpr (List.mem_append_left _ (I.ends b hb nb))
  endsle := I.endsle
  lines := fun l hl2 hp2 hu => (I.lines l hl2 hp2 hu).elim (fun z => .inl (p.mem_iff.mpr (List.mem_append_left _ z))) fun z => (List.mem_cons.mp z).elim (fun e => .inl (p.mem_iff.mpr (List.mem_append_right _ (by rw [e]; exact List.mem_cons_self)))) .inr
  linesle := I.linesle
  mono := fun x hx y hy => (List.mem_append.mp (p.mem_iff.mp hy)).elim (I.mono x hx y) fun z => by
    rw [List.mem_singleton.mp z]
    exact cle_trans (top x hx) (lc_ge ha)
theorem inv_done {E : List α} {LN : List (Ln α)} {e0 : Cost} {dn : List (α × Cost)} (I : Inv E LN e0 dn [] []) : Settled E LN e0 dn where
  nd := I.nd
  just := I.just
  ends := fun a ha => by
    by_cases h : a ∈ keys dn
    · exact ⟨h, I.endsle a ha h⟩
    · exact nomatch I.ends a ha h
  lines := fun ln hl hp => by
    by_cases h : ln.user ∈ keys dn
    · exact ⟨h, I.linesle ln hl hp h⟩
    · exact (I.lines ln hl hp h).elim (fun z => nomatch z) (fun z => nomatch z)
end Kz
namespace Kb
open PySem PySem.Spec PyProof.Rows L2
/-! ### costs where they stand; with_parts -/
abbrev Cost := Kz.Cost
def coV (c : Cost) : List V := [.int (c.1 : Int), .int (c.2 : Int)]
def KTup (K : PySem.W.Frag) (a : Addr) (xs : List V) : Prop := ∃ (o : Obj) (its : Array Value) (n : Nat), K.lookup a = some o ∧ o.cls = .type "tuple" ∧ o.data = .seq its n ∧ its.size ≤ sizeLine ∧ Vals xs its.toList
def CoAt (K : PySem.W.Frag) (H : Hp) (a : Addr) (c : Cost) : Prop := H a = some (.tup (coV c)) ∨ KTup K a (coV c)
theorem CoAt.sq {K : PySem.W.Frag} {H : Hp} {a : Addr} {c : Cost} (h : CoAt K H a c) : SqT K H a (coV c) := h.elim sqT_new .inr
theorem CoAt.ts {K : PySem.W.Frag} {H H' : Hp} {a : Addr} {c : Cost} (s : TS H H') (h : CoAt K H a c) : CoAt K H' a c := h.elim (fun e => .inl (s _ _ e)) .inr
theorem CoAt.mono {K : PySem.W.Frag} {H H' : Hp} {a : Addr} {c : Cost} (s : Same H H') (h : CoAt K H a c) : CoAt K H' a c := h.ts (TS.of s)
section
variable {P : Program} {w : World} {K : PySem.W.Frag} {mg : Str → Option Value} {base : Heap}
def spWithP (K : PySem.W.Frag) : Sp := fun vs H Q _ => ∃ (b q d : Addr) (c0 : Cost) (xs : List Stg) (kvs : List (List L2.Key × V)) (f : Stg → Cost), vs = [.ref b, .ref q, .ref d] ∧ CoAt K H b c0 ∧ PtsAt H q xs ∧ Rd H d (.dT kvs) ∧ (∀ x ∈ xs, ∃ a, valV kvs (stK x) = some (.ref a) ∧ CoAt K H a (f x)) ∧ ∀ H' r, Same H H' → H r = none → H' r = some (.tup (coV (Kz.lcF f xs c0))) → Q (.ref r) H'
abbrev nWp : List Str := ["base", "parts", "costs", "first", "second", "part"]
theorem scWp : FnScope nWp ["base", "parts", "costs"] (defScope sWithParts) := ⟨rfl, rfl, rfl, by decide +kernel, rfl, by decide +kernel, by decide +kernel⟩
theorem lcF_take {f : Stg → Cost} {xs : List Stg} {i : Nat} {x : Stg} (h : xs[i]? = some x) (b : Cost) : Kz.lcF f (xs.take (i + 1)) b = Kz.cadd (Kz.lcF f (xs.take i) b) (f x) := by
  unfold Kz.lcF
  rw [take_of_get h, List.foldl_append]
  rfl
theorem ok_withp {f : Addr} {fd : FuncData} (F : Fun K "with_parts" "with_parts" sWithParts f fd) : FnOk P w K mg base CX0 1 f fd ["base", "parts", "costs"] (spWithP K) := by
  refine F.ok scWp (fun vs H Q E h => ?_) (fun cdv A outer s H vs Q E hr h => ?_)
  · obtain ⟨b, q, d, c0, xs, kvs, f, rfl, _⟩ := h
    rfl
  · obtain ⟨b, q, d, c0, xs, kvs, cf, rfl, hb, ⟨L, h1, rfl, h3⟩, hd, hv, fin⟩ := h
    refine ⟨_, pss_cons (ps_asg (pv 0) (pg_tup rfl (pgs_cons (pg_name (i := 3) scWp.nd rfl (Or.inl rfl)) (pgs_cons (pg_name (i := 4) scWp.nd rfl (Or.inl rfl)) pgs_nil))))
      (pss_cons (ps_for PassesOwn.never rfl (pi_tup (pv 1)) (pg_name (i := 5) scWp.nd rfl (Or.inl rfl))
        (pss_cons (ps_aug (i := 3) scWp.nd rfl (Or.inl rfl) (pe_ix ix_tup (pe_dget (hu_of hr) (pv 2) (pv 5) (fun _ _ => rfl)) pe_int (fun _ _ => rfl)) ip_add)
        (pss_one (ps_aug (i := 4) scWp.nd rfl (Or.inl rfl) (pe_ix ix_tup (pe_dget (hu_of hr) (pv 2) (pv 5) (fun _ _ => rfl)) pe_int (fun _ _ => rfl)) ip_add))))
      (pss_one (ps_ret (pe_tup (pa_cons (pv 3) (pa_cons (pv 4) pa_nil)))))), ?_⟩
    refine ⟨_, rfl, b, _, rfl, hb.sq, rfl, _, _, rfl, _, _, rfl, rfl, ?_⟩
    refine ⟨_, rfl, q, rfl, ⟨_, sqT_new h1⟩, ?_⟩
    refine for_it (walk_tup (K := K) (a := q) (xs := L.map fun t => V.ref t.1)) (fun i σ Z => Z = H ∧ ∃ x5 : Option V, σ = [some (.ref b), some (.ref q), some (.ref d), some (.int ((Kz.lcF cf ((L.map (·.2)).take i) c0).1 : Int)), some (.int ((Kz.lcF cf ((L.map (·.2)).take i) c0).2 : Int)), x5]) ⟨rfl, none, rfl⟩ (fun i σ Z _ h => ?_) (fun i x σ Z Z' hi h y => ?_) (fun σ Z h => ?_)
    · rw [h.1]
      exact sqT_new h1
    · obtain ⟨rfl, hy⟩ := y
      obtain ⟨t, ht, rfl⟩ := get_map hy
      obtain ⟨rfl, x5, rfl⟩ := h
      have mt := List.mem_of_getElem? ht
      have hx : (L.map (·.2))[i]? = some t.2 := by rw [List.getElem?_map, ht]; rfl
      obtain ⟨a, ha, ca⟩ := hv t.2 (List.mem_of_getElem? hx)
      have g : DGet Z' d (.ref t.1) (some (.ref a)) := .inr ⟨kvs, stK t.2, t.1, hd, rfl, h3 t mt, ha.symm⟩
      refine ⟨_, rfl, _, rfl, _, rfl, d, .ref a, rfl, g, a, _, _, .int ((cf t.2).1 : Int), rfl, rfl, ca.sq, rfl, _, _, rfl, rfl, ?_⟩
      refine ⟨_, rfl, _, rfl, _, rfl, d, .ref a, rfl, g, a, _, _, .int ((cf t.2).2 : Int), rfl, rfl, ca.sq, rfl, _, _, rfl, rfl, ?_⟩
      refine ⟨rfl, some (.ref t.1), ?_⟩
      rw [lcF_take hx]
      rfl
    · obtain ⟨rfl, x5, rfl⟩ := h
      rw [List.take_of_length_le (by rw [List.length_map, List.length_map]; exact Nat.le_refl _)]
      refine ⟨_, rfl, _, rfl, smallE (by show 2 ≤ 1000000; decide), fun r nr => ?_⟩
      exact fin _ r (same_new nr) nr upd_same
end
end Kb
namespace Kb
open PySem PySem.Spec PyProof.Rows L2
/-! ### settled: least costs by a heap -/
structure QI where
  t : Addr
  c : Addr
  s : Addr
  x : Stg × Cost
def qD (x : Stg × Cost) : PyData := .tuple [.tuple [.int (x.2.1 : Int), .int (x.2.2 : Int)], .tuple [.str x.1.1, .int (x.1.2 : Int)]]
def qZ (q : QI) : Ka.HZ := (.ref q.t, qD q.x)
def QAt (K : PySem.W.Frag) (H : Hp) (q : QI) : Prop := H q.t = some (.tup [.ref q.c, .ref q.s]) ∧ CoAt K H q.c q.x.2 ∧ H q.s = some (.tup (stV q.x.1))
theorem QAt.ts {K : PySem.W.Frag} {H H' : Hp} {q : QI} (s : TS H H') (h : QAt K H q) : QAt K H' q := ⟨s _ _ h.1, h.2.1.ts s, s _ _ h.2.2⟩
theorem qD_lt (x y : Stg × Cost) (h : PySem.W.dataLt (qD y) (qD x) = false) : Kz.cle x.2 y.2 := by
  unfold qD at h
  rw [PySem.W.dataLt_pair (by simp [PySem.W.alike, PySem.W.alikeAll]) (by simp [PySem.W.alike, PySem.W.alikeAll]), PySem.W.dataLt_ii] at h
  unfold Kz.cle
  by_cases e : PyData.eqv (.tuple [.int (y.2.1 : Int), .int (y.2.2 : Int)]) (.tuple [.int (x.2.1 : Int), .int (x.2.2 : Int)]) = true
  · simp [PyData.eqv, PyData.eqvAll] at e
    omega
  · rw [if_neg e] at h
    have h := of_decide_eq_false h
    omega
theorem hz_qs (L : List QI) : Ka.hzV (L.map qZ) = L.map fun q => V.ref q.t := by
  unfold Ka.hzV
  rw [List.map_map]
  rfl
theorem hzOk_qs {K : PySem.W.Frag} {H : Hp} {L : List QI} (h : ∀ q ∈ L, QAt K H q) : Ka.HzOk K H (L.map qZ) where
  st := fun z hz => by
    obtain ⟨q, hq, rfl⟩ := List.mem_map.mp hz
    intro H' k
    have a := (h q hq).ts k
    exact .tup (sqT_new a.1) (.cons (.tup a.2.1.sq (.cons (.int _) (.cons (.int _) .nil))) (.cons (.tup (sqT_new a.2.2) (.cons (.str _) (.cons (.int _) .nil))) .nil))
  al := fun z hz y hy => by
    obtain ⟨q, hq, rfl⟩ := List.mem_map.mp hz
    obtain ⟨r, hr, rfl⟩ := List.mem_map.mp hy
    simp [qZ, qD, PySem.W.alike, PySem.W.alikeAll]
  nn := fun z hz => by
    obtain ⟨q, hq, rfl⟩ := List.mem_map.mp hz
    exact fun e => nomatch e
  dep := fun z hz => by
    obtain ⟨q, hq, rfl⟩ := List.mem_map.mp hz
    simp [qZ, qD, PyData.depth, PyData.depthAll]
theorem perm_of_map {α β : Type} {f : α → β} {ys zs : List β} (p : ys.Perm zs) : ∀ l : List α, zs = l.map f → ∃ l' : List α, l'.Perm l ∧ ys = l'.map f := by
  induction p with
  | nil =>
    intro l e
    cases l with
    | nil => exact ⟨[], List.Perm.refl _, rfl⟩
    | cons a l => exact nomatch e
  | cons x p ih =>
    intro l e
    cases l with
    | nil => exact nomatch e
    | cons a l =>
      rw [List.map_cons] at e
      injection e with e1 e2
      obtain ⟨l', h1, h2⟩ := ih l e2
      exact ⟨a :: l', h1.cons a, by rw [List.map_cons, h2, e1]⟩
  | swap x y r =>
    intro l e
    cases l with
    | nil => exact nomatch e
    | cons a l =>
      cases l with
      | nil => exact nomatch (List.cons.inj e).2
      | cons b l =>
        rw [List.map_cons, List.map_cons] at e
        injection e with e1 e2
        injection e2 with e2 e3
        exact ⟨b :: a :: l, List.Perm.swap _ _ _, by rw [List.map_cons, List.map_cons, e1, e2, e3]⟩
  | trans p1 p2 ih1 ih2 =>
    intro l e
    obtain ⟨l2, h1, h2⟩ := ih2 l e
    obtain ⟨l3, h3, h4⟩ := ih1 l2 h2
    exact ⟨l3, h3.trans h1, h4⟩
theorem nd_le {α : Type} [DecidableEq α] : ∀ {l m : List α}, l.Nodup → (∀ x ∈ l, x ∈ m) → l.length ≤ m.length
  | [], _, _, _ => Nat.zero_le _
  | x :: l, m, nd, h => by
    rw [List.nodup_cons] at nd
    have ih := nd_le (m := m.erase x) nd.2 fun y hy => (List.mem_erase_of_ne (fun e => nd.1 (by rw [← e]; exact hy))).mpr (h y (List.mem_cons_of_mem _ hy))
    have := List.length_erase_of_mem (h x List.mem_cons_self)
    have := List.length_pos_of_mem (h x List.mem_cons_self)
    rw [List.length_cons]
    omega
/-- what may still be pushed -/
def remM : List ME → List Stg → Nat
  | [], _ => 0
  | t :: M, ks => (if t.1 ∈ ks then 0 else t.2.2.length) + remM M ks
theorem remM_mono : ∀ (M : List ME) (ks r : List Stg), remM M (ks ++ r) ≤ remM M ks
  | [], _, _ => Nat.le_refl _
  | t :: M, ks, r => by
    have ih := remM_mono M ks r
    unfold remM
    by_cases h : t.1 ∈ ks
    · rw [if_pos h, if_pos (List.mem_append_left _ h)]
      omega
    · rw [if_neg h]
      by_cases h2 : t.1 ∈ ks ++ r
      · rw [if_pos h2]
        omega
      · rw [if_neg h2]
        omega
theorem remM_take : ∀ {M : List ME} {ks : List Stg} {t : ME}, t ∈ M → t.1 ∉ ks → remM M (ks ++ [t.1]) + t.2.2.length ≤ remM M ks
  | [], _, _, h, _ => nomatch h
  | u :: M, ks, t, h, hn => by
    rcases List.mem_cons.mp h with e | h
    · rw [← e]
      have := remM_mono M ks [t.1]
      unfold remM
      rw [if_neg hn, if_pos (by simp)]
      omega
    · have ih := remM_take h hn
      unfold remM
      by_cases h1 : u.1 ∈ ks
      · rw [if_pos h1, if_pos (List.mem_append_left _ h1)]
        omega
      · rw [if_neg h1]
        split <;> omega
theorem remM_le : ∀ (M : List ME) (ks : List Stg), (∀ t ∈ M, t.2.2.length ≤ 16000) → remM M ks ≤ 16000 * M.length
  | [], _, _ => Nat.zero_le _
  | t :: M, ks, h => by
    have ih := remM_le M ks fun u hu => h u (List.mem_cons_of_mem _ hu)
    have := h t List.mem_cons_self
    unfold remM
    rw [List.length_cons]
    split <;> omega
/-- the lines with their costs -/
def lnOf (c1 : Cost) (df : Str → Cost) (l : LN) : Kz.Ln Stg := ⟨(l.1, l.2.n), partsS l.1 l.2, if l.2.call = true then c1 else df l.2.nm⟩
def linesK (c1 : Cost) (df : Str → Cost) (cs : List CA) : List (Kz.Ln Stg) := (linesS cs).map (lnOf c1 df)
def endsS (cs : List CA) : List Stg := cs.flatMap fun c => c.es.map fun e => (c.nm, e)
theorem mem_endsS {cs : List CA} {x : Stg} : x ∈ endsS cs ↔ ∃ c ∈ cs, x.1 = c.nm ∧ x.2 ∈ c.es := by
  unfold endsS
  rw [List.mem_flatMap]
  constructor
  · rintro ⟨c, h, h2⟩
    obtain ⟨k, hk, rfl⟩ := List.mem_map.mp h2
    exact ⟨c, h, rfl, hk⟩
  · rintro ⟨c, h, e, hk⟩
    exact ⟨c, h, List.mem_map.mpr ⟨x.2, hk, by rw [← e]⟩⟩
theorem ends_stages {cs : List CA} (ok : CsOk cs) {x : Stg} (h : x ∈ endsS cs) : x ∈ stagesS cs := by
  obtain ⟨c, h1, h2, h3⟩ := mem_endsS.mp h
  exact mem_stagesS.mpr ⟨c, h1, h2, (ok.ok c h1).el _ h3⟩
theorem partsS_ne (nm : Str) (s : Stp) : partsS nm s ≠ [] := by
  unfold partsS
  split <;> simp
/-- the done stages where they stand -/
def doneKV (T : List (Addr × (Stg × Cost))) : List (List L2.Key × V) := T.map fun t => (stK t.2.1, V.ref t.1)
def DoneAt (K : PySem.W.Frag) (H : Hp) (q : Addr) (dn : List (Stg × Cost)) : Prop := ∃ T : List (Addr × (Stg × Cost)), H q = some (.dT (doneKV T)) ∧ T.map (·.2) = dn ∧ ∀ t ∈ T, CoAt K H t.1 t.2.2
theorem DoneAt.mono {K : PySem.W.Frag} {H H' : Hp} {q : Addr} {dn : List (Stg × Cost)} (s : Same H H') (h : DoneAt K H q dn) : DoneAt K H' q dn := by
  obtain ⟨T, h1, h2, h3⟩ := h
  exact ⟨T, s _ _ h1, h2, fun t ht => (h3 t ht).mono s⟩
theorem done_keys (T : List (Addr × (Stg × Cost))) : (doneKV T).map (·.1) = (Kz.keys (T.map (·.2))).map stK := by
  unfold doneKV Kz.keys
  rw [List.map_map, List.map_map, List.map_map]
  rfl
theorem done_some (T : List (Addr × (Stg × Cost))) (x : Stg) : (valV (doneKV T) (stK x)).isSome = decide (x ∈ Kz.keys (T.map (·.2))) := by
  rw [valV_has, done_keys]
  refine decide_eq_decide.mpr ⟨fun h => ?_, fun h => List.mem_map.mpr ⟨x, h, rfl⟩⟩
  obtain ⟨y, hy, e⟩ := List.mem_map.mp h
  rw [← stK_inj e]
  exact hy
theorem done_val {T : List (Addr × (Stg × Cost))} (nd : (Kz.keys (T.map (·.2))).Nodup) {x : Stg} (h : x ∈ Kz.keys (T.map (·.2))) : ∃ t ∈ T, t.2 = (x, Kz.vf (T.map (·.2)) x) ∧ valV (doneKV T) (stK x) = some (.ref t.1) := by
  obtain ⟨t, ht, e⟩ := List.mem_map.mp (Kz.mem_vf h)
  refine ⟨t, ht, e, valV_mem ?_ (List.mem_map.mpr ⟨t, ht, by rw [e]⟩)⟩
  rw [done_keys]
  exact stK_nd nd
section
variable {P : Program} {w : World} {K : PySem.W.Frag} {mg : Str → Option Value} {base : Heap}
def spSettled (K : PySem.W.Frag) (C : Addr) : Sp := fun vs H Q _ => ∃ (p a eA dA cA : Addr) (cs : List CA) (e0 c1 : Cost) (dk : List (L2.Key × V)) (df : Str → Cost), vs = [.ref p, .ref eA, .ref dA, .ref cA] ∧ BookAt K C H p a cs ∧ CoAt K H eA e0 ∧ H dA = some (.dK dk) ∧ CoAt K H cA c1 ∧ (∀ l ∈ linesS cs, l.2.call = false → ∃ q, valV dk (Sum.inr l.2.nm) = some (.ref q) ∧ CoAt K H q (df l.2.nm)) ∧
  ∀ H' q dn, Same H H' → H q = none → DoneAt K H' q dn → Kz.Settled (endsS cs) (linesK c1 df cs) e0 dn → (∀ x ∈ Kz.keys dn, x ∈ stagesS cs) → Q (.ref q) H'
abbrev nSe : List Str := ["book", "end", "deed_costs", "call", "into", "done", "queue", "stage", "cost", "user", "step", "parts", "base"]
theorem scSe : FnScope nSe ["book", "end", "deed_costs", "call"] (defScope sSettled) := ⟨rfl, rfl, rfl, by decide +kernel, rfl, by decide +kernel, by decide +kernel⟩
theorem ok_settled {f C fI fT fE fA fW : Addr} {fd fdI fdT fdE fdA fdW : FuncData} (F : Fun K "settled" "settled" sSettled f fd) (B : BkC K mg C) (g_heappush : mg "heappush" = some (.builtin "_heapq.heappush")) (g_heappop : mg "heappop" = some (.builtin "_heapq.heappop")) (G_steps_into : FnOk P w K mg base CX0 2 fI fdI ["book"] (spInto K C)) (C_steps_into : CallC K mg "steps_into" ["book"] fI fdI)
    (GM_stages : FnOk P w K mg base CX0 1 fT fdT ["self"] (spBkStages K C)) (bM_stages : Binds K fdT ["self"] []) (m_stages : Meth K C "stages" fT) (GM_is_end : FnOk P w K mg base CX0 1 fE fdE ["self", "stage"] (spBkIsEnd K C)) (bM_is_end : Binds K fdE ["self", "stage"] []) (m_is_end : Meth K C "is_end" fE)
    (G_all_in : FnOk P w K mg base CX0 1 fA fdA ["parts", "table"] (spAllIn K)) (C_all_in : CallC K mg "all_in" ["parts", "table"] fA fdA) (G_with_parts : FnOk P w K mg base CX0 1 fW fdW ["base", "parts", "costs"] (spWithP K)) (C_with_parts : CallC K mg "with_parts" ["base", "parts", "costs"] fW fdW) : FnOk P w K mg base CX0 3 f fd ["book", "end", "deed_costs", "call"] (spSettled K C) := by
  refine F.ok scSe (fun vs H Q E h => ?_) (fun cdv A outer s H vs Q E hr h => ?_)
  · obtain ⟨p, a, eA, dA, cA, cs, e0, c1, dk, df, rfl, _⟩ := h
    rfl
  · obtain ⟨p, a, eA, dA, cA, cs, e0, c1, dk, df, rfl, hB, hE, hD, hCc, hdf, q⟩ := h
    refine ⟨_, pss_cons (ps_set (i := 4) scSe.nd rfl (Or.inl rfl) (pe_call G_steps_into (hr.mono (by decide)) (by rfl) C_steps_into.g C_steps_into.kp C_steps_into.b .nil pass0 (pa_cons (pv 0) pa_nil)))
      (pss_cons (ps_set (i := 5) scSe.nd rfl (Or.inl rfl) pe_dnewT)
      (pss_cons (ps_set (i := 6) scSe.nd rfl (Or.inl rfl) (pe_lst pa_nil))
      (pss_cons (ps_for PassesOwn.never rfl (pi_tup (pe_meth0 (pv 0) B.cl m_stages GM_stages (hr.mono (by decide)) bM_stages .nil pass0)) (pg_name (i := 7) scSe.nd rfl (Or.inl rfl))
        (pss_one (ps_if (pt_val (pe_meth (pv 0) B.cl m_is_end GM_is_end (hr.mono (by decide)) bM_is_end .nil pass0 (pa_cons (pv 7) pa_nil))) (pss_one (ps_expr (pe_callBfun (Ka.cr_push hr.units) (by rfl) g_heappush (pa_cons (pv 6) (pa_cons (pe_tup (pa_cons (pv 1) (pa_cons (pv 7) pa_nil))) pa_nil))))) pss_nil)))
      (pss_cons (ps_while PassesOwn.never (pt_truth (pv 6) (by intro _; rfl))
        (pss_cons (ps_asg (pe_callBfun (Ka.cr_pop hr.units) (by rfl) g_heappop (pa_cons (pv 6) pa_nil)) (pg_tup rfl (pgs_cons (pg_name (i := 8) scSe.nd rfl (Or.inl rfl)) (pgs_cons (pg_name (i := 7) scSe.nd rfl (Or.inl rfl)) pgs_nil))))
        (pss_cons (ps_if (pt_cmp (pc_din (hu_of hr) (pv 7) (pv 5))) (pss_one ps_continue) pss_nil)
        (pss_cons (ps_dput (hu_of hr) (pv 5) (pv 7) (pv 8) rfl)
        (pss_one (ps_for PassesOwn.never rfl (pi_list (pe_dget (hu_of hr) (pv 4) (pv 7) (fun _ _ => rfl))) (pg_tup rfl (pgs_cons (pg_name (i := 9) scSe.nd rfl (Or.inl rfl)) (pgs_cons (pg_name (i := 10) scSe.nd rfl (Or.inl rfl)) (pgs_cons (pg_name (i := 11) scSe.nd rfl (Or.inl rfl)) pgs_nil))))
          (pss_one (ps_if (PW.pt (pw_and (pt_cmp (pc_dnotin (hu_of hr) (pv 9) (pv 5))) (pw_and1 (pt_val (pe_call G_all_in (hr.mono (by decide)) (by rfl) C_all_in.g C_all_in.kp C_all_in.b .nil pass0 (pa_cons (pv 11) (pa_cons (pv 5) pa_nil))))))) (pss_cons (ps_set (i := 12) scSe.nd rfl (Or.inl rfl) (pe_ifExp (pt_cmpR op_eq (pe_ix ix_tup (pv 10) pe_int (fun _ _ => rfl)) pe_str (nomark _)) (pv 3) (pe_dget (hu_of hr) (pv 2) (pe_ix ix_tup (pv 10) pe_int (fun _ _ => rfl)) (fun _ _ => rfl))))
            (pss_one (ps_expr (pe_callBfun (Ka.cr_push hr.units) (by rfl) g_heappush (pa_cons (pv 6) (pa_cons (pe_tup (pa_cons (pe_call G_with_parts (hr.mono (by decide)) (by rfl) C_with_parts.g C_with_parts.kp C_with_parts.b .nil pass0 (pa_cons (pv 12) (pa_cons (pv 11) (pa_cons (pv 5) pa_nil)))) (pa_cons (pv 9) pa_nil))) pa_nil)))))) pss_nil))))))))
      (pss_one (ps_ret (pv 5))))))), ?_⟩
    obtain ⟨dx, fs, P1, S1, E1, L1, S, hp, L, hC, ok, _⟩ := id hB
    have st60 := ok.st
    have sN := stagesS_nd ok.nd
    have sL := stagesS_len cs
    refine ⟨_, rfl, p, a, cs, rfl, hB, fun H1 ia s1 nia hI => ?_⟩
    intro D nD
    refine ⟨smallE (by show 0 ≤ 1000000; decide), fun qq nqq => ?_⟩
    have sD := same_new (o := .dT []) nD
    have eD : upd H1 D (.dT []) D = some (.dT []) := upd_same
    generalize hHD : upd H1 D (.dT []) = HD at sD eD nqq
    have sQ := same_new (o := .lst []) nqq
    have eQ : upd HD qq (.lst []) qq = some (.lst []) := upd_same
    have nqqD : qq ≠ D := fun z => by
      rw [z, eD] at nqq
      cases nqq
    have nqq1 := sD.free nqq
    have eD := sQ _ _ eD
    have s2 := sD.trans sQ
    generalize hH2 : upd HD qq (.lst []) = H2 at sQ eQ eD s2
    obtain ⟨M, j1, i2, j3, j4⟩ := id hI
    have i1 := s2 _ _ j1
    have i3 : ∀ t ∈ M, H2 t.2.1 = some (.lst (t.2.2.map fun x => V.ref x.e)) ∧ t.2.2.length ≤ 16000 := fun t ht => ⟨s2 _ _ (j3 t ht).1, (j3 t ht).2⟩
    have i4 := j4.keep (fun c xs e => s2 _ _ e)
    have sH2 := s1.trans s2
    have nDH := s1.free nD
    have lM : M.length ≤ 60 := by
      have := congrArg List.length i2
      rw [List.length_map] at this
      omega
    have rM := remM_le M [] fun t ht => (i3 t ht).2
    -- the ends
    refine ⟨_, rfl, p, dx, fs, rfl, sH2 _ _ hp, L.no _ (by decide +kernel), p, a, cs, rfl, hB.mono sH2, fun q1 hq1 => ?_⟩
    obtain ⟨SL, e1, e2, e3⟩ := hq1
    have lSL : SL.length ≤ 60 := by
      have := congrArg List.length e2
      rw [List.length_map] at this
      omega
    -- what stands: all of H2 but D and qq
    have KS : ∀ {Z : Hp}, (∀ c o, c ≠ D → c ≠ qq → H2 c = some o → Z c = some o) → Same H1 Z := fun k c o e => k c o (ne_of_none e nD) (ne_of_none e nqq1) (s2 _ _ e)
    refine ⟨q1, rfl, ⟨_, sqT_new e1⟩, ?_⟩
    have kT : ∀ {Z : Hp} {c : Addr} {xs : List V}, (∀ c o, c ≠ D → c ≠ qq → H2 c = some o → Z c = some o) → H2 c = some (.tup xs) → Z c = some (.tup xs) := fun {Z c xs} k e => k c _ (fun z => by rw [z, eD] at e; cases e) (fun z => by rw [z, eQ] at e; cases e) e
    refine for_it (walk_tup (K := K) (a := q1) (xs := SL.map fun t => V.ref t.1)) (fun i σ Z => ∃ (x7 : Option V) (L : List QI), σ = [some (.ref p), some (.ref eA), some (.ref dA), some (.ref cA), some (.ref ia), some (.ref D), some (.ref qq), x7, none, none, none, none, none] ∧ (∀ c o, c ≠ D → c ≠ qq → H2 c = some o → Z c = some o) ∧ Z D = some (.dT []) ∧ Z qq = some (.lst (L.map fun q => V.ref q.t)) ∧ (∀ q ∈ L, QAt K Z q) ∧ Kp.IsHeap Ka.hzLt (L.map qZ) ∧ L.length ≤ i ∧ (∀ x ∈ (stagesS cs).take i, x ∈ endsS cs → (x, e0) ∈ L.map (·.x)) ∧ ∀ x ∈ L.map (·.x), x.1 ∈ endsS cs ∧ x.2 = e0)
      ⟨none, [], rfl, (fun _ _ _ _ e => e), eD, eQ, (fun q hq => nomatch hq), Kp.heap_nil, Nat.le_refl _, (fun x hx => by rw [List.take_zero] at hx; exact nomatch hx), fun x hx => nomatch hx⟩ (fun i σ Z _ h => ?_) (fun i x σ Z Z' hi h y => ?_) (fun σ Z h => ?_)
    · obtain ⟨_, _, _, k, _⟩ := h
      exact sqT_new (kT k e1)
    · obtain ⟨rfl, hy⟩ := y
      obtain ⟨t, ht, rfl⟩ := get_map hy
      obtain ⟨x7, L7, rfl, k, zD, zQ, at7, hp7, len7, full7, only7⟩ := h
      have mt := List.mem_of_getElem? ht
      have hst : (stagesS cs)[i]? = some t.2 := by rw [← e2, List.getElem?_map, ht]; rfl
      have mst : t.2 ∈ stagesS cs := List.mem_of_getElem? hst
      obtain ⟨c, mc, n1, n2⟩ := mem_stagesS.mp mst
      have sZ := s1.trans (KS k)
      have eT := kT k (e3 t mt)
      have ex : t.2 = (c.nm, t.2.2) := by rw [← n1]
      refine ⟨_, rfl, p, dx, fs, rfl, sZ _ _ hp, L.no _ (by decide +kernel), _, rfl, p, a, t.1, cs, c, t.2.2, rfl, hB.mono sZ, mc, by rw [eT, ← ex], ?_⟩
      have hend : t.2.2 ∈ c.es ↔ t.2 ∈ endsS cs := by
        rw [mem_endsS]
        refine ⟨fun h => ⟨c, mc, n1, h⟩, fun ⟨c', h1, h2, h3⟩ => ?_⟩
        rwa [same_course ok.nd mc h1 (by rw [← n1, h2])]
      refine ⟨_, rfl, ite2 (fun c0 => ?_) (fun c0 => ?_)⟩
      · have he := hend.mp (of_decide_eq_true c0)
        refine ⟨_, rfl, _, rfl, _, rfl, smallE (by show 2 ≤ 1000000; decide), fun u nu => ?_⟩
        have su := same_new (o := .tup [V.ref eA, V.ref t.1]) nu
        have eu : upd Z' u (.tup [V.ref eA, V.ref t.1]) u = some (.tup [V.ref eA, V.ref t.1]) := upd_same
        have at8 : ∀ q ∈ L7 ++ [QI.mk u eA t.1 (t.2, e0)], QAt K (upd Z' u (.tup [V.ref eA, V.ref t.1])) q := fun q hq => by
          rcases List.mem_append.mp hq with z | z
          · exact (at7 q z).ts (TS.of su)
          · rw [List.mem_singleton.mp z]
            exact ⟨eu, (hE.mono sZ).mono su, su _ _ eT⟩
        have zD := su _ _ zD
        have zQ := su _ _ zQ
        have k := fun c o h1 h2 e => su _ _ (k c o h1 h2 e)
        generalize upd Z' u (.tup [V.ref eA, V.ref t.1]) = Z1 at su eu at8 zD zQ k
        have hiS : i < SL.length := lt_of_get ht
        refine ⟨qq, qZ ⟨u, eA, t.1, (t.2, e0)⟩, L7.map qZ, rfl, by rw [hz_qs]; exact zQ, ?_, by rw [List.length_map]; omega, hp7, fun ys pm hh => ?_⟩
        · have := hzOk_qs at8
          rwa [List.map_append] at this
        · have e9 : L7.map qZ ++ [qZ ⟨u, eA, t.1, (t.2, e0)⟩] = (L7 ++ [QI.mk u eA t.1 (t.2, e0)]).map qZ := by rw [List.map_append]; rfl
          obtain ⟨L8, pm8, rfl⟩ := perm_of_map pm _ e9
          rw [hz_qs]
          have tk : TS Z1 (upd Z1 qq (.lst (L8.map fun q => V.ref q.t))) := fun c xs e => by
            rw [upd_ne]
            · exact e
            · intro z
              rw [z, zQ] at e
              cases e
          refine ⟨some (.ref t.1), L8, rfl, fun c o h1 h2 e => ?_, ?_, upd_same, fun q hq => (at8 q (pm8.mem_iff.mp hq)).ts tk, hh, ?_, fun x hx he2 => ?_, fun x hx => ?_⟩
          · rw [upd_ne h2]
            exact k c o h1 h2 e
          · rw [upd_ne nqqD.symm]
            exact zD
          · rw [pm8.length_eq, List.length_append, List.length_singleton]
            omega
          · rw [(pm8.map (·.x)).mem_iff, List.map_append]
            rw [take_of_get hst] at hx
            rcases List.mem_append.mp hx with z | z
            · exact List.mem_append_left _ (full7 x z he2)
            · rw [List.mem_singleton.mp z]
              exact List.mem_append_right _ List.mem_cons_self
          · rw [(pm8.map (·.x)).mem_iff, List.map_append] at hx
            rcases List.mem_append.mp hx with z | z
            · exact only7 x z
            · have z : x ∈ [(t.2, e0)] := z
              rw [List.mem_singleton.mp z]
              exact ⟨he, rfl⟩
      · have he : t.2 ∉ endsS cs := fun z => c0 (decide_eq_true (hend.mpr z))
        refine ⟨some (.ref t.1), L7, rfl, k, zD, zQ, at7, hp7, by omega, fun x hx he2 => ?_, only7⟩
        rw [take_of_get hst] at hx
        rcases List.mem_append.mp hx with z | z
        · exact full7 x z he2
        · rw [List.mem_singleton.mp z] at he2
          exact absurd he2 he
    · obtain ⟨x7, L7, rfl, k, zD, zQ, at7, hp7, len7, full7, only7⟩ := h
      have hlen : (SL.map fun t => V.ref t.1).length = (stagesS cs).length := by rw [List.length_map, ← e2, List.length_map]
      rw [hlen] at len7 full7
      rw [List.take_length] at full7
      -- the search
      have iv0 : Kz.Inv (endsS cs) (linesK c1 df cs) e0 [] (L7.map (·.x)) [] := Kz.inv_start (fun ln hl => by
        obtain ⟨l, hl, rfl⟩ := List.mem_map.mp hl
        exact partsS_ne _ _) (fun x hx => full7 x (ends_stages ok hx) hx) only7
      refine ⟨fun m σ Z => ∃ (x7 x8 x9 x10 x11 x12 : Option V) (L : List QI) (T : List (Addr × (Stg × Cost))), σ = [some (.ref p), some (.ref eA), some (.ref dA), some (.ref cA), some (.ref ia), some (.ref D), some (.ref qq), x7, x8, x9, x10, x11, x12] ∧ (∀ c o, c ≠ D → c ≠ qq → H2 c = some o → Z c = some o) ∧ Z D = some (.dT (doneKV T)) ∧ Z qq = some (.lst (L.map fun q => V.ref q.t)) ∧ (∀ q ∈ L, QAt K Z q ∧ q.x.1 ∈ stagesS cs) ∧ (∀ t ∈ T, CoAt K Z t.1 t.2.2 ∧ t.2.1 ∈ stagesS cs) ∧ Kp.IsHeap Ka.hzLt (L.map qZ) ∧ Kz.Inv (endsS cs) (linesK c1 df cs) e0 (T.map (·.2)) (L.map (·.x)) [] ∧ m = L.length + remM M (Kz.keys (T.map (·.2))) ∧ m ≤ 970000, ⟨_, x7, none, none, none, none, none, L7, [], rfl, k, zD, zQ, fun q hq => ⟨at7 q hq, ends_stages ok (only7 _ (List.mem_map.mpr ⟨q, hq, rfl⟩)).1⟩, (fun t ht => nomatch ht), hp7, iv0, rfl, ?_⟩, fun m σ Z h => ?_⟩
      · show L7.length + remM M [] ≤ 970000
        omega
      · obtain ⟨x7, x8, x9, x10, x11, x12, L3, T, rfl, k, zD, zQ, at3, co3, hp3, iv, em, lm⟩ := h
        refine ⟨_, rfl, !(L3.map fun q => V.ref q.t).isEmpty, .inl ⟨_, sqL_new zQ, rfl⟩, ?_⟩
        have hT60 : T.length ≤ 60 := by
          have h1 : (Kz.keys (T.map (·.2))).length = T.length := by unfold Kz.keys; rw [List.length_map, List.length_map]
          have := nd_le iv.nd (m := stagesS cs) fun x hx => by
            obtain ⟨y, hy, rfl⟩ := List.mem_map.mp hx
            obtain ⟨t, ht, rfl⟩ := List.mem_map.mp hy
            exact (co3 t ht).2
          omega
        generalize hL : L3 = L30
        cases L30 with
        | nil =>
          refine iteNo rfl ?_
          rw [hL] at iv
          have sZ := s1.trans (KS k)
          refine ⟨_, rfl, q Z D (T.map (·.2)) sZ nDH ⟨T, zD, rfl, fun t ht => (co3 t ht).1⟩ (Kz.inv_done iv) fun x hx => ?_⟩
          obtain ⟨y, hy, rfl⟩ := List.mem_map.mp hx
          obtain ⟨t, ht, rfl⟩ := List.mem_map.mp hy
          exact (co3 t ht).2
        | cons q0 L0 =>
          rw [← hL]
          refine iteYes (by rw [hL]; rfl) ?_
          have pos : 0 < (L3.map qZ).length := by rw [List.length_map, hL]; exact Nat.succ_pos _
          refine ⟨fun σ' H' => ∃ m', m' < m ∧ ∃ (x7 x8 x9 x10 x11 x12 : Option V) (L : List QI) (T : List (Addr × (Stg × Cost))), σ' = [some (.ref p), some (.ref eA), some (.ref dA), some (.ref cA), some (.ref ia), some (.ref D), some (.ref qq), x7, x8, x9, x10, x11, x12] ∧ (∀ c o, c ≠ D → c ≠ qq → H2 c = some o → H' c = some o) ∧ H' D = some (.dT (doneKV T)) ∧ H' qq = some (.lst (L.map fun q => V.ref q.t)) ∧ (∀ q ∈ L, QAt K H' q ∧ q.x.1 ∈ stagesS cs) ∧ (∀ t ∈ T, CoAt K H' t.1 t.2.2 ∧ t.2.1 ∈ stagesS cs) ∧ Kp.IsHeap Ka.hzLt (L.map qZ) ∧ Kz.Inv (endsS cs) (linesK c1 df cs) e0 (T.map (·.2)) (L.map (·.x)) [] ∧ m' = L.length + remM M (Kz.keys (T.map (·.2))) ∧ m' ≤ 970000, fun σ' H' h => h, ?_⟩
          refine ⟨_, rfl, qq, L3.map qZ, rfl, by rw [hz_qs]; exact zQ, hzOk_qs fun q hq => (at3 q hq).1, pos, hp3, fun z ys pm hh least => ?_⟩
          obtain ⟨L4, pm4, e4⟩ := perm_of_map pm.symm L3 rfl
          cases L4 with
          | nil => exact nomatch e4
          | cons q4 L4 =>
          rw [List.map_cons] at e4
          injection e4 with e5 e6
          subst e5 e6
          rw [hz_qs]
          have m4 : q4 ∈ L3 := pm4.mem_iff.mp List.mem_cons_self
          have sub4 : ∀ {q}, q ∈ L4 → q ∈ L3 := fun h => pm4.mem_iff.mp (List.mem_cons_of_mem _ h)
          have l4 : L3.length = L4.length + 1 := by rw [← pm4.length_eq, List.length_cons]
          obtain ⟨a1, a2, a3⟩ := (at3 q4 m4).1
          have tk : TS Z (upd Z qq (.lst (L4.map fun q => V.ref q.t))) := fun c xs e => by
            rw [upd_ne]
            · exact e
            · intro z
              rw [z, zQ] at e
              cases e
          have at4 : ∀ q ∈ L4, QAt K (upd Z qq (.lst (L4.map fun q => V.ref q.t))) q ∧ q.x.1 ∈ stagesS cs := fun q hq => ⟨(at3 q (sub4 hq)).1.ts tk, (at3 q (sub4 hq)).2⟩
          have co4 : ∀ t ∈ T, CoAt K (upd Z qq (.lst (L4.map fun q => V.ref q.t))) t.1 t.2.2 ∧ t.2.1 ∈ stagesS cs := fun t ht => ⟨(co3 t ht).1.ts tk, (co3 t ht).2⟩
          have zD : upd Z qq (.lst (L4.map fun q => V.ref q.t)) D = some (.dT (doneKV T)) := by
            rw [upd_ne nqqD.symm]
            exact zD
          have zQ2 : upd Z qq (.lst (L4.map fun q => V.ref q.t)) qq = some (.lst (L4.map fun q => V.ref q.t)) := upd_same
          have k : ∀ c o, c ≠ D → c ≠ qq → H2 c = some o → upd Z qq (.lst (L4.map fun q => V.ref q.t)) c = some o := fun c o h1 h2 e => by
            rw [upd_ne h2]
            exact k c o h1 h2 e
          have a1 := tk _ _ a1
          have a2 := a2.ts tk
          have a3 := tk _ _ a3
          generalize upd Z qq (.lst (L4.map fun q => V.ref q.t)) = Z4 at at4 co4 zD zQ2 k a1 a2 a3
          refine ⟨q4.t, _, rfl, sqT_new a1, rfl, _, _, rfl, _, _, rfl, rfl, ?_⟩
          have pmx : (L3.map (·.x)).Perm ((q4.x.1, q4.x.2) :: L4.map (·.x)) := (pm4.map (·.x)).symm
          refine ⟨_, rfl, _, rfl, D, _, rfl, DGet.t zD (k := stK q4.x.1) a3, ?_⟩
          dsimp only
          rw [done_some]
          by_cases hin : q4.x.1 ∈ Kz.keys (T.map (·.2))
          · rw [decide_eq_true hin]
            refine ⟨_, rfl, iteT ?_⟩
            exact ⟨m - 1, by omega, _, _, _, _, _, _, L4, T, rfl, k, zD, zQ2, at4, co4, hh, Kz.inv_skip iv pmx hin, by omega, by omega⟩
          · rw [decide_eq_false hin]
            refine ⟨_, rfl, iteF ?_⟩
            have lkv : (doneKV T).length < sizeLine := small (by unfold doneKV; rw [List.length_map]; omega)
            refine ⟨_, rfl, _, rfl, _, rfl, D, _, rfl, DPut.t zD (k := stK q4.x.1) a3 lkv, ?_⟩
            have hput : putK (doneKV T) (stK q4.x.1) (.ref q4.c) = doneKV (T ++ [(q4.c, q4.x)]) := by
              rw [putK_new]
              · unfold doneKV
                rw [List.map_append]
                rfl
              · rw [done_keys]
                intro z
                obtain ⟨y, hy, e⟩ := List.mem_map.mp z
                exact hin (by rw [← stK_inj e]; exact hy)
            rw [hput]
            have tk5 : TS Z4 (upd Z4 D (.dT (doneKV (T ++ [(q4.c, q4.x)])))) := fun c xs e => by
              rw [upd_ne]
              · exact e
              · intro z
                rw [z, zD] at e
                cases e
            have at5 : ∀ q ∈ L4, QAt K (upd Z4 D (.dT (doneKV (T ++ [(q4.c, q4.x)])))) q ∧ q.x.1 ∈ stagesS cs := fun q hq => ⟨(at4 q hq).1.ts tk5, (at4 q hq).2⟩
            have co5 : ∀ t ∈ T ++ [(q4.c, q4.x)], CoAt K (upd Z4 D (.dT (doneKV (T ++ [(q4.c, q4.x)])))) t.1 t.2.2 ∧ t.2.1 ∈ stagesS cs := fun t ht => by
              rcases List.mem_append.mp ht with z | z
              · exact ⟨(co4 t z).1.ts tk5, (co4 t z).2⟩
              · rw [List.mem_singleton.mp z]
                exact ⟨a2.ts tk5, (at3 q4 m4).2⟩
            have zD5 : upd Z4 D (.dT (doneKV (T ++ [(q4.c, q4.x)]))) D = some (.dT (doneKV (T ++ [(q4.c, q4.x)]))) := upd_same
            have zQ5 : upd Z4 D (.dT (doneKV (T ++ [(q4.c, q4.x)]))) qq = some (.lst (L4.map fun q => V.ref q.t)) := by
              rw [upd_ne nqqD]
              exact zQ2
            have k5 : ∀ c o, c ≠ D → c ≠ qq → H2 c = some o → upd Z4 D (.dT (doneKV (T ++ [(q4.c, q4.x)]))) c = some o := fun c o h1 h2 e => by
              rw [upd_ne h1]
              exact k c o h1 h2 e
            have a3 := tk5 _ _ a3
            generalize upd Z4 D (.dT (doneKV (T ++ [(q4.c, q4.x)]))) = Z5 at at5 co5 zD5 zQ5 k5 a3
            have mst : q4.x.1 ∈ stagesS cs := (at3 q4 m4).2
            rw [← i2] at mst
            obtain ⟨t, ht, et⟩ := List.mem_map.mp mst
            have htr : (stK t.1, t.2.1, t.2.2.map fun x => V.ref x.e) ∈ trM M := List.mem_map.mpr ⟨t, ht, rfl⟩
            have kn : ((trM M).map (·.1)).Nodup := by
              rw [trM_keys, i2]
              exact stK_nd sN
            have hv : valV (kvT (trM M)) (stK q4.x.1) = some (.ref t.2.1) := valV_mem (by rw [kvT_keys]; exact kn) (List.mem_map.mpr ⟨_, htr, by rw [et]⟩)
            have nia : ∀ {Z : Hp}, (∀ c o, c ≠ D → c ≠ qq → H2 c = some o → Z c = some o) → Z ia = some (.dT (kvT (trM M))) := fun {Z} k => k _ _ (ne_of_none j1 nD) (ne_of_none j1 nqq1) i1
            have nls : ∀ {Z : Hp}, (∀ c o, c ≠ D → c ≠ qq → H2 c = some o → Z c = some o) → Z t.2.1 = some (.lst (t.2.2.map fun x => V.ref x.e)) := fun {Z} k => k _ _ (ne_of_none (j3 t ht).1 nD) (ne_of_none (j3 t ht).1 nqq1) (i3 t ht).1
            have liv := Kz.inv_take (pend := (t.2.2.map fun x => lnOf c1 df (x.nm, x.s))) iv pmx hin (fun y hy => by
              obtain ⟨q, hq, rfl⟩ := List.mem_map.mp hy
              exact qD_lt q4.x q.x (least (qZ q) (List.mem_map.mpr ⟨q, hq, rfl⟩))) (fun ln hl hpn => by
              obtain ⟨l, hl2, rfl⟩ := List.mem_map.mp hl
              obtain ⟨x, hx, e⟩ := i4.full t ht l ⟨hl2, by rw [et]; exact hpn⟩
              exact List.mem_map.mpr ⟨x, hx, by rw [e]⟩)
            have hrem := remM_take ht (ks := Kz.keys (T.map (·.2))) (by rw [et]; exact hin)
            have ekeys : Kz.keys ((T ++ [(q4.c, q4.x)]).map (·.2)) = Kz.keys (T.map (·.2)) ++ [t.1] := by
              rw [List.map_append, Kz.keys_app, et]
              rfl
            have edn : (T ++ [(q4.c, q4.x)]).map (·.2) = T.map (·.2) ++ [(q4.x.1, q4.x.2)] := by rw [List.map_append]; rfl
            rw [← edn] at liv
            have top : ∀ x ∈ (T ++ [(q4.c, q4.x)]).map (·.2), Kz.cle x.2 (Kz.vf ((T ++ [(q4.c, q4.x)]).map (·.2)) t.1) := fun x hx => by
              have e1 : Kz.vf ((T ++ [(q4.c, q4.x)]).map (·.2)) t.1 = q4.x.2 := by
                rw [edn, et, Kz.vf_new hin]
              rw [e1]
              rw [edn] at hx
              rcases List.mem_append.mp hx with z | z
              · exact iv.mono x z q4.x (pmx.mem_iff.mpr List.mem_cons_self)
              · rw [List.mem_singleton.mp z]
                exact Kz.cle_refl _
            generalize hT5 : T ++ [(q4.c, q4.x)] = T5 at co5 zD5 liv ekeys top
            have hT5l : T5.length ≤ 61 := by
              rw [← hT5, List.length_append, List.length_singleton]
              omega
            have nd5 := liv.nd
            refine ⟨_, rfl, _, rfl, ia, .ref t.2.1, rfl, hv ▸ DGet.t (nia k5) a3, t.2.1, rfl, ⟨_, sqL_new (nls k5)⟩, ?_⟩
            refine for_it (walk_list (K := K) (a := t.2.1) (xs := t.2.2.map fun x => V.ref x.e)) (fun j σ Z => ∃ (x7 x8 x9 x10 x11 x12 : Option V) (L : List QI), σ = [some (.ref p), some (.ref eA), some (.ref dA), some (.ref cA), some (.ref ia), some (.ref D), some (.ref qq), x7, x8, x9, x10, x11, x12] ∧ (∀ c o, c ≠ D → c ≠ qq → H2 c = some o → Z c = some o) ∧ Z D = some (.dT (doneKV T5)) ∧ Z qq = some (.lst (L.map fun q => V.ref q.t)) ∧ (∀ q ∈ L, QAt K Z q ∧ q.x.1 ∈ stagesS cs) ∧ (∀ t ∈ T5, CoAt K Z t.1 t.2.2 ∧ t.2.1 ∈ stagesS cs) ∧ Kp.IsHeap Ka.hzLt (L.map qZ) ∧ Kz.Inv (endsS cs) (linesK c1 df cs) e0 (T5.map (·.2)) (L.map (·.x)) ((t.2.2.drop j).map fun x => lnOf c1 df (x.nm, x.s)) ∧ L.length ≤ L4.length + j)
              ⟨_, _, _, _, _, _, L4, rfl, k5, zD5, zQ5, at5, co5, hh, liv, Nat.le_refl _⟩ (fun j σ Z _ h => ?_) (fun j y σ Z Z' hj h yy => ?_) (fun σ Z h => ?_)
            · obtain ⟨_, _, _, _, _, _, _, _, k, _⟩ := h
              exact sqL_new (nls k)
            · obtain ⟨rfl, hy⟩ := yy
              obtain ⟨x, hx, rfl⟩ := get_map hy
              obtain ⟨x7, x8, x9, x10, x11, x12, L6, rfl, k6, zD6, zQ6, at6, co6, hp6, liv, len6⟩ := h
              have hjl := lt_of_get hx
              have mx := List.mem_of_getElem? hx
              obtain ⟨b0, b1, b2⟩ := i4.sound t ht x mx
              obtain ⟨b1e, b1u, b1s, b1p⟩ := b0.keep (H' := Z') fun c xs e => kT k6 e
              have ln : (x.nm, x.s) ∈ linesS cs := b1
              have lk : lnOf c1 df (x.nm, x.s) ∈ linesK c1 df cs := List.mem_map.mpr ⟨_, ln, rfl⟩
              rw [drop_of_get hx, List.map_cons] at liv
              have next : ∀ (Z : Hp) (x7 x8 x9 x10 x11 x12 : Option V) (L : List QI), True := fun _ _ _ _ _ _ _ _ => trivial
              refine ⟨x.e, _, rfl, sqT_new b1e, rfl, _, _, rfl, _, _, rfl, _, _, rfl, rfl, ?_⟩
              refine ⟨_, rfl, _, rfl, D, _, rfl, DGet.t zD6 (k := stK (x.nm, x.s.n)) b1u, ?_⟩
              dsimp only
              rw [done_some]
              by_cases hu : (x.nm, x.s.n) ∈ Kz.keys (T5.map (·.2))
              · rw [decide_eq_true hu]
                refine ⟨_, rfl, iteF (iteF ?_)⟩
                exact ⟨_, _, _, _, _, _, L6, rfl, k6, zD6, zQ6, at6, co6, hp6, Kz.inv_drop liv (.inl hu), by omega⟩
              · rw [decide_eq_false hu]
                refine ⟨_, rfl, iteT ?_⟩
                refine ⟨_, rfl, _, rfl, x.pa, D, _, doneKV T5, rfl, b1p, Nat.le_trans (partsS_len _ _) (by decide), .inl zD6, fun Z7 s7 => ?_⟩
                have hall : ((partsS x.nm x.s).all fun y => (valV (doneKV T5) (stK y)).isSome) = decide (∀ y ∈ partsS x.nm x.s, y ∈ Kz.keys (T5.map (·.2))) := by
                  rw [Bool.eq_iff_iff, List.all_eq_true, decide_eq_true_iff]
                  refine ⟨fun h y hy => ?_, fun h y hy => ?_⟩
                  · have := h y hy
                    rw [done_some] at this
                    exact of_decide_eq_true this
                  · rw [done_some]
                    exact decide_eq_true (h y hy)
                rw [hall]
                have k7 := fun c o h1 h2 e => s7 _ _ (k6 c o h1 h2 e)
                have zD7 := s7 _ _ zD6
                have zQ7 := s7 _ _ zQ6
                have at7 : ∀ q ∈ L6, QAt K Z7 q ∧ q.x.1 ∈ stagesS cs := fun q hq => ⟨(at6 q hq).1.ts (TS.of s7), (at6 q hq).2⟩
                have co7 : ∀ t ∈ T5, CoAt K Z7 t.1 t.2.2 ∧ t.2.1 ∈ stagesS cs := fun t ht => ⟨(co6 t ht).1.ts (TS.of s7), (co6 t ht).2⟩
                by_cases hal : ∀ y ∈ partsS x.nm x.s, y ∈ Kz.keys (T5.map (·.2))
                · rw [decide_eq_true hal]
                  refine ⟨_, rfl, iteT ?_⟩
                  have b1s7 := s7 _ _ b1s
                  have b1u7 := s7 _ _ b1u
                  have b1p7 := b1p.mono s7
                  -- the base
                  have mt : t.1 ∈ partsS x.nm x.s := b2
                  have mu : (x.nm, x.s.n) ∈ stagesS cs := by
                    obtain ⟨c, mc, pp, mp, e⟩ := mem_linesS.mp ln
                    injection e with e1 e2
                    exact mem_stagesS.mpr ⟨c, mc, e1, by rw [e2]; exact ((ok.ok c mc).sl pp mp).1⟩
                  have vals : ∀ y ∈ partsS x.nm x.s, ∃ a, valV (doneKV T5) (stK y) = some (.ref a) ∧ CoAt K Z7 a (Kz.vf (T5.map (·.2)) y) := fun y hy => by
                    obtain ⟨u, hu2, e, e2⟩ := done_val nd5 (hal y hy)
                    refine ⟨u.1, e2, ?_⟩
                    have := (co7 u hu2).1
                    rwa [e] at this
                  have sZ7 := s1.trans (KS k7)
                  refine ⟨_, rfl, x.sa, _, _, .str (kindS x.s.call), rfl, rfl, sqT_new b1s7, rfl, rfl, _, rfl, ?_⟩
                  cases hcall : x.s.call with
                  | true =>
                    refine iteYes (by decide +kernel) ?_
                    refine ⟨_, rfl, _, rfl, _, rfl, _, rfl, _, rfl, cA, x.pa, D, c1, partsS x.nm x.s, doneKV T5, Kz.vf (T5.map (·.2)), rfl, hCc.mono sZ7, b1p7, .inl zD7, vals, fun Z8 r s8 nr er => ?_⟩
                    have elc : Kz.lcF (Kz.vf (T5.map (·.2))) (partsS x.nm x.s) c1 = Kz.lc (T5.map (·.2)) (lnOf c1 df (x.nm, x.s)) := by
                      unfold Kz.lc lnOf
                      dsimp only
                      rw [hcall]
                      rfl
                    rw [elc] at er
                    have at8 := fun q hq => (at7 q hq).1.ts (TS.of s8)
                    refine ⟨_, rfl, smallE (by show 2 ≤ 1000000; decide), fun v nv => ?_⟩
                    have sv := same_new (o := .tup [V.ref r, V.ref x.u]) nv
                    have ev : upd Z8 v (.tup [V.ref r, V.ref x.u]) v = some (.tup [V.ref r, V.ref x.u]) := upd_same
                    have s8v := s8.trans sv
                    have at9 : ∀ q ∈ L6 ++ [QI.mk v r x.u ((x.nm, x.s.n), Kz.lc (T5.map (·.2)) (lnOf c1 df (x.nm, x.s)))], QAt K (upd Z8 v (.tup [V.ref r, V.ref x.u])) q ∧ q.x.1 ∈ stagesS cs := fun q hq => by
                      rcases List.mem_append.mp hq with z | z
                      · exact ⟨(at7 q z).1.ts (TS.of s8v), (at7 q z).2⟩
                      · rw [List.mem_singleton.mp z]
                        exact ⟨⟨ev, .inl (sv _ _ er), s8v _ _ b1u7⟩, mu⟩
                    have zD9 := s8v _ _ zD7
                    have zQ9 := s8v _ _ zQ7
                    have k9 := fun c o h1 h2 e => s8v _ _ (k7 c o h1 h2 e)
                    have co9 : ∀ t ∈ T5, CoAt K (upd Z8 v (.tup [V.ref r, V.ref x.u])) t.1 t.2.2 ∧ t.2.1 ∈ stagesS cs := fun t ht => ⟨(co7 t ht).1.ts (TS.of s8v), (co7 t ht).2⟩
                    generalize upd Z8 v (.tup [V.ref r, V.ref x.u]) = Z9 at sv ev s8v at9 zD9 zQ9 k9 co9
                    have e9 : L6.map qZ ++ [qZ ⟨v, r, x.u, ((x.nm, x.s.n), Kz.lc (T5.map (·.2)) (lnOf c1 df (x.nm, x.s)))⟩] = (L6 ++ [QI.mk v r x.u ((x.nm, x.s.n), Kz.lc (T5.map (·.2)) (lnOf c1 df (x.nm, x.s)))]).map qZ := by rw [List.map_append]; rfl
                    refine ⟨qq, qZ ⟨v, r, x.u, ((x.nm, x.s.n), Kz.lc (T5.map (·.2)) (lnOf c1 df (x.nm, x.s)))⟩, L6.map qZ, rfl, by rw [hz_qs]; exact zQ9, by rw [e9]; exact hzOk_qs fun q hq => (at9 q hq).1, by rw [List.length_map]; omega, hp6, fun ys pm hh => ?_⟩
                    obtain ⟨L8, pm8, rfl⟩ := perm_of_map pm _ e9
                    rw [hz_qs]
                    have tk : TS Z9 (upd Z9 qq (.lst (L8.map fun q => V.ref q.t))) := fun c xs e => by
                      rw [upd_ne]
                      · exact e
                      · intro z
                        rw [z, zQ9] at e
                        cases e
                    refine ⟨_, _, _, _, _, _, L8, rfl, fun c o h1 h2 e => ?_, ?_, upd_same, fun q hq => ⟨(at9 q (pm8.mem_iff.mp hq)).1.ts tk, (at9 q (pm8.mem_iff.mp hq)).2⟩, fun t ht => ⟨(co9 t ht).1.ts tk, (co9 t ht).2⟩, hh, Kz.inv_push liv lk hal mt top ?_, ?_⟩
                    · rw [upd_ne h2]
                      exact k9 c o h1 h2 e
                    · rw [upd_ne nqqD.symm]
                      exact zD9
                    · have := pm8.map (·.x)
                      rwa [List.map_append] at this
                    · rw [pm8.length_eq, List.length_append, List.length_singleton]
                      omega
                  | false =>
                    refine iteNo (by decide +kernel) ?_
                    obtain ⟨qd, hq1, hq2⟩ := hdf (x.nm, x.s) ln hcall
                    refine ⟨_, rfl, _, rfl, x.sa, _, _, .str x.s.nm, rfl, rfl, sqT_new b1s7, rfl, dA, .ref qd, rfl, hq1 ▸ DGet.k (k := Sum.inr x.s.nm) (sZ7 _ _ hD), ?_⟩
                    refine ⟨_, rfl, _, rfl, _, rfl, _, rfl, qd, x.pa, D, df x.s.nm, partsS x.nm x.s, doneKV T5, Kz.vf (T5.map (·.2)), rfl, hq2.mono sZ7, b1p7, .inl zD7, vals, fun Z8 r s8 nr er => ?_⟩
                    have elc : Kz.lcF (Kz.vf (T5.map (·.2))) (partsS x.nm x.s) (df x.s.nm) = Kz.lc (T5.map (·.2)) (lnOf c1 df (x.nm, x.s)) := by
                      unfold Kz.lc lnOf
                      dsimp only
                      rw [hcall]
                      rfl
                    rw [elc] at er
                    have at8 := fun q hq => (at7 q hq).1.ts (TS.of s8)
                    refine ⟨_, rfl, smallE (by show 2 ≤ 1000000; decide), fun v nv => ?_⟩
                    have sv := same_new (o := .tup [V.ref r, V.ref x.u]) nv
                    have ev : upd Z8 v (.tup [V.ref r, V.ref x.u]) v = some (.tup [V.ref r, V.ref x.u]) := upd_same
                    have s8v := s8.trans sv
                    have at9 : ∀ q ∈ L6 ++ [QI.mk v r x.u ((x.nm, x.s.n), Kz.lc (T5.map (·.2)) (lnOf c1 df (x.nm, x.s)))], QAt K (upd Z8 v (.tup [V.ref r, V.ref x.u])) q ∧ q.x.1 ∈ stagesS cs := fun q hq => by
                      rcases List.mem_append.mp hq with z | z
                      · exact ⟨(at7 q z).1.ts (TS.of s8v), (at7 q z).2⟩
                      · rw [List.mem_singleton.mp z]
                        exact ⟨⟨ev, .inl (sv _ _ er), s8v _ _ b1u7⟩, mu⟩
                    have zD9 := s8v _ _ zD7
                    have zQ9 := s8v _ _ zQ7
                    have k9 := fun c o h1 h2 e => s8v _ _ (k7 c o h1 h2 e)
                    have co9 : ∀ t ∈ T5, CoAt K (upd Z8 v (.tup [V.ref r, V.ref x.u])) t.1 t.2.2 ∧ t.2.1 ∈ stagesS cs := fun t ht => ⟨(co7 t ht).1.ts (TS.of s8v), (co7 t ht).2⟩
                    generalize upd Z8 v (.tup [V.ref r, V.ref x.u]) = Z9 at sv ev s8v at9 zD9 zQ9 k9 co9
                    have e9 : L6.map qZ ++ [qZ ⟨v, r, x.u, ((x.nm, x.s.n), Kz.lc (T5.map (·.2)) (lnOf c1 df (x.nm, x.s)))⟩] = (L6 ++ [QI.mk v r x.u ((x.nm, x.s.n), Kz.lc (T5.map (·.2)) (lnOf c1 df (x.nm, x.s)))]).map qZ := by rw [List.map_append]; rfl
                    refine ⟨qq, qZ ⟨v, r, x.u, ((x.nm, x.s.n), Kz.lc (T5.map (·.2)) (lnOf c1 df (x.nm, x.s)))⟩, L6.map qZ, rfl, by rw [hz_qs]; exact zQ9, by rw [e9]; exact hzOk_qs fun q hq => (at9 q hq).1, by rw [List.length_map]; omega, hp6, fun ys pm hh => ?_⟩
                    obtain ⟨L8, pm8, rfl⟩ := perm_of_map pm _ e9
                    rw [hz_qs]
                    have tk : TS Z9 (upd Z9 qq (.lst (L8.map fun q => V.ref q.t))) := fun c xs e => by
                      rw [upd_ne]
                      · exact e
                      · intro z
                        rw [z, zQ9] at e
                        cases e
                    refine ⟨_, _, _, _, _, _, L8, rfl, fun c o h1 h2 e => ?_, ?_, upd_same, fun q hq => ⟨(at9 q (pm8.mem_iff.mp hq)).1.ts tk, (at9 q (pm8.mem_iff.mp hq)).2⟩, fun t ht => ⟨(co9 t ht).1.ts tk, (co9 t ht).2⟩, hh, Kz.inv_push liv lk hal mt top ?_, ?_⟩
                    · rw [upd_ne h2]
                      exact k9 c o h1 h2 e
                    · rw [upd_ne nqqD.symm]
                      exact zD9
                    · have := pm8.map (·.x)
                      rwa [List.map_append] at this
                    · rw [pm8.length_eq, List.length_append, List.length_singleton]
                      omega
                · rw [decide_eq_false hal]
                  refine ⟨_, rfl, iteF ?_⟩
                  exact ⟨_, _, _, _, _, _, L6, rfl, k7, zD7, zQ7, at7, co7, hp6, Kz.inv_drop liv (.inr hal), by omega⟩
            · obtain ⟨x7, x8, x9, x10, x11, x12, L6, rfl, k6, zD6, zQ6, at6, co6, hp6, liv, len6⟩ := h
              rw [List.length_map] at liv len6
              rw [List.drop_length] at liv
              refine ⟨_, ?_, x7, x8, x9, x10, x11, x12, L6, T5, rfl, k6, zD6, zQ6, at6, co6, hp6, liv, rfl, ?_⟩
              · rw [ekeys]
                omega
              · rw [ekeys]
                omega
end
end Kb
namespace Kb
open PySem PySem.Spec PyProof.Rows L2
/-! ### the law's list of ends -/
/-- stages in a list -/
def StLs (H : Hp) (q : Addr) (xs : List Stg) : Prop := ∃ L : List (Addr × Stg), H q = some (.lst (L.map fun t => V.ref t.1)) ∧ L.map (·.2) = xs ∧ ∀ t ∈ L, H t.1 = some (.tup (stV t.2))
theorem StLs.mono {H H' : Hp} {q : Addr} {xs : List Stg} (s : Same H H') (h : StLs H q xs) : StLs H' q xs := by
  obtain ⟨L, h1, h2, h3⟩ := h
  exact ⟨L, s _ _ h1, h2, fun t ht => s _ _ (h3 t ht)⟩
theorem ends_len {cs : List CA} (ok : CsOk cs) : ∀ i, (endsS (cs.take i)).length ≤ 20 * (cs.take i).length := by
  intro i
  have : ∀ l : List CA, (∀ c ∈ l, c ∈ cs) → (endsS l).length ≤ 20 * l.length := by
    intro l
    induction l with
    | nil => intro _; exact Nat.zero_le _
    | cons c l ih =>
      intro h
      have h1 := ih fun d hd => h d (List.mem_cons_of_mem _ hd)
      have okc := ok.ok c (h c List.mem_cons_self)
      have h2 : c.es.length ≤ c.n := by
        have nd : c.es.Nodup := List.Pairwise.imp (fun {a b} (h : a < b) (e : a = b) => by omega) okc.asc
        have := nd_le nd (m := List.range c.n) fun x hx => List.mem_range.mpr (okc.el x hx)
        rwa [List.length_range] at this
      have := okc.n1
      have e : endsS (c :: l) = (c.es.map fun e => (c.nm, e)) ++ endsS l := by unfold endsS; rw [List.flatMap_cons]
      rw [e, List.length_append, List.length_map, List.length_cons]
      omega
  exact this _ fun c hc => List.mem_of_mem_take hc
section
variable {P : Program} {w : World} {K : PySem.W.Frag} {mg : Str → Option Value} {base : Heap}
def spLawEnds (K : PySem.W.Frag) : Sp := fun vs H Q _ => ∃ (a : Addr) (cs : List CA), vs = [.ref a] ∧ CsAt K H a cs ∧ CsOk cs ∧ ∀ H' q, Same H H' → H q = none → StLs H' q (endsS cs) → Q (.ref q) H'
abbrev nLe2 : List Str := ["courses", "found", "name", "stages", "ends", "steps", "number"]
theorem scLe2 : FnScope nLe2 ["courses"] (defScope sLawEnds) := ⟨rfl, rfl, rfl, by decide +kernel, rfl, by decide +kernel, by decide +kernel⟩
theorem ok_lawends {f : Addr} {fd : FuncData} (F : Fun K "_law_ends" "_law_ends" sLawEnds f fd) (N : Nones mg) : FnOk P w K mg base CX0 1 f fd ["courses"] (spLawEnds K) := by
  refine F.ok scLe2 (fun vs H Q E h => ?_) (fun cdv A outer s0 H vs Q E hr h => ?_)
  · obtain ⟨a, cs, rfl, _⟩ := h
    rfl
  · obtain ⟨a, cs, rfl, hC, ok, q⟩ := h
    refine ⟨_, pss_cons (ps_set (i := 1) scLe2.nd rfl (Or.inl rfl) (pe_lst pa_nil))
      (pss_cons (ps_for PassesOwn.never rfl (pi_tup (pv 0)) (pg_tup rfl (pgs_cons (pg_name (i := 2) scLe2.nd rfl (Or.inr rfl)) (pgs_cons (pg_name (i := 3) scLe2.nd rfl (Or.inl rfl)) (pgs_cons (pg_name (i := 4) scLe2.nd rfl (Or.inl rfl)) (pgs_cons (pg_name (i := 5) scLe2.nd rfl (Or.inl rfl)) pgs_nil)))))
        (pss_one (ps_set (i := 1) scLe2.nd rfl (Or.inl rfl) (pe_op op_cat (pv 1) (pe_lc (own := [("number", 6)]) (g := gName 6) (tt := tYes) rfl scLe2.nd (pi_tup (pv 4)) (blkOk_by (own := [("number", 6)]) (N := nLe2) (sc := defScope sLawEnds) (by decide +kernel)) (fun _ _ _ _ _ => (pg_name (i := 6) scLe2.nd rfl (Or.inl rfl))) (fun _ _ _ _ _ => pts_nil) (fun _ _ _ _ _ => (pe_tup (pa_cons (pv 2) (pa_cons (pv 6) pa_nil)))))))))
      (pss_one (ps_ret (pv 1)))), ?_⟩
    have n8 := ok.n8
    refine ⟨smallE (by show 0 ≤ 1000000; decide), fun q0 n0 => ?_⟩
    have s0' := same_new (o := .lst []) n0
    refine ⟨_, rfl, a, rfl, ⟨_, Same.sqT s0' hC.1⟩, ?_⟩
    refine for_it (walk_tup (K := K) (a := a) (xs := cs.map fun c => V.ref c.a)) (fun i σ Z => ∃ (q1 : Addr) (x2 x3 x4 x5 x6 : Option V), σ = [some (.ref a), some (.ref q1), x2, x3, x4, x5, x6] ∧ Same H Z ∧ H q1 = none ∧ StLs Z q1 (endsS (cs.take i))) ⟨q0, none, none, none, none, none, rfl, s0', n0, [], upd_same, rfl, fun t ht => nomatch ht⟩ (fun i σ Z _ h => ?_) (fun i y σ Z Z' hi h yy => ?_) (fun σ Z h => ?_)
    · obtain ⟨_, _, _, _, _, _, _, sZ, _⟩ := h
      exact Same.sqT sZ hC.1
    · obtain ⟨rfl, hy⟩ := yy
      obtain ⟨c, hc, rfl⟩ := get_map hy
      obtain ⟨q1, x2, x3, x4, x5, x6, rfl, sZ, n1, hL⟩ := h
      have mc := List.mem_of_getElem? hc
      have okc := ok.ok c mc
      have hCc := (hC.2 c mc).mono sZ
      have ez := okc.ez
      refine ⟨c.a, _, rfl, hCc.t, rfl, _, _, rfl, _, _, rfl, _, _, rfl, _, _, rfl, rfl, ?_⟩
      refine ⟨_, rfl, _, rfl, c.ea, rfl, ⟨_, hCc.e⟩, fun D nD => ?_⟩
      refine lc_it (walk_tup (K := K) (a := c.ea) (xs := natV c.es)) (fun j G => Same Z' G ∧ StLs G D ((c.es.take j).map fun e => (c.nm, e))) ⟨same_new nD, [], upd_same, rfl, fun t ht => nomatch ht⟩ (fun _ _ _ h => Same.sqT h.1 hCc.e) (fun j y G G' hj h y2 => ?_) (fun G h => ?_)
      · obtain ⟨rfl, hy2⟩ := y2
        obtain ⟨e, he, rfl⟩ := get_map (f := fun (i : Nat) => V.int (i : Int)) hy2
        obtain ⟨sG, L, h1, h2, h3⟩ := h
        refine ⟨rfl, _, rfl, _, rfl, smallE (by show 2 ≤ 1000000; decide), fun t nt => ?_⟩
        have st := same_new (o := .tup [V.str c.nm, V.int (e : Int)]) nt
        have et : upd G' t (.tup [V.str c.nm, V.int (e : Int)]) t = some (.tup (stV (c.nm, e))) := upd_same
        have eD := st _ _ h1
        have h3 : ∀ u ∈ L, upd G' t (.tup [V.str c.nm, V.int (e : Int)]) u.1 = some (.tup (stV u.2)) := fun u hu => st _ _ (h3 u hu)
        have sG := sG.trans st
        generalize upd G' t (.tup [V.str c.nm, V.int (e : Int)]) = G2 at st et eD h3 sG
        have lL : L.length ≤ 10000 := by
          have := congrArg List.length h2
          rw [List.length_map, List.length_map, List.length_take] at this
          omega
        have tk : TS G2 (upd G2 D (.lst ((L.map fun t => V.ref t.1) ++ [.ref t]))) := fun c xs e => by
          rw [upd_ne]
          · exact e
          · intro z
            rw [z, eD] at e
            cases e
        refine ⟨_, eD, by rw [List.length_map]; exact small (by omega), fun b o e => ?_, L ++ [(t, (c.nm, e))], ?_, ?_, fun u hu => ?_⟩
        · rw [upd_ne (ne_of_none e nD)]
          exact sG _ _ e
        · rw [upd_same, List.map_append]
          rfl
        · rw [List.map_append, h2, take_of_get he, List.map_append]
          rfl
        · rcases List.mem_append.mp hu with z | z
          · exact tk _ _ (h3 u z)
          · rw [List.mem_singleton.mp z]
            exact tk _ _ et
      · obtain ⟨sG, L, h1, h2, h3⟩ := h
        rw [natV_len, List.take_length] at h2
        obtain ⟨L0, g1, g2, g3⟩ := hL.mono sG
        have l0 : L0.length ≤ 200 := by
          have := congrArg List.length g2
          rw [List.length_map] at this
          have h5 := ends_len ok i
          rw [List.length_take] at h5
          omega
        have l1 : L.length ≤ 10000 := by
          have := congrArg List.length h2
          rw [List.length_map, List.length_map] at this
          omega
        refine ⟨q1, D, _, _, rfl, rfl, g1, h1, by rw [List.length_map, List.length_map]; exact smallE (by omega), fun p np => ?_⟩
        have sp := same_new (o := .lst ((L0.map fun t => V.ref t.1) ++ (L.map fun t => V.ref t.1))) np
        refine ⟨p, _, _, _, _, _, rfl, (sZ.trans sG).trans sp, (sZ.trans sG).free np, L0 ++ L, ?_, ?_, fun u hu => ?_⟩
        · rw [upd_same, List.map_append]
        · rw [List.map_append, g2, h2, take_of_get hc]
          unfold endsS
          rw [List.flatMap_append]
          simp
        · rcases List.mem_append.mp hu with z | z
          · exact sp _ _ (g3 u z)
          · exact sp _ _ (h3 u z)
    · obtain ⟨q1, x2, x3, x4, x5, x6, rfl, sZ, n1, hL⟩ := h
      rw [List.length_map, List.take_length] at hL
      exact ⟨_, rfl, q Z q1 sZ n1 hL⟩
end
end Kb
namespace Kb
open PySem PySem.Spec PyProof.Rows L2
/-! ### lines, ends, locks -/
abbrev useS (l : LN) : Stg := (l.1, l.2.n)
abbrev parS (l : LN) : List Stg := partsS l.1 l.2
theorem parts_stages {cs : List CA} (ok : CsOk cs) {l : LN} (hl : l ∈ linesS cs) {p : Stg} (hp : p ∈ parS l) : p ∈ stagesS cs := by
  obtain ⟨c, hc, q, hq, rfl⟩ := mem_linesS.mp hl
  have so := (ok.ok c hc).sl q hq
  have own : (c.nm, q.2.o) ∈ stagesS cs := mem_stagesS.mpr ⟨c, hc, rfl, so.2.1⟩
  have hp : p ∈ partsS c.nm q.2 := hp
  unfold partsS at hp
  by_cases e : q.2.call = true
  · rw [if_pos e] at hp
    rcases List.mem_cons.mp hp with z | z
    · have := ok.cl c hc q.2.nm (List.mem_map.mpr ⟨q, List.mem_filter.mpr ⟨hq, e⟩, rfl⟩)
      obtain ⟨d, hd, ed⟩ := List.mem_map.mp this
      rw [z]
      exact mem_stagesS.mpr ⟨d, hd, ed.symm, by have := (ok.ok d hd).n0; show 0 < d.n; omega⟩
    · rw [List.mem_singleton.mp z]
      exact own
  · rw [if_neg e] at hp
    rw [List.mem_singleton.mp hp]
    exact own
theorem unlock {H H' : Hp} {d : Addr} {u x : HO} (e : H d = some u) (s : Same (upd H d x) H') : Same H (upd H' d u) := fun c o ec => by
  by_cases hc : c = d
  · subst hc
    rw [e] at ec
    cases ec
    exact upd_same
  · rw [upd_ne hc]
    exact s _ _ (by rw [upd_ne hc]; exact ec)
theorem end_iff {cs : List CA} (ok : CsOk cs) {c : CA} (mc : c ∈ cs) (k : Nat) : (c.nm, k) ∈ endsS cs ↔ k ∈ c.es := by
  rw [mem_endsS]
  refine ⟨fun ⟨c', h1, h2, h3⟩ => ?_, fun h => ⟨c, mc, rfl, h⟩⟩
  rwa [same_course ok.nd mc h1 h2]
theorem mem_offs {c : CA} {k i : Nat} : i ∈ offs c k ↔ ∃ s, c.ss[i]? = some s ∧ s.2.n = k := by
  refine ⟨offs_lt, fun ⟨s, h1, h2⟩ => ?_⟩
  unfold offs
  refine List.mem_filter.mpr ⟨List.mem_range.mpr (lt_of_get h1), decide_eq_true ?_⟩
  rw [h1, ← h2]
  rfl
/-- the lines that leave a stage, by their places -/
theorem line_iff {cs : List CA} (ok : CsOk cs) {c : CA} (mc : c ∈ cs) (k : Nat) (l : LN) : (l ∈ linesS cs ∧ useS l = (c.nm, k)) ↔ l.1 = c.nm ∧ ∃ i s, i ∈ offs c k ∧ c.ss[i]? = some s ∧ l.2 = s.2 := by
  constructor
  · rintro ⟨hl, hu⟩
    obtain ⟨c', h1, q, hq, rfl⟩ := mem_linesS.mp hl
    obtain ⟨e1, e2⟩ := Prod.mk.injEq .. ▸ hu
    have := same_course ok.nd h1 mc e1
    subst this
    obtain ⟨i, hi⟩ := List.getElem?_of_mem hq
    exact ⟨rfl, i, q, mem_offs.mpr ⟨q, hi, e2⟩, hi, rfl⟩
  · rintro ⟨e1, i, s, h1, h2, e2⟩
    obtain ⟨s', h3, h4⟩ := mem_offs.mp h1
    rw [h2] at h3
    cases h3
    refine ⟨mem_linesS.mpr ⟨c, mc, s, List.mem_of_getElem? h2, Prod.ext e1 e2⟩, ?_⟩
    show (l.1, l.2.n) = _
    rw [e1, e2, h4]
theorem val_in {kvs : List (List L2.Key × V)} {lot : List Stg} (h : kvs.map (·.1) = lot.map stK) (x : Stg) : (valV kvs (stK x)).isSome = decide (x ∈ lot) := by
  rw [valV_has, h]
  refine decide_eq_decide.mpr ⟨fun h => ?_, fun h => List.mem_map.mpr ⟨x, h, rfl⟩⟩
  obtain ⟨y, hy, e⟩ := List.mem_map.mp h
  rw [← stK_inj e]
  exact hy
/-- a lot as a dict -/
def lotKV (lot : List Stg) : List (List L2.Key × V) := lot.map fun x => (stK x, V.bl true)
theorem lotKV_keys (lot : List Stg) : (lotKV lot).map (·.1) = lot.map stK := by
  unfold lotKV
  rw [List.map_map]
  rfl
theorem stK_notin {lot : List Stg} {x : Stg} (h : x ∉ lot) : stK x ∉ (lotKV lot).map (·.1) := by
  rw [lotKV_keys]
  intro z
  obtain ⟨y, hy, e⟩ := List.mem_map.mp z
  rw [stK_inj e] at hy
  exact h hy
end Kb
namespace Kb
open PySem PySem.Spec PyProof.Rows L2
/-! ### ascending, way_costs, least_weights, row_lengths, lengths -/
theorem stK_alike (x y : Stg) : PySem.W.alike (Ka.keysD (stK x)) (Ka.keysD (stK y)) = true := by
  simp [Ka.keysD, Ka.keyD, stK, PySem.W.alike, PySem.W.alikeAll]
theorem stK_ne (x : Stg) : stK x ≠ [] := by
  unfold stK
  exact fun e => nomatch e
/-- sorted by its keys -/
def ascKV (kvs kvs' : List (List L2.Key × V)) : Prop := kvs'.map (·.1) = (kvs.map (·.1)).mergeSort Ka.kLe ∧ kvs'.Perm kvs
section
variable {P : Program} {w : World} {K : PySem.W.Frag} {mg : Str → Option Value} {base : Heap}
def spAsc : Sp := fun vs H Q _ => ∃ (t : Addr) (kvs : List (List L2.Key × V)), vs = [.ref t] ∧ Rd H t (.dT kvs) ∧ (kvs.map (·.1)).Nodup ∧ (∀ x ∈ kvs, ∃ s, x.1 = stK s) ∧ kvs.length ≤ 100000 ∧ ∀ H' q kvs', Same H H' → H q = none → H' q = some (.dT kvs') → ascKV kvs kvs' → Q (.ref q) H'
abbrev nAs : List Str := ["table", "key"]
theorem scAs : FnScope nAs ["table"] (defScope sAscending) := ⟨rfl, rfl, rfl, by decide +kernel, rfl, by decide +kernel, by decide +kernel⟩
theorem ok_asc {f : Addr} {fd : FuncData} (F : Fun K "ascending" "ascending" sAscending f fd) (N : Nones mg) : FnOk P w K mg base CX0 1 f fd ["table"] spAsc := by
  refine F.ok scAs (fun vs H Q E h => ?_) (fun cdv A outer s H vs Q E hr h => ?_)
  · obtain ⟨t, kvs, rfl, _⟩ := h
    rfl
  · obtain ⟨t, kvs, rfl, hd, nd, hst, hl, q⟩ := h
    refine ⟨_, pss_one (ps_ret (Ka.pe_dcT (own := [("key", 1)]) (g := gName 1) rfl (hu_of hr) scAs.nd (pi_list (pe_callB (Ka.cr_sortT rfl hr.units) (by rfl) N.sorted (by decide +kernel) (pa_cons (pv 0) pa_nil))) (blkOk_by (own := [("key", 1)]) (N := nAs) (sc := defScope sAscending) (by decide +kernel)) (fun _ _ _ _ _ => (pg_name (i := 1) scAs.nd rfl (Or.inl rfl))) (fun _ _ _ _ _ => (pv 1)) (fun _ _ _ _ _ => (pe_dget (hu_of hr) (pv 0) (pv 1) (fun _ _ => rfl))))), ?_⟩
    refine ⟨_, rfl, t, kvs, rfl, hd, fun x hx y hy => ?_, fun x hx => ?_, fun rs p e1 e2 np => ?_⟩
    · obtain ⟨a, ha⟩ := hst x hx
      obtain ⟨b, hb⟩ := hst y hy
      rw [ha, hb]
      exact stK_alike a b
    · obtain ⟨a, ha⟩ := hst x hx
      rw [ha]
      exact stK_ne a
    have sp := same_new (o := .lst (rs.map fun r => V.ref r.1)) np
    have ep : upd H p (.lst (rs.map fun r => V.ref r.1)) p = some (.lst (rs.map fun r => V.ref r.1)) := upd_same
    generalize upd H p (.lst (rs.map fun r => V.ref r.1)) = H1 at sp ep
    have pk : (rs.map (·.2)).Perm (kvs.map (·.1)) := by
      rw [e1]
      exact List.mergeSort_perm _ _
    have ndr : (rs.map (·.2)).Nodup := pk.nodup_iff.mpr nd
    have val : ∀ r ∈ rs, (r.2, (valV kvs r.2).getD .non) ∈ kvs ∧ valV kvs r.2 = some ((valV kvs r.2).getD .non) := fun r hr2 => by
      obtain ⟨x, hx, e⟩ := List.mem_map.mp (pk.mem_iff.mp (List.mem_map.mpr ⟨r, hr2, rfl⟩))
      have : valV kvs r.2 = some x.2 := by
        rw [← e]
        exact valV_mem nd hx
      rw [this]
      refine ⟨?_, rfl⟩
      show (r.2, x.2) ∈ kvs
      rw [← e]
      exact hx
    have hrl : rs.length = kvs.length := by
      have := pk.length_eq
      rwa [List.length_map, List.length_map] at this
    refine ⟨p, rfl, ⟨_, sqL_new ep⟩, fun D nD => ?_⟩
    refine dcT_it (walk_list (K := K) (a := p) (xs := rs.map fun r => V.ref r.1)) (fun i G => Same H1 G ∧ G D = some (.dT ((rs.take i).map fun r => (r.2, (valV kvs r.2).getD .non)))) ⟨same_new nD, upd_same⟩ (fun _ _ _ h => sqL_new (h.1 _ _ ep)) (fun i x G G' hi h y => ?_) (fun G h => ?_)
    · obtain ⟨rfl, hx⟩ := y
      obtain ⟨r, hr2, rfl⟩ := get_map hx
      obtain ⟨sG, eG⟩ := h
      have mr := List.mem_of_getElem? hr2
      have s2 := sp.trans sG
      have g : DGet G' t (.ref r.1) (some ((valV kvs r.2).getD .non)) := .inr ⟨kvs, r.2, r.1, Rd.mono hd s2, rfl, s2 _ _ (e2 r mr), (val r mr).2.symm⟩
      refine ⟨rfl, _, rfl, _, rfl, _, rfl, t, _, rfl, g, ?_⟩
      refine ⟨_, r.2, r.1, rfl, s2 _ _ (e2 r mr), eG, by rw [List.length_map, List.length_take]; exact small (by omega), fun c o e => ?_, ?_⟩
      · rw [upd_ne (ne_of_none e nD)]
        exact sG _ _ e
      · rw [upd_same, putK_new, take_of_get hr2, List.map_append]
        · rfl
        · rw [List.map_map]
          intro z
          have z : r.2 ∈ (rs.take i).map (·.2) := z
          have nd2 := ndr
          rw [← List.take_append_drop i rs, List.map_append, drop_of_get hr2, List.map_cons, List.nodup_append] at nd2
          exact nd2.2.2 _ z _ List.mem_cons_self rfl
    · obtain ⟨sG, eG⟩ := h
      rw [List.length_map, List.take_length] at eG
      refine q G D _ (sp.trans sG) (sp.free nD) eG ⟨?_, ?_⟩
      · rw [List.map_map, ← e1]
        rfl
      · have h1 : kvs = (kvs.map (·.1)).map fun k => (k, (valV kvs k).getD .non) := by
          rw [List.map_map]
          refine (List.map_id _).symm.trans (List.map_congr_left fun x hx => ?_)
          show x = (x.1, (valV kvs x.1).getD .non)
          rw [valV_mem nd hx]
          rfl
        have h2 : (rs.map fun r => (r.2, (valV kvs r.2).getD .non)) = (rs.map (·.2)).map fun k => (k, (valV kvs k).getD .non) := by rw [List.map_map]; rfl
        rw [h2]
        have := pk.map fun k => (k, (valV kvs k).getD .non)
        rwa [← h1] at this
/-- a weight for each deed -/
def wKV (ds : List Str) (wf : Str → Nat) : List (L2.Key × V) := ds.map fun d => (Sum.inr d, V.int (wf d : Int))
theorem wKV_keys (ds : List Str) (wf : Str → Nat) : (wKV ds wf).map (·.1) = ds.map Sum.inr := by
  unfold wKV
  rw [List.map_map]
  rfl
theorem inr_nd {ds : List Str} (nd : ds.Nodup) : (ds.map (Sum.inr : Str → L2.Key)).Nodup := by
  unfold List.Nodup at *
  rw [List.pairwise_map]
  exact nd.imp fun ne e => ne (Sum.inr.inj e)
theorem inr_mem {ds : List Str} {x : Str} (h : (Sum.inr x : L2.Key) ∈ ds.map Sum.inr) : x ∈ ds := by
  obtain ⟨y, hy, e⟩ := List.mem_map.mp h
  rw [← Sum.inr.inj e]
  exact hy
def WAt (H : Hp) (q : Addr) (cs : List CA) (wf : Str → Nat) : Prop := ∃ ds : List Str, H q = some (.dK (wKV ds wf)) ∧ ds.Perm (uniq (dns cs))
theorem WAt.mono {H H' : Hp} {q : Addr} {cs : List CA} {wf : Str → Nat} (s : Same H H') (h : WAt H q cs wf) : WAt H' q cs wf := let ⟨ds, e, p⟩ := h; ⟨ds, s _ _ e, p⟩
theorem WAt.get {H : Hp} {q : Addr} {cs : List CA} {wf : Str → Nat} (h : WAt H q cs wf) : ∃ kvs, H q = some (.dK kvs) ∧ ∀ d ∈ dns cs, valV kvs (Sum.inr d) = some (.int (wf d : Int)) := by
  obtain ⟨ds, e, p⟩ := h
  refine ⟨_, e, fun d hd => valV_mem ?_ (List.mem_map.mpr ⟨d, p.mem_iff.mpr ((mem_uniq _ _).mpr hd), rfl⟩)⟩
  rw [wKV_keys]
  exact inr_nd (p.nodup_iff.mpr (uniq_nd _))
/-- ways' costs: the weight first, the steps behind it -/
abbrev wf2 (wf : Str → Nat) : Str → Cost := fun d => (wf d, 1)
abbrev FreeG (K : PySem.W.Frag) (mg : Str → Option Value) (aF aS : Addr) : Prop := mg "FREE" = some (.ref aF) ∧ KTup K aF (coV (0, 0)) ∧ mg "ONE_STEP" = some (.ref aS) ∧ KTup K aS (coV (0, 1))
def spWayCosts (K : PySem.W.Frag) (C : Addr) : Sp := fun vs H Q _ => ∃ (p a v : Addr) (cs : List CA) (wf : Str → Nat), vs = [.ref p, .ref v] ∧ BookAt K C H p a cs ∧ WAt H v cs wf ∧ ∀ H' q dn dn', Same H H' → H q = none → DoneAt K H' q dn' → dn'.Perm dn → (Kz.keys dn').map stK = ((Kz.keys dn).map stK).mergeSort Ka.kLe → Kz.Settled (endsS cs) (linesK (0, 1) (wf2 wf) cs) (0, 0) dn → (∀ x ∈ Kz.keys dn, x ∈ stagesS cs) → Q (.ref q) H'
abbrev nWc : List Str := ["book", "weights", "deed_costs", "deed"]
theorem scWc : FnScope nWc ["book", "weights"] (defScope sWayCosts) := ⟨rfl, rfl, rfl, by decide +kernel, rfl, by decide +kernel, by decide +kernel⟩
theorem doneKV_perm {T : List (Addr × (Stg × Cost))} {kvs : List (List L2.Key × V)} (h : kvs.Perm (doneKV T)) : ∃ T' : List (Addr × (Stg × Cost)), T'.Perm T ∧ kvs = doneKV T' := perm_of_map h T rfl
theorem ok_waycosts {f C fD fS fA aF aS : Addr} {fd fdD fdS fdA : FuncData} (F : Fun K "way_costs" "way_costs" sWayCosts f fd) (N : Nones mg) (B : BkC K mg C) (g_F : FreeG K mg aF aS) (GM_deeds : FnOk P w K mg base CX0 2 fD fdD ["self"] (spBkDeeds K C)) (bM_deeds : Binds K fdD ["self"] []) (m_deeds : Meth K C "deeds" fD)
    (G_settled : FnOk P w K mg base CX0 3 fS fdS ["book", "end", "deed_costs", "call"] (spSettled K C)) (C_settled : CallC K mg "settled" ["book", "end", "deed_costs", "call"] fS fdS) (G_ascending : FnOk P w K mg base CX0 1 fA fdA ["table"] spAsc) (C_ascending : CallC K mg "ascending" ["table"] fA fdA) : FnOk P w K mg base CX0 4 f fd ["book", "weights"] (spWayCosts K C) := by
  refine F.ok scWc (fun vs H Q E h => ?_) (fun cdv A outer s H vs Q E hr h => ?_)
  · obtain ⟨p, a, v, cs, wf, rfl, _⟩ := h
    rfl
  · obtain ⟨p, a, v, cs, wf, rfl, hB, hW, q⟩ := h
    obtain ⟨gF, kF, gS, kS⟩ := g_F
    refine ⟨_, pss_cons (Ka.ps_setDc (i := 2) (own := [("deed", 3)]) (g := gName 3) (tt := tYes) rfl scWc.nd rfl rfl (Ka.sw_dc rfl rfl rfl rfl) (pi_tup (pe_meth0 (pv 0) B.cl m_deeds GM_deeds (hr.mono (by decide)) bM_deeds .nil pass0)) (blkOk_by (own := [("deed", 3)]) (N := nWc) (sc := defScope sWayCosts) (by decide +kernel)) (fun _ _ _ _ _ => (pg_name (i := 3) scWc.nd rfl (Or.inl rfl))) (fun _ _ _ _ _ => pts_nil) (fun _ _ _ _ _ => (pv 3)) (fun _ _ _ _ _ => (pe_tup (pa_cons (pe_dget (hu_of hr) (pv 1) (pv 3) (fun _ _ => rfl)) (pa_cons pe_int pa_nil)))))
      (pss_one (ps_ret (pe_call G_ascending (hr.mono (by decide)) (by rfl) C_ascending.g C_ascending.kp C_ascending.b .nil pass0 (pa_cons (pe_call G_settled (hr.mono (by decide)) (by rfl) C_settled.g C_settled.kp C_settled.b .nil pass0 (pa_cons (pv 0) (pa_cons (pe_glob (v := .ref aF) rfl gF rfl) (pa_cons (pv 2) (pa_cons (pe_glob (v := .ref aS) rfl gS rfl) pa_nil))))) pa_nil)))), ?_⟩
    obtain ⟨dx, fs, P1, S1, E1, L1, S, hp, L, hC, ok, _⟩ := id hB
    obtain ⟨wkv, hw1, hw2⟩ := hW.get
    refine ⟨_, rfl, p, dx, fs, rfl, hp, L.no _ (by decide +kernel), p, a, cs, rfl, hB, fun H1 q1 ds s1 n1 e1 hperm hso => ?_⟩
    have d12 := ok.d12
    have st60 := ok.st
    have dl : ds.length ≤ 12 := by rw [hperm.length_eq]; exact d12
    have dn : ds.Nodup := hperm.nodup_iff.mpr (uniq_nd _)
    refine ⟨q1, rfl, ⟨_, sqT_new e1⟩, fun D nD => ?_⟩
    refine dcK_it (walk_tup (K := K) (a := q1) (xs := ds.map V.str)) (fun i G => ∃ L : List SA, Same H1 G ∧ G D = some (.dK (saKV L)) ∧ L.map (·.1) = ds.take i ∧ ∀ t ∈ L, G t.2 = some (.tup (coV (wf t.1, 1)))) ⟨[], same_new nD, upd_same, rfl, fun t ht => nomatch ht⟩ (fun _ _ _ h => sqT_new (h.choose_spec.1 _ _ e1)) (fun i x G G' hi h y => ?_) (fun G h => ?_)
    · obtain ⟨rfl, hy⟩ := y
      obtain ⟨d, hd, rfl⟩ := get_map hy
      obtain ⟨L, sG, eG, kL, tL⟩ := h
      have md : d ∈ dns cs := (mem_uniq _ _).mp (hperm.mem_iff.mp (List.mem_of_getElem? hd))
      have lL : L.length ≤ 12 := by
        have := congrArg List.length kL
        rw [List.length_map, List.length_take] at this
        omega
      have g : DGet G' v (.str d) (some (.int (wf d : Int))) := hw2 d md ▸ DGet.k (k := Sum.inr d) (sG _ _ (s1 _ _ hw1))
      refine ⟨rfl, .str d, rfl, _, rfl, .str d, rfl, v, _, rfl, g, smallE (by show 2 ≤ 1000000; decide), fun b nb => ?_⟩
      have sb := same_new (o := .tup [V.int (wf d : Int), V.int 1]) nb
      have eb : upd G' b (.tup [V.int (wf d : Int), V.int 1]) b = some (.tup [V.int (wf d : Int), V.int 1]) := upd_same
      have eD := sb _ _ eG
      generalize upd G' b (.tup [V.int (wf d : Int), V.int 1]) = Z at sb eb eD
      have nDt : ∀ {c : Addr} {xs : List V}, Z c = some (.tup xs) → c ≠ D := fun e w => by
        rw [w, eD] at e
        cases e
      refine ⟨saKV L, Sum.inr d, rfl, eD, by rw [saKV_len]; exact small (by omega), L ++ [(d, b)], fun c o e => ?_, ?_, ?_, fun t ht => ?_⟩
      · rw [upd_ne (ne_of_none e nD)]
        exact sb _ _ (sG _ _ e)
      · rw [upd_same, putK_new]
        · unfold saKV
          rw [List.map_append]
          rfl
        · rw [saKV_keys, kL]
          intro z
          have z := inr_mem z
          rw [← List.take_append_drop i ds, drop_of_get hd, List.nodup_append] at dn
          exact dn.2.2 _ z _ List.mem_cons_self rfl
      · rw [List.map_append, kL, take_of_get hd]
        rfl
      · rcases List.mem_append.mp ht with z | z
        · have a1 := sb _ _ (tL t z)
          rw [upd_ne (nDt a1)]
          exact a1
        · rw [List.mem_singleton.mp z, upd_ne (nDt eb)]
          exact eb
    · obtain ⟨L, sG, eG, kL, tL⟩ := h
      rw [List.length_map, List.take_of_length_le (Nat.le_refl _)] at kL
      have s2 := s1.trans sG
      refine ⟨_, rfl, _, rfl, p, a, aF, D, aS, cs, (0, 0), (0, 1), saKV L, wf2 wf, rfl, hB.mono s2, .inr kF, eG, .inr kS, fun l hl hcl => ?_, fun H2 r dn2 s3 nr hdn hset hsub => ?_⟩
      · obtain ⟨c, mc, pp, mp, e⟩ := mem_linesS.mp hl
        have mnm : l.2.nm ∈ dns cs := by
          have e2 : l.2 = pp.2 := by rw [e]
          rw [e2] at hcl ⊢
          exact dns_mem mc (List.mem_map.mpr ⟨pp, List.mem_filter.mpr ⟨mp, by rw [hcl]; rfl⟩, rfl⟩)
        have m2 : l.2.nm ∈ L.map (·.1) := by
          rw [kL]
          exact hperm.mem_iff.mpr ((mem_uniq _ _).mpr mnm)
        obtain ⟨t, ht, et⟩ := List.mem_map.mp m2
        refine ⟨t.2, valV_mem ?_ (List.mem_map.mpr ⟨t, ht, by rw [et]⟩), .inl ?_⟩
        · have := inr_nd dn
          rw [saKV_keys, kL]
          exact this
        · have := tL t ht
          rw [et] at this
          exact this
      · obtain ⟨T, t1, t2, t3⟩ := hdn
        have ndk : ((doneKV T).map (·.1)).Nodup := by
          rw [done_keys, t2]
          exact stK_nd hset.nd
        have lT : (doneKV T).length ≤ 60 := by
          have h1 : (doneKV T).length = (Kz.keys dn2).length := by
            rw [← t2]
            unfold doneKV Kz.keys
            rw [List.length_map, List.length_map, List.length_map]
          have h2 := nd_le hset.nd hsub
          have h3 := stagesS_len cs
          omega
        refine ⟨r, doneKV T, rfl, .inl t1, ndk, fun x hx => ?_, by omega, fun H3 q3 kvs' s4 n3 e3 hasc => ?_⟩
        · obtain ⟨t, ht, rfl⟩ := List.mem_map.mp hx
          exact ⟨_, rfl⟩
        · obtain ⟨T', pT, rfl⟩ := doneKV_perm hasc.2
          refine q H3 q3 dn2 (T'.map (·.2)) ((s2.trans s3).trans s4) (s2.free (s3.free n3)) ⟨T', e3, rfl, fun t ht => (t3 t (pT.mem_iff.mp ht)).mono s4⟩ ?_ ?_ hset hsub
          · rw [← t2]
            exact pT.map _
          · rw [← done_keys, hasc.1, done_keys, t2]
/-- least weights where they stand -/
def lwKV (dn : List (Stg × Cost)) : List (List L2.Key × V) := dn.map fun x => (stK x.1, V.int (x.2.1 : Int))
theorem lwKV_keys (dn : List (Stg × Cost)) : (lwKV dn).map (·.1) = (Kz.keys dn).map stK := by
  unfold lwKV Kz.keys
  rw [List.map_map, List.map_map]
  rfl
def spLeastW (K : PySem.W.Frag) (C : Addr) : Sp := fun vs H Q _ => ∃ (p a v : Addr) (cs : List CA) (wf : Str → Nat), vs = [.ref p, .ref v] ∧ BookAt K C H p a cs ∧ WAt H v cs wf ∧ ∀ H' q dn dn', Same H H' → H q = none → H' q = some (.dT (lwKV dn')) → dn'.Perm dn → (Kz.keys dn').map stK = ((Kz.keys dn).map stK).mergeSort Ka.kLe → Kz.Settled (endsS cs) (linesK (0, 1) (wf2 wf) cs) (0, 0) dn → (∀ x ∈ Kz.keys dn, x ∈ stagesS cs) → Q (.ref q) H'
abbrev nLw : List Str := ["book", "weights", "costs", "stage"]
theorem scLw : FnScope nLw ["book", "weights"] (defScope sLeastWeights) := ⟨rfl, rfl, rfl, by decide +kernel, rfl, by decide +kernel, by decide +kernel⟩
theorem ok_leastw {f C fW : Addr} {fd fdW : FuncData} (F : Fun K "least_weights" "least_weights" sLeastWeights f fd) (G_way_costs : FnOk P w K mg base CX0 4 fW fdW ["book", "weights"] (spWayCosts K C)) (C_way_costs : CallC K mg "way_costs" ["book", "weights"] fW fdW) : FnOk P w K mg base CX0 5 f fd ["book", "weights"] (spLeastW K C) := by
  refine F.ok scLw (fun vs H Q E h => ?_) (fun cdv A outer s H vs Q E hr h => ?_)
  · obtain ⟨p, a, v, cs, wf, rfl, _⟩ := h
    rfl
  · obtain ⟨p, a, v, cs, wf, rfl, hB, hW, q⟩ := h
    refine ⟨_, pss_cons (ps_set (i := 2) scLw.nd rfl (Or.inr rfl) (pe_call G_way_costs (hr.mono (by decide)) (by rfl) C_way_costs.g C_way_costs.kp C_way_costs.b .nil pass0 (pa_cons (pv 0) (pa_cons (pv 1) pa_nil))))
      (pss_one (ps_ret (pe_lock (Ka.pe_dcT (own := [("stage", 3)]) (g := gName 3) rfl (hu_of hr) scLw.nd (pi_keys (pv 2)) (blkOk_by (own := [("stage", 3)]) (N := nLw) (sc := defScope sLeastWeights) (by decide +kernel)) (fun _ _ _ _ _ => (pg_name (i := 3) scLw.nd rfl (Or.inl rfl))) (fun _ _ _ _ _ => (pv 3)) (fun _ _ _ _ _ => (pe_ix (ixT_at (K := K) rfl) (pe_dget (hu_of hr) (pv 2) (pv 3) (fun _ _ => rfl)) pe_int (fun _ _ => rfl))))))), ?_⟩
    refine ⟨_, rfl, _, rfl, p, a, v, cs, wf, rfl, hB, hW, fun Z D dn dn' sZ nD hdn pdn ksrt hset hsub => ?_⟩
    obtain ⟨_, _, _, _, _, _, _, _, _, _, ok, _⟩ := hB
    have st60 := ok.st
    obtain ⟨T, eZ, rfl, t3⟩ := hdn
    have ndk : ((doneKV T).map (·.1)).Nodup := by
      rw [done_keys, ksrt]
      exact (List.mergeSort_perm _ _).nodup_iff.mpr (stK_nd hset.nd)
    have lT : (doneKV T).length ≤ 60 := by
      have h1 : (doneKV T).length = (Kz.keys dn).length := by
        unfold doneKV Kz.keys
        rw [List.length_map, List.length_map, ← pdn.length_eq, List.length_map]
      have h2 := nd_le hset.nd hsub
      have h3 := stagesS_len cs
      omega
    refine ⟨D, _, eZ, True.intro, fun od => ?_⟩
    generalize hL : upd Z D (.frz od (.dT (doneKV T))) = L
    have fL : L D = some (.frz od (.dT (doneKV T))) := by rw [← hL]; exact upd_same
    have kL : But D Z L := by rw [← hL]; exact But.upd
    have sL : Same H L := fun b o e => kL _ _ (ne_of_none e nD) (sZ _ _ e)
    have cL : ∀ t ∈ T, CoAt K L t.1 t.2.2 := fun t ht => (t3 t ht).ts fun c xs e => kL _ _ (fun z => by rw [z, eZ] at e; cases e) e
    refine ⟨_, rfl, D, od, rfl, .inr ⟨doneKV T, fL, fun D2 nD2 => ?_⟩⟩
    refine dcT_it (walk_keysT (d := D) (o := od) (kvs := doneKV T)) (fun i Y => Same L Y ∧ Y D2 = some (.dT (lwKV ((T.take i).map (·.2))))) ⟨same_new nD2, upd_same⟩ (fun _ _ _ h => h.1 _ _ fL) (fun i x Y Y' hi h y => ?_) (fun Y h => ?_)
    · obtain ⟨rfl, k, v2, b, hkv, rfl, hb⟩ := y
      obtain ⟨sY, eY⟩ := h
      obtain ⟨t, ht, e⟩ := get_map hkv
      cases e
      have mt := List.mem_of_getElem? ht
      have hv : valV (doneKV T) (stK t.2.1) = some (.ref t.1) := valV_mem ndk (List.mem_map.mpr ⟨t, mt, rfl⟩)
      have hG : DGet Y' D (.ref b) (some (.ref t.1)) := .inr ⟨doneKV T, stK t.2.1, b, .inr ⟨od, sY _ _ fL⟩, rfl, hb, hv.symm⟩
      refine ⟨rfl, _, rfl, _, rfl, _, rfl, D, _, rfl, hG, t.1, _, _, .int (t.2.2.1 : Int), rfl, rfl, ((cL t mt).mono sY).sq, rfl, ?_⟩
      refine ⟨_, stK t.2.1, b, rfl, hb, eY, ?_, fun c o e => ?_, ?_⟩
      · unfold lwKV
        rw [List.length_map, List.length_map, List.length_take]
        have h1 : (doneKV T).length = T.length := by unfold doneKV; rw [List.length_map]
        exact small (by omega)
      · rw [upd_ne (ne_of_none e nD2)]
        exact sY _ _ e
      · rw [upd_same, putK_new, take_of_get ht]
        · unfold lwKV
          rw [List.map_append, List.map_append]
          rfl
        · rw [lwKV_keys]
          intro z
          obtain ⟨y, hy, e⟩ := List.mem_map.mp z
          have e := stK_inj e
          rw [e] at hy
          obtain ⟨u, hu, e5⟩ := List.mem_map.mp hy
          obtain ⟨w2, hw2, e6⟩ := List.mem_map.mp hu
          have nd2 := ndk
          unfold doneKV at nd2
          rw [List.map_map, ← List.take_append_drop i T, List.map_append, drop_of_get ht, List.map_cons, List.nodup_append] at nd2
          refine nd2.2.2 _ (List.mem_map.mpr ⟨w2, hw2, rfl⟩) _ List.mem_cons_self ?_
          show stK w2.2.1 = stK t.2.1
          rw [e6, e5]
    · obtain ⟨sY, eY⟩ := h
      have h1 : (doneKV T).length = T.length := by unfold doneKV; rw [List.length_map]
      rw [h1, List.take_length] at eY
      have nY : ∀ {c : Addr} {o : HO}, Y c = some o → (∀ u, o ≠ .frz od u) → c ≠ D := fun e h2 z => by
        rw [z, sY _ _ fL] at e
        exact h2 _ (Option.some.inj e).symm
      refine ⟨sY _ _ fL, q _ D2 dn (T.map (·.2)) (fun b o e => ?_) (sL.free nD2) ?_ pdn ksrt hset hsub⟩
      · rw [upd_ne (ne_of_none e nD)]
        exact sY _ _ (sL _ _ e)
      · rw [upd_ne (nY eY fun _ => fun e => by cases e)]
        exact eY
end
end Kb
namespace Kb
open PySem PySem.Spec PyProof.Rows L2
/-! ### least ways -/
def baseS (wf : Str → Nat) (s : Stp) : Cost := if s.call = true then (0, 1) else (wf s.nm, 1)
theorem kind_call (c : Bool) : decide (V.str (kindS c) = V.str (Str.ofString "call")) = c := by
  cases c <;> decide +kernel
/-- costs that may be locked -/
def DoneRd (K : PySem.W.Frag) (H : Hp) (q : Addr) (dn : List (Stg × Cost)) : Prop := ∃ T : List (Addr × (Stg × Cost)), Rd H q (.dT (doneKV T)) ∧ T.map (·.2) = dn ∧ ∀ t ∈ T, CoAt K H t.1 t.2.2
theorem DoneRd.mono {K : PySem.W.Frag} {H H' : Hp} {q : Addr} {dn : List (Stg × Cost)} (s : Same H H') (h : DoneRd K H q dn) : DoneRd K H' q dn := by
  obtain ⟨T, h1, h2, h3⟩ := h
  exact ⟨T, Rd.mono h1 s, h2, fun t ht => (h3 t ht).mono s⟩
/-- the step k of the stage keeps to the costs -/
def StepFits (wf : Str → Nat) (dn : List (Stg × Cost)) (c : CA) (x : Stg) (k : Nat) : Prop := ∃ s, c.ss[k]? = some s ∧ (∀ p ∈ partsS c.nm s.2, p ∈ Kz.keys dn) ∧ Kz.lcF (Kz.vf dn) (partsS c.nm s.2) (baseS wf s.2) = Kz.vf dn x
/-- the first way: none is the end, some k the step k -/
def WayIs (cs : List CA) (wf : Str → Nat) (dn : List (Stg × Cost)) (x : Stg) (W : Option Nat) : Prop :=
  (x ∈ endsS cs ∧ W = none) ∨ (x ∉ endsS cs ∧ ∃ c ∈ cs, x.1 = c.nm ∧ ∃ i k : Nat, (offs c x.2)[i]? = some k ∧ W = some k ∧ StepFits wf dn c x k ∧ ∀ j k' : Nat, j < i → (offs c x.2)[j]? = some k' → ¬ StepFits wf dn c x k')
def wayV : Option Nat → List V
  | none => [.str "end"]
  | some k => [.str "step", .int (k : Int)]
theorem co_dp {K : PySem.W.Frag} {H : Hp} {q : Addr} {c : Cost} (h : CoAt K H q c) : Dp K H (.ref q) (.tuple [.int (c.1 : Int), .int (c.2 : Int)]) := Dp.tup h.sq (.cons (.int _) (.cons (.int _) .nil))
theorem eqv_co (a b : Cost) : PyData.eqv (.tuple [.int (a.1 : Int), .int (a.2 : Int)]) (.tuple [.int (b.1 : Int), .int (b.2 : Int)]) = decide (a = b) := by
  rw [Bool.eq_iff_iff]
  simp [PyData.eqv, PyData.eqvAll]
  constructor
  · rintro ⟨h1, h2⟩
    exact Prod.ext (by omega) (by omega)
  · rintro rfl
    exact ⟨rfl, rfl⟩
section
variable {P : Program} {w : World} {K : PySem.W.Frag} {mg : Str → Option Value} {base : Heap}
def spBaseCost (K : PySem.W.Frag) : Sp := fun vs H Q _ => ∃ (b v : Addr) (s : Stp) (cs : List CA) (wf : Str → Nat), vs = [.ref b, .ref v] ∧ H b = some (.tup (stpV s)) ∧ WAt H v cs wf ∧ (s.call = false → s.nm ∈ dns cs) ∧ ∀ H' q, Same H H' → CoAt K H' q (baseS wf s) → Q (.ref q) H'
abbrev nBc : List Str := ["step", "weights"]
theorem scBc : FnScope nBc ["step", "weights"] (defScope sBaseCost) := ⟨rfl, rfl, rfl, by decide +kernel, rfl, by decide +kernel, by decide +kernel⟩
theorem ok_basecost {f aF aS : Addr} {fd : FuncData} (F : Fun K "base_cost" "base_cost" sBaseCost f fd) (g_F : FreeG K mg aF aS) : FnOk P w K mg base CX0 1 f fd ["step", "weights"] (spBaseCost K) := by
  refine F.ok scBc (fun vs H Q E h => ?_) (fun cdv A outer s0 H vs Q E hr h => ?_)
  · obtain ⟨b, v, s, cs, wf, rfl, _⟩ := h
    rfl
  · obtain ⟨b, v, s, cs, wf, rfl, hb, hW, hd, q⟩ := h
    obtain ⟨gF, kF, gS, kS⟩ := g_F
    refine ⟨_, pss_one (ps_ret (pe_ifExp (pt_cmpR op_eq (pe_ix ix_tup (pv 0) pe_int (fun _ _ => rfl)) pe_str (nomark _)) (pe_glob (v := .ref aS) rfl gS rfl) (pe_tup (pa_cons (pe_dget (hu_of hr) (pv 1) (pe_ix ix_tup (pv 0) pe_int (fun _ _ => rfl)) (fun _ _ => rfl)) (pa_cons pe_int pa_nil))))), ?_⟩
    refine ⟨_, rfl, b, _, _, .str (kindS s.call), rfl, rfl, sqT_new hb, rfl, rfl, ?_⟩
    rw [kind_call]
    cases hc : s.call with
    | true =>
      refine ⟨_, rfl, iteYes rfl ?_⟩
      refine q H aS (fun _ _ e => e) (.inr ?_)
      unfold baseS
      rw [if_pos hc]
      exact kS
    | false =>
      refine ⟨_, rfl, iteNo rfl ?_⟩
      obtain ⟨kvs, h1, h2⟩ := hW.get
      have g : DGet H v (.str s.nm) (some (.int (wf s.nm : Int))) := h2 s.nm (hd hc) ▸ DGet.k (k := Sum.inr s.nm) h1
      refine ⟨_, rfl, _, rfl, b, _, _, .str s.nm, rfl, rfl, sqT_new hb, rfl, v, _, rfl, g, smallE (by show 2 ≤ 1000000; decide), fun r nr => ?_⟩
      refine q _ r (same_new nr) (.inl ?_)
      unfold baseS
      rw [if_neg (by rw [hc]; exact Bool.false_ne_true)]
      exact upd_same
def spFirstWay (K : PySem.W.Frag) (C : Addr) : Sp := fun vs H Q _ => ∃ (p a v d b : Addr) (cs : List CA) (wf : Str → Nat) (dn : List (Stg × Cost)) (x : Stg), vs = [.ref p, .ref v, .ref d, .ref b] ∧ BookAt K C H p a cs ∧ WAt H v cs wf ∧ DoneRd K H d dn ∧ (Kz.keys dn).Nodup ∧ x ∈ stagesS cs ∧ x ∈ Kz.keys dn ∧ (x ∈ endsS cs ∨ ∃ c ∈ cs, x.1 = c.nm ∧ ∃ k ∈ offs c x.2, StepFits wf dn c x k) ∧ H b = some (.tup (stV x)) ∧ ∀ H' q W, Same H H' → H q = none → H' q = some (.tup (wayV W)) → WayIs cs wf dn x W → Q (.ref q) H'
abbrev nFw : List Str := ["book", "weights", "costs", "stage", "steps", "k", "parts"]
theorem scFw : FnScope nFw ["book", "weights", "costs", "stage"] (defScope sFirstWay) := ⟨rfl, rfl, rfl, by decide +kernel, rfl, by decide +kernel, by decide +kernel⟩
theorem ok_firstway {f C fE fS fO fA fW fB : Addr} {fd fdE fdS fdO fdA fdW fdB : FuncData} (F : Fun K "first_way" "first_way" sFirstWay f fd) (B : BkC K mg C) (GM_is_end : FnOk P w K mg base CX0 1 fE fdE ["self", "stage"] (spBkIsEnd K C)) (bM_is_end : Binds K fdE ["self", "stage"] []) (m_is_end : Meth K C "is_end" fE)
    (GM_steps : FnOk P w K mg base CX0 1 fS fdS ["self", "course"] (spBkSteps K C)) (bM_steps : Binds K fdS ["self", "course"] []) (m_steps : Meth K C "steps" fS) (G_steps_out : FnOk P w K mg base CX0 2 fO fdO ["book", "stage"] (spStepsOut K C)) (C_steps_out : CallC K mg "steps_out" ["book", "stage"] fO fdO)
    (G_all_in : FnOk P w K mg base CX0 1 fA fdA ["parts", "table"] (spAllIn K)) (C_all_in : CallC K mg "all_in" ["parts", "table"] fA fdA) (G_with_parts : FnOk P w K mg base CX0 1 fW fdW ["base", "parts", "costs"] (spWithP K)) (C_with_parts : CallC K mg "with_parts" ["base", "parts", "costs"] fW fdW) (G_base_cost : FnOk P w K mg base CX0 1 fB fdB ["step", "weights"] (spBaseCost K)) (C_base_cost : CallC K mg "base_cost" ["step", "weights"] fB fdB) : FnOk P w K mg base CX0 3 f fd ["book", "weights", "costs", "stage"] (spFirstWay K C) := by
  refine F.ok scFw (fun vs H Q E h => ?_) (fun cdv A outer s H vs Q E hr h => ?_)
  · obtain ⟨p, a, v, d, b, cs, wf, dn, x, rfl, _⟩ := h
    rfl
  · obtain ⟨p, a, v, d, b, cs, wf, dn, x, rfl, hB, hW, hd, nd, hxs, hxk, hfit, hb, q⟩ := h
    refine ⟨_, pss_cons (ps_if (pt_val (pe_meth (pv 0) B.cl m_is_end GM_is_end (hr.mono (by decide)) bM_is_end .nil pass0 (pa_cons (pv 3) pa_nil))) (pss_one (ps_ret (pe_tup (pa_cons pe_str pa_nil)))) pss_nil)
      (pss_cons (ps_set (i := 4) scFw.nd rfl (Or.inl rfl) (pe_meth (pv 0) B.cl m_steps GM_steps (hr.mono (by decide)) bM_steps .nil pass0 (pa_cons (pe_ix ix_tup (pv 3) pe_int (fun _ _ => rfl)) pa_nil)))
      (pss_cons (ps_for PassesOwn.never rfl (pi_list (pe_call G_steps_out (hr.mono (by decide)) (by rfl) C_steps_out.g C_steps_out.kp C_steps_out.b .nil pass0 (pa_cons (pv 0) (pa_cons (pv 3) pa_nil)))) (pg_tup rfl (pgs_cons (pg_name (i := 5) scFw.nd rfl (Or.inl rfl)) (pgs_cons (pg_name (i := 6) scFw.nd rfl (Or.inl rfl)) pgs_nil)))
        (pss_one (ps_if (PW.pt (pw_and (pt_val (pe_call G_all_in (hr.mono (by decide)) (by rfl) C_all_in.g C_all_in.kp C_all_in.b .nil pass0 (pa_cons (pv 6) (pa_cons (pv 2) pa_nil)))) (pw_and1 (pt_cmpR (op_eqD hr.units) (pe_call G_with_parts (hr.mono (by decide)) (by rfl) C_with_parts.g C_with_parts.kp C_with_parts.b .nil pass0 (pa_cons (pe_call G_base_cost (hr.mono (by decide)) (by rfl) C_base_cost.g C_base_cost.kp C_base_cost.b .nil pass0 (pa_cons (pe_ix ix_tup (pv 4) (pv 5) (fun _ _ => rfl)) (pa_cons (pv 1) pa_nil))) (pa_cons (pv 6) (pa_cons (pv 2) pa_nil)))) (pe_dget (hu_of hr) (pv 2) (pv 3) (fun _ _ => rfl)) (nomark _))))) (pss_one (ps_ret (pe_tup (pa_cons pe_str (pa_cons (pv 5) pa_nil))))) pss_nil)))
      (pss_one (ps_ret pe_non)))), ?_⟩
    obtain ⟨dx, fs, P1, S1, E1, L1, S, hp, L, hC, ok, _⟩ := id hB
    obtain ⟨c, mc, n1, n2⟩ := mem_stagesS.mp hxs
    obtain ⟨sn, sk⟩ := x
    have n1 : sn = c.nm := n1
    subst n1
    have n2 : sk < c.n := n2
    refine ⟨_, rfl, p, dx, fs, rfl, hp, L.no _ (by decide +kernel), _, rfl, p, a, b, cs, c, sk, rfl, hB, mc, hb, ?_⟩
    refine ⟨_, rfl, ite2 (fun c0 => ?_) (fun c0 => ?_)⟩
    · refine ⟨smallE (by show 1 ≤ 1000000; decide), fun r nr => ?_⟩
      exact q _ r none (same_new nr) nr upd_same (.inl ⟨(end_iff ok mc sk).mpr (of_decide_eq_true c0), rfl⟩)
    · have he : (c.nm, sk) ∉ endsS cs := fun z => c0 (decide_eq_true ((end_iff ok mc sk).mp z))
      have cc := hC.2 c mc
      refine ⟨_, rfl, p, dx, fs, rfl, hp, L.no _ (by decide +kernel), _, rfl, b, _, _, .str c.nm, rfl, rfl, sqT_new hb, rfl, p, a, cs, c, rfl, hB, mc, ?_⟩
      refine ⟨_, rfl, _, rfl, p, a, b, cs, c, sk, rfl, hB, mc, n2, hb, fun Z1 l s1 nl hl => ?_⟩
      obtain ⟨OL, hl, kO, tO⟩ := hl
      refine ⟨l, rfl, ⟨_, sqL_new hl⟩, ?_⟩
      refine for_it (walk_list (K := K) (a := l) (xs := OL.map fun t => V.ref t.1)) (fun j σ G => ∃ x5 x6 : Option V, σ = [some (.ref p), some (.ref v), some (.ref d), some (.ref b), some (.ref c.sa), x5, x6] ∧ Same Z1 G ∧ ∀ j' k', j' < j → (offs c sk)[j']? = some k' → ¬ StepFits wf dn c (c.nm, sk) k') ⟨none, none, rfl, (fun _ _ e => e), fun j' _ h => absurd h (Nat.not_lt_zero _)⟩ (fun _ _ _ _ ⟨_, _, _, s, _⟩ => sqL_new (s _ _ hl)) (fun j x σ G G' hj h y => ?_) (fun σ G h => ?_)
      · obtain ⟨rfl, hy⟩ := y
        obtain ⟨t, ht, rfl⟩ := get_map hy
        obtain ⟨y5, y6, rfl, sG, no⟩ := h
        have mt := List.mem_of_getElem? ht
        have hoj : (offs c sk)[j]? = some t.2.1 := by rw [← kO, List.getElem?_map, ht]; rfl
        obtain ⟨s0, hs, en⟩ := mem_offs.mp (List.mem_of_getElem? hoj)
        obtain ⟨ht1, ht2⟩ := tO t mt
        have pts := (ht2 s0 hs).mono sG
        have sHG := s1.trans sG
        have hdG := hd.mono sHG
        obtain ⟨T, hT1, hT2, hT3⟩ := hdG
        have ndk : ((doneKV T).map (·.1)).Nodup := by
          rw [done_keys, hT2]
          exact stK_nd nd
        refine ⟨t.1, _, rfl, sqT_new (sG _ _ ht1), rfl, _, _, rfl, _, _, rfl, rfl, ?_⟩
        refine ⟨_, rfl, _, rfl, t.2.2, d, partsS c.nm s0.2, doneKV T, rfl, pts, by have := partsS_len c.nm s0.2; omega, hT1, fun Z2 s3 => ?_⟩
        have sHZ := sHG.trans s3
        have all : ((partsS c.nm s0.2).all fun x => (valV (doneKV T) (stK x)).isSome) = true ↔ ∀ p ∈ partsS c.nm s0.2, p ∈ Kz.keys dn := by
          rw [List.all_eq_true]
          exact ⟨fun h p hp => by have := h p hp; rw [done_some, hT2] at this; exact of_decide_eq_true this, fun h p hp => by rw [done_some, hT2]; exact decide_eq_true (h p hp)⟩
        have nofit : ∀ {Z : Hp}, Same Z1 Z → ¬ StepFits wf dn c (c.nm, sk) t.2.1 → ∃ x5 x6 : Option V, [some (V.ref p), some (.ref v), some (.ref d), some (.ref b), some (.ref c.sa), some (.int (t.2.1 : Int)), some (.ref t.2.2)] = [some (V.ref p), some (.ref v), some (.ref d), some (.ref b), some (.ref c.sa), x5, x6] ∧ Same Z1 Z ∧ ∀ j' k' : Nat, j' < j + 1 → (offs c sk)[j']? = some k' → ¬ StepFits wf dn c (c.nm, sk) k' := fun sz hn => ⟨_, _, rfl, sz, fun j' k' hj' hk' => by
          by_cases e : j' < j
          · exact no j' k' e hk'
          · obtain rfl : j' = j := by omega
            rw [hoj] at hk'
            cases hk'
            exact hn⟩
        refine ⟨_, rfl, ite2 (fun c1 => ?_) (fun c1 => ?_)⟩
        · have hall := all.mp c1
          have sa : (c.ss.map fun p => V.ref p.1)[t.2.1]? = some (.ref s0.1) := by rw [List.getElem?_map, hs]; rfl
          have ms := List.mem_of_getElem? hs
          refine ⟨_, rfl, _, rfl, c.sa, _, _, .ref s0.1, rfl, rfl, Same.sqT sHZ cc.s, atI_nat sa, _, rfl, s0.1, v, s0.2, cs, wf, rfl, sHZ _ _ (cc.p s0 ms), hW.mono sHZ, fun hcl => dns_mem mc (List.mem_map.mpr ⟨s0, List.mem_filter.mpr ⟨ms, by rw [hcl]; rfl⟩, rfl⟩), fun Z3 r s4 hr3 => ?_⟩
          have sHY := sHZ.trans s4
          refine ⟨_, rfl, _, rfl, r, t.2.2, d, baseS wf s0.2, partsS c.nm s0.2, doneKV T, Kz.vf dn, rfl, hr3, pts.mono (s3.trans s4), Rd.mono hT1 (s3.trans s4), fun x hx => ?_, fun Z4 r2 s5 nr2 e2 => ?_⟩
          · obtain ⟨u, hu, e1, e2⟩ := done_val (by rw [hT2]; exact nd) (T := T) (x := x) (by rw [hT2]; exact hall x hx)
            refine ⟨u.1, e2, ?_⟩
            have := (hT3 u hu).mono (s3.trans s4)
            rw [e1, hT2] at this
            exact this
          · have sHX := sHY.trans s5
            obtain ⟨u, hu, e1, e3⟩ := done_val (by rw [hT2]; exact nd) (T := T) (x := (c.nm, sk)) (by rw [hT2]; exact hxk)
            have hu2 := (hT3 u hu).mono ((s3.trans s4).trans s5)
            rw [e1, hT2] at hu2
            have g : DGet Z4 d (.ref b) (some (.ref u.1)) := .inr ⟨doneKV T, stK (c.nm, sk), b, Rd.mono hT1 ((s3.trans s4).trans s5), rfl, sHX _ _ hb, e3.symm⟩
            refine ⟨_, rfl, _, rfl, d, _, rfl, g, _, _, co_dp (.inl e2), co_dp hu2, by rfl, by rfl, ?_⟩
            rw [eqv_co]
            refine ⟨_, rfl, ite2 (fun c2 => ?_) (fun c2 => ?_)⟩
            · have c2 := of_decide_eq_true c2
              refine ⟨_, rfl, smallE (by show 2 ≤ 1000000; decide), fun r3 nr3 => ?_⟩
              exact q _ r3 (some t.2.1) (sHX.trans (same_new nr3)) (sHX.free nr3) upd_same (.inr ⟨he, c, mc, rfl, j, t.2.1, hoj, rfl, ⟨s0, hs, hall, c2⟩, no⟩)
            · exact nofit ((sG.trans s3).trans (s4.trans s5)) fun ⟨s9, h9, _, e9⟩ => by
                rw [hs] at h9
                cases h9
                exact c2 (decide_eq_true e9)
        · exact nofit (sG.trans s3) fun ⟨s9, h9, hp9, _⟩ => by
            rw [hs] at h9
            cases h9
            exact c1 (all.mpr hp9)
      · obtain ⟨y5, y6, rfl, sG, no⟩ := h
        exfalso
        rcases hfit with h | ⟨c', mc', e1, k, hk, hf⟩
        · exact he h
        · have := same_course ok.nd mc' mc e1.symm
          subst this
          obtain ⟨j, hj⟩ := List.getElem?_of_mem hk
          refine no j k ?_ hj hf
          have := lt_of_get hj
          rw [← kO, List.length_map] at this
          rw [List.length_map]
          exact this
end
end Kb
namespace Kb
open PySem PySem.Spec PyProof.Rows L2
/-! ### least_ways, price_ways, least_prices -/
theorem vf_perm {dn dn' : List (Stg × Cost)} (p : dn'.Perm dn) (nd : (Kz.keys dn).Nodup) {x : Stg} (h : x ∈ Kz.keys dn) : Kz.vf dn' x = Kz.vf dn x := by
  have nd' : (Kz.keys dn').Nodup := (show (Kz.keys dn').Perm (Kz.keys dn) from p.map _).nodup_iff.mpr nd
  exact Kz.vf_mem nd' (p.mem_iff.mpr (Kz.mem_vf h))
theorem keys_perm {dn dn' : List (Stg × Cost)} (p : dn'.Perm dn) (x : Stg) : x ∈ Kz.keys dn' ↔ x ∈ Kz.keys dn := (show (Kz.keys dn').Perm (Kz.keys dn) from p.map _).mem_iff
theorem StepFits.perm {wf : Str → Nat} {dn dn' : List (Stg × Cost)} (p : dn'.Perm dn) (nd : (Kz.keys dn).Nodup) {c : CA} {x : Stg} (hx : x ∈ Kz.keys dn) (k : Nat) : StepFits wf dn' c x k ↔ StepFits wf dn c x k := by
  unfold StepFits
  constructor
  · rintro ⟨s, h1, h2, h3⟩
    have h4 : ∀ p ∈ partsS c.nm s.2, p ∈ Kz.keys dn := fun q hq => (keys_perm p q).mp (h2 q hq)
    refine ⟨s, h1, h4, ?_⟩
    rw [vf_perm p nd hx] at h3
    rw [← h3]
    exact (Kz.lcF_congr _ fun q hq => vf_perm p nd (h4 q hq)).symm
  · rintro ⟨s, h1, h2, h3⟩
    refine ⟨s, h1, fun q hq => (keys_perm p q).mpr (h2 q hq), ?_⟩
    rw [vf_perm p nd hx, ← h3]
    exact Kz.lcF_congr _ fun q hq => vf_perm p nd (h2 q hq)
theorem WayIs.perm {cs : List CA} {wf : Str → Nat} {dn dn' : List (Stg × Cost)} (p : dn'.Perm dn) (nd : (Kz.keys dn).Nodup) {x : Stg} (hx : x ∈ Kz.keys dn) {W : Option Nat} (h : WayIs cs wf dn' x W) : WayIs cs wf dn x W := by
  rcases h with h | ⟨h1, c, mc, e1, i, k, h2, h3, h4, h5⟩
  · exact .inl h
  · exact .inr ⟨h1, c, mc, e1, i, k, h2, h3, (StepFits.perm p nd hx k).mp h4, fun j k' hj hk' hf => h5 j k' hj hk' ((StepFits.perm p nd hx k').mpr hf)⟩
theorem ln_base (wf : Str → Nat) (l : LN) : (lnOf (0, 1) (wf2 wf) l).base = baseS wf l.2 := rfl
/-- each settled stage has a way that fits -/
theorem fit_ex {cs : List CA} (ok : CsOk cs) {wf : Str → Nat} {dn : List (Stg × Cost)} (S : Kz.Settled (endsS cs) (linesK (0, 1) (wf2 wf) cs) (0, 0) dn) {x : Stg} (hx : x ∈ Kz.keys dn) : x ∈ endsS cs ∨ ∃ c ∈ cs, x.1 = c.nm ∧ ∃ k ∈ offs c x.2, StepFits wf dn c x k := by
  have hy := Kz.mem_vf hx
  obtain ⟨i, gi⟩ := List.getElem?_of_mem hy
  rcases S.just i x _ gi with ⟨he, _⟩ | ⟨ln, hl, hu, hp, e⟩
  · exact .inl he
  · obtain ⟨l, hl2, rfl⟩ := List.mem_map.mp hl
    obtain ⟨c, mc, q, hq, rfl⟩ := mem_linesS.mp hl2
    have hu : (c.nm, q.2.n) = x := hu
    subst hu
    obtain ⟨k, hk⟩ := List.getElem?_of_mem hq
    have tk : ∀ {p : Stg}, p ∈ Kz.keys (dn.take i) → p ∈ Kz.keys dn ∧ Kz.vf (dn.take i) p = Kz.vf dn p := fun {p} h => by
      have := Kz.vf_app (dn.drop i) h
      rw [List.take_append_drop] at this
      refine ⟨?_, this.symm⟩
      rw [← List.take_append_drop i dn, Kz.keys_app]
      exact List.mem_append_left _ h
    have hp : ∀ p ∈ partsS c.nm q.2, p ∈ Kz.keys (dn.take i) := hp
    refine .inr ⟨c, mc, rfl, k, mem_offs.mpr ⟨q, hk, rfl⟩, q, hk, fun p h => (tk (hp p h)).1, ?_⟩
    rw [e]
    exact (Kz.lcF_congr _ fun p h => (tk (hp p h)).2).symm
/-- ways where they stand -/
abbrev WA := Addr × (Stg × Option Nat)
def wyKV (M : List WA) : List (List L2.Key × V) := M.map fun t => (stK t.2.1, V.ref t.1)
theorem wy_keys (M : List WA) : (wyKV M).map (·.1) = (M.map (·.2.1)).map stK := by
  unfold wyKV
  rw [List.map_map, List.map_map]
  rfl
def WaysAt (H : Hp) (q : Addr) (M : List WA) : Prop := H q = some (.dT (wyKV M)) ∧ ∀ t ∈ M, H t.1 = some (.tup (wayV t.2.2))
theorem WaysAt.mono {H H' : Hp} {q : Addr} {M : List WA} (s : Same H H') (h : WaysAt H q M) : WaysAt H' q M := ⟨s _ _ h.1, fun t ht => s _ _ (h.2 t ht)⟩
section
variable {P : Program} {w : World} {K : PySem.W.Frag} {mg : Str → Option Value} {base : Heap}
def spLeastWays (K : PySem.W.Frag) (C : Addr) : Sp := fun vs H Q _ => ∃ (p a v : Addr) (cs : List CA) (wf : Str → Nat), vs = [.ref p, .ref v] ∧ BookAt K C H p a cs ∧ WAt H v cs wf ∧ ∀ H' q dn M, Same H H' → H q = none → WaysAt H' q M → (M.map (·.2.1)).map stK = ((Kz.keys dn).map stK).mergeSort Ka.kLe → Kz.Settled (endsS cs) (linesK (0, 1) (wf2 wf) cs) (0, 0) dn → (∀ x ∈ Kz.keys dn, x ∈ stagesS cs) → (∀ t ∈ M, WayIs cs wf dn t.2.1 t.2.2) → Q (.ref q) H'
abbrev nLys : List Str := ["book", "weights", "costs", "stage"]
theorem scLys : FnScope nLys ["book", "weights"] (defScope sLeastWays) := ⟨rfl, rfl, rfl, by decide +kernel, rfl, by decide +kernel, by decide +kernel⟩
theorem ok_leastways {f C fC fF : Addr} {fd fdC fdF : FuncData} (F : Fun K "least_ways" "least_ways" sLeastWays f fd) (G_way_costs : FnOk P w K mg base CX0 4 fC fdC ["book", "weights"] (spWayCosts K C)) (C_way_costs : CallC K mg "way_costs" ["book", "weights"] fC fdC)
    (G_first_way : FnOk P w K mg base CX0 3 fF fdF ["book", "weights", "costs", "stage"] (spFirstWay K C)) (C_first_way : CallC K mg "first_way" ["book", "weights", "costs", "stage"] fF fdF) : FnOk P w K mg base CX0 5 f fd ["book", "weights"] (spLeastWays K C) := by
  refine F.ok scLys (fun vs H Q E h => ?_) (fun cdv A outer s H vs Q E hr h => ?_)
  · obtain ⟨p, a, v, cs, wf, rfl, _⟩ := h
    rfl
  · obtain ⟨p, a, v, cs, wf, rfl, hB, hW, q⟩ := h
    refine ⟨_, pss_cons (ps_set (i := 2) scLys.nd rfl (Or.inr rfl) (pe_call G_way_costs (hr.mono (by decide)) (by rfl) C_way_costs.g C_way_costs.kp C_way_costs.b .nil pass0 (pa_cons (pv 0) (pa_cons (pv 1) pa_nil))))
      (pss_one (ps_ret (pe_lock (Ka.pe_dcT (own := [("stage", 3)]) (g := gName 3) rfl (hu_of hr) scLys.nd (pi_keys (pv 2)) (blkOk_by (own := [("stage", 3)]) (N := nLys) (sc := defScope sLeastWays) (by decide +kernel)) (fun _ _ _ _ _ => (pg_name (i := 3) scLys.nd rfl (Or.inl rfl))) (fun _ _ _ _ _ => (pv 3)) (fun _ _ _ _ _ => (pe_call G_first_way (hr.mono (by decide)) (by rfl) C_first_way.g C_first_way.kp C_first_way.b .nil pass0 (pa_cons (pv 0) (pa_cons (pv 1) (pa_cons (pv 2) (pa_cons (pv 3) pa_nil)))))))))), ?_⟩
    refine ⟨_, rfl, _, rfl, p, a, v, cs, wf, rfl, hB, hW, fun Z D dn dn' sZ nD hdn pdn ksrt hset hsub => ?_⟩
    obtain ⟨_, _, _, _, _, _, _, _, _, _, ok, _⟩ := id hB
    have st60 := ok.st
    obtain ⟨T, eZ, rfl, t3⟩ := hdn
    have ndk : ((doneKV T).map (·.1)).Nodup := by
      rw [done_keys, ksrt]
      exact (List.mergeSort_perm _ _).nodup_iff.mpr (stK_nd hset.nd)
    have nd' : (Kz.keys (T.map (·.2))).Nodup := (show (Kz.keys (T.map (·.2))).Perm (Kz.keys dn) from pdn.map _).nodup_iff.mpr hset.nd
    have lT : (doneKV T).length ≤ 60 := by
      have h1 : (doneKV T).length = (Kz.keys dn).length := by
        unfold doneKV Kz.keys
        rw [List.length_map, List.length_map, ← pdn.length_eq, List.length_map]
      have h2 := nd_le hset.nd hsub
      have h3 := stagesS_len cs
      omega
    have lTT : (doneKV T).length = T.length := by unfold doneKV; rw [List.length_map]
    refine ⟨D, _, eZ, True.intro, fun od => ?_⟩
    generalize hL : upd Z D (.frz od (.dT (doneKV T))) = L
    have fL : L D = some (.frz od (.dT (doneKV T))) := by rw [← hL]; exact upd_same
    have kL : But D Z L := by rw [← hL]; exact But.upd
    have sL : Same H L := fun b o e => kL _ _ (ne_of_none e nD) (sZ _ _ e)
    have cL : ∀ t ∈ T, CoAt K L t.1 t.2.2 := fun t ht => (t3 t ht).ts fun c xs e => kL _ _ (fun z => by rw [z, eZ] at e; cases e) e
    have back : ∀ {G : Hp}, Same L G → Same Z (upd G D (.dT (doneKV T))) := fun s => unlock eZ (by rw [hL]; exact s)
    refine ⟨_, rfl, D, od, rfl, .inr ⟨doneKV T, fL, fun D2 nD2 => ?_⟩⟩
    refine dcT_it (walk_keysT (d := D) (o := od) (kvs := doneKV T)) (fun i Y => ∃ M : List WA, Same L Y ∧ Y D2 = some (.dT (wyKV M)) ∧ M.map (·.2.1) = Kz.keys ((T.take i).map (·.2)) ∧ ∀ t ∈ M, Y t.1 = some (.tup (wayV t.2.2)) ∧ WayIs cs wf dn t.2.1 t.2.2) ⟨[], same_new nD2, upd_same, rfl, fun t ht => nomatch ht⟩ (fun _ _ _ ⟨_, h, _⟩ => h _ _ fL) (fun i x Y Y' hi h y => ?_) (fun Y h => ?_)
    · obtain ⟨rfl, k, v2, b, hkv, rfl, hb⟩ := y
      obtain ⟨M, sY, eY, kM, tM⟩ := h
      obtain ⟨t, ht, e⟩ := get_map hkv
      cases e
      have mt := List.mem_of_getElem? ht
      have mk : t.2.1 ∈ Kz.keys (T.map (·.2)) := List.mem_map.mpr ⟨t.2, List.mem_map.mpr ⟨t, mt, rfl⟩, rfl⟩
      have mk2 : t.2.1 ∈ Kz.keys dn := (keys_perm pdn _).mp mk
      have sHY := sL.trans sY
      have fitx : t.2.1 ∈ endsS cs ∨ ∃ c ∈ cs, t.2.1.1 = c.nm ∧ ∃ k ∈ offs c t.2.1.2, StepFits wf (T.map (·.2)) c t.2.1 k := by
        rcases fit_ex ok hset mk2 with h | ⟨c, mc, e1, k, hk, hf⟩
        · exact .inl h
        · exact .inr ⟨c, mc, e1, k, hk, (StepFits.perm pdn hset.nd mk2 k).mpr hf⟩
      have hb : Y' b = some (.tup (stV t.2.1)) := hb
      refine ⟨rfl, _, rfl, _, rfl, _, rfl, _, rfl, _, rfl, p, a, v, D, b, cs, wf, T.map (·.2), t.2.1, rfl, hB.mono sHY, hW.mono sHY, ⟨T, .inr ⟨od, sY _ _ fL⟩, rfl, fun u hu => (cL u hu).mono sY⟩, nd', hsub _ mk2, mk, fitx, hb, fun Y2 r W s2 nr er hW2 => ?_⟩
      have eD2 := s2 _ _ eY
      have nrD : r ≠ D2 := fun z => by
        rw [z, eY] at nr
        cases nr
      have lM : M.length = i := by
        have := congrArg List.length kM
        unfold Kz.keys at this
        rw [List.length_map, List.length_map, List.length_map, List.length_take] at this
        omega
      refine ⟨_, stK t.2.1, b, rfl, s2 _ _ hb, eD2, ?_, M ++ [(r, (t.2.1, W))], fun c o e => ?_, ?_, ?_, fun u hu => ?_⟩
      · unfold wyKV
        rw [List.length_map, lM]
        exact small (by omega)
      · rw [upd_ne (ne_of_none e nD2)]
        exact s2 _ _ (sY _ _ e)
      · rw [upd_same, putK_new]
        · unfold wyKV
          rw [List.map_append]
          rfl
        · rw [wy_keys, kM]
          intro z
          obtain ⟨y, hy, e⟩ := List.mem_map.mp z
          have e := stK_inj e
          rw [e] at hy
          obtain ⟨u, hu, e5⟩ := List.mem_map.mp hy
          obtain ⟨w2, hw2, e6⟩ := List.mem_map.mp hu
          have nd2 := ndk
          unfold doneKV at nd2
          rw [List.map_map, ← List.take_append_drop i T, List.map_append, drop_of_get ht, List.map_cons, List.nodup_append] at nd2
          refine nd2.2.2 _ (List.mem_map.mpr ⟨w2, hw2, rfl⟩) _ List.mem_cons_self ?_
          show stK w2.2.1 = stK t.2.1
          rw [e6, e5]
      · rw [List.map_append, kM, take_of_get ht, List.map_append, Kz.keys_app]
        rfl
      · rcases List.mem_append.mp hu with z | z
        · have a1 := s2 _ _ (tM u z).1
          refine ⟨?_, (tM u z).2⟩
          rw [upd_ne (fun w => by rw [w, eD2] at a1; cases a1)]
          exact a1
        · rw [List.mem_singleton.mp z]
          refine ⟨?_, hW2.perm pdn hset.nd mk2⟩
          rw [upd_ne nrD]
          exact er
    · obtain ⟨M, sY, eY, kM, tM⟩ := h
      rw [lTT, List.take_length] at kM
      have nY : ∀ {c : Addr} {o : HO}, Y c = some o → (∀ u, o ≠ .frz od u) → c ≠ D := fun e h2 z => by
        rw [z, sY _ _ fL] at e
        exact h2 _ (Option.some.inj e).symm
      refine ⟨sY _ _ fL, q _ D2 dn M (sZ.trans (back sY)) (sL.free nD2) ⟨?_, fun t ht => ?_⟩ (by rw [kM]; exact ksrt) hset hsub fun t ht => (tM t ht).2⟩
      · rw [upd_ne (nY eY fun _ => fun e => by cases e)]
        exact eY
      · rw [upd_ne (nY (tM t ht).1 fun _ => fun e => by cases e)]
        exact (tM t ht).1
abbrev nLpr : List Str := ["book", "prices"]
theorem scLpr : FnScope nLpr ["book", "prices"] (defScope sLeastPrices) := ⟨rfl, rfl, rfl, by decide +kernel, rfl, by decide +kernel, by decide +kernel⟩
theorem ok_leastprices {f C fW : Addr} {fd fdW : FuncData} (F : Fun K "least_prices" "least_prices" sLeastPrices f fd) (G_least_weights : FnOk P w K mg base CX0 5 fW fdW ["book", "weights"] (spLeastW K C)) (C_least_weights : CallC K mg "least_weights" ["book", "weights"] fW fdW) : FnOk P w K mg base CX0 6 f fd ["book", "prices"] (spLeastW K C) := by
  refine F.ok scLpr (fun vs H Q E h => ?_) (fun cdv A outer s H vs Q E hr h => ?_)
  · obtain ⟨p, a, v, cs, wf, rfl, _⟩ := h
    rfl
  · obtain ⟨p, a, v, cs, wf, rfl, hB, hW, q⟩ := h
    refine ⟨_, pss_one (ps_ret (pe_call G_least_weights (hr.mono (by decide)) (by rfl) C_least_weights.g C_least_weights.kp C_least_weights.b .nil pass0 (pa_cons (pv 0) (pa_cons (pv 1) pa_nil)))), ?_⟩
    exact ⟨_, rfl, _, rfl, p, a, v, cs, wf, rfl, hB, hW, q⟩
theorem scPys : FnScope nLpr ["book", "prices"] (defScope sPriceWays) := ⟨rfl, rfl, rfl, by decide +kernel, rfl, by decide +kernel, by decide +kernel⟩
theorem ok_priceways {f C fW : Addr} {fd fdW : FuncData} (F : Fun K "price_ways" "price_ways" sPriceWays f fd) (G_least_ways : FnOk P w K mg base CX0 5 fW fdW ["book", "weights"] (spLeastWays K C)) (C_least_ways : CallC K mg "least_ways" ["book", "weights"] fW fdW) : FnOk P w K mg base CX0 6 f fd ["book", "prices"] (spLeastWays K C) := by
  refine F.ok scPys (fun vs H Q E h => ?_) (fun cdv A outer s H vs Q E hr h => ?_)
  · obtain ⟨p, a, v, cs, wf, rfl, _⟩ := h
    rfl
  · obtain ⟨p, a, v, cs, wf, rfl, hB, hW, q⟩ := h
    refine ⟨_, pss_one (ps_ret (pe_call G_least_ways (hr.mono (by decide)) (by rfl) C_least_ways.g C_least_ways.kp C_least_ways.b .nil pass0 (pa_cons (pv 0) (pa_cons (pv 1) pa_nil)))), ?_⟩
    exact ⟨_, rfl, _, rfl, p, a, v, cs, wf, rfl, hB, hW, q⟩
end
end Kb
namespace Kb
open PySem PySem.Spec PyProof.Rows L2
/-! ### step_of_way, parts_of_way -/
/-- ways of any number: none is the end -/
def wayI : Option Int → List V
  | none => [.str "end"]
  | some k => [.str "step", .int k]
theorem wayV_I (W : Option Nat) : wayV W = wayI (W.map fun (k : Nat) => (k : Int)) := by
  cases W <;> rfl
/-- the step k leaves the stage -/
def StepAt (c : CA) (sk : Nat) (k : Int) (s : Addr × Stp) : Prop := ∃ i : Nat, k = (i : Int) ∧ c.ss[i]? = some s ∧ s.2.n = sk
section
variable {P : Program} {w : World} {K : PySem.W.Frag} {mg : Str → Option Value} {base : Heap}
def spStepOf (K : PySem.W.Frag) (C : Addr) : Sp := fun vs H Q _ => ∃ (p a b q0 : Addr) (cs : List CA) (c : CA) (sk : Nat) (k : Int), vs = [.ref p, .ref b, .ref q0] ∧ BookAt K C H p a cs ∧ c ∈ cs ∧ H b = some (.tup (stV (c.nm, sk))) ∧ H q0 = some (.tup (wayI (some k))) ∧ (∀ s, StepAt c sk k s → Q (.ref s.1) H) ∧ ((∀ s, ¬ StepAt c sk k s) → Q .non H)
abbrev nSw : List Str := ["book", "stage", "way", "steps"]
theorem scSw : FnScope nSw ["book", "stage", "way"] (defScope sStepOfWay) := ⟨rfl, rfl, rfl, by decide +kernel, rfl, by decide +kernel, by decide +kernel⟩
theorem ok_stepofway {f C fS : Addr} {fd fdS : FuncData} (F : Fun K "step_of_way" "step_of_way" sStepOfWay f fd) (N : Nones mg) (B : BkC K mg C) (GM_steps : FnOk P w K mg base CX0 1 fS fdS ["self", "course"] (spBkSteps K C)) (bM_steps : Binds K fdS ["self", "course"] []) (m_steps : Meth K C "steps" fS) : FnOk P w K mg base CX0 2 f fd ["book", "stage", "way"] (spStepOf K C) := by
  refine F.ok scSw (fun vs H Q E h => ?_) (fun cdv A outer s H vs Q E hr h => ?_)
  · obtain ⟨p, a, b, q0, cs, c, sk, k, rfl, _⟩ := h
    rfl
  · obtain ⟨p, a, b, q0, cs, c, sk, k, rfl, hB, mc, hb, hq, q1, q2⟩ := h
    refine ⟨_, pss_cons (ps_set (i := 3) scSw.nd rfl (Or.inl rfl) (pe_meth (pv 0) B.cl m_steps GM_steps (hr.mono (by decide)) bM_steps .nil pass0 (pa_cons (pe_ix ix_tup (pv 1) pe_int (fun _ _ => rfl)) pa_nil)))
      (pss_cons (ps_if (PW.pt (pw_or (pt_not (pt_chain op_le op_lt pe_int (pe_ix ix_tup (pv 2) pe_int (fun _ _ => rfl)) (pe_callB call_len_seq (by rfl) N.len PySem.boot_len (pa_cons (pv 3) pa_nil)))) (pw_or1 (pt_cmpR op_ne (pe_ix ix_tup (pe_ix ix_tup (pv 3) (pe_ix ix_tup (pv 2) pe_int (fun _ _ => rfl)) (fun _ _ => rfl)) pe_int (fun _ _ => rfl)) (pe_ix ix_tup (pv 1) pe_int (fun _ _ => rfl)) (nomark _))))) (pss_one (ps_ret pe_non)) pss_nil)
      (pss_one (ps_ret (pe_ix ix_tup (pv 3) (pe_ix ix_tup (pv 2) pe_int (fun _ _ => rfl)) (fun _ _ => rfl))))), ?_⟩
    obtain ⟨dx, fs, P1, S1, E1, L1, S, hp, L, hC, ok, _⟩ := id hB
    have cc := hC.2 c mc
    refine ⟨_, rfl, p, dx, fs, rfl, hp, L.no _ (by decide +kernel), _, rfl, b, _, _, .str c.nm, rfl, rfl, sqT_new hb, rfl, p, a, cs, c, rfl, hB, mc, ?_⟩
    refine ⟨_, rfl, q0, _, _, .int k, rfl, rfl, sqT_new hq, rfl, ?_⟩
    have lcs : (c.ss.map fun p => V.ref p.1).length = c.ss.length := List.length_map _
    have osz := (ok.ok c mc).sz
    refine ⟨0, k, rfl, rfl, _, rfl, ite2 (fun c1 => ?_) (fun c1 => ?_)⟩
    · have c1 : 0 ≤ k := of_decide_eq_true c1
      refine ⟨_, rfl, c.sa, _, rfl, .inr cc.s, k, _, rfl, rfl, _, rfl, ?_⟩
      by_cases h2 : k < (c.ss.length : Int)
      · obtain ⟨i, rfl⟩ : ∃ i : Nat, k = (i : Int) := ⟨k.toNat, by omega⟩
        have hi : i < c.ss.length := by omega
        have hs : c.ss[i]? = some (c.ss[i]'hi) := List.getElem?_eq_getElem _
        generalize c.ss[i]'hi = s0 at hs
        have sv : (c.ss.map fun p => V.ref p.1)[i]? = some (.ref s0.1) := by rw [List.getElem?_map, hs]; rfl
        have ts := cc.p s0 (List.mem_of_getElem? hs)
        refine iteNo (by rw [lcs, decide_eq_true h2]; rfl) ?_
        refine ⟨_, rfl, _, rfl, q0, _, _, .int (i : Int), rfl, rfl, sqT_new hq, rfl, c.sa, _, _, .ref s0.1, rfl, rfl, cc.s, atI_nat sv, s0.1, _, _, .int (s0.2.n : Int), rfl, rfl, sqT_new ts, rfl, ?_⟩
        refine ⟨_, rfl, b, _, _, .int (sk : Int), rfl, rfl, sqT_new hb, rfl, rfl, ?_⟩
        refine ⟨_, rfl, ite2 (fun c2 => ?_) (fun c2 => ?_)⟩
        · refine q2 fun s ⟨i', e1, e2, e3⟩ => ?_
          obtain rfl : i' = i := by omega
          rw [hs] at e2
          cases e2
          rw [e3] at c2
          simp at c2
        · have e3 : s0.2.n = sk := by
            refine Classical.byContradiction fun z => c2 ?_
            show (!decide (V.int (s0.2.n : Int) = V.int (sk : Int))) = true
            rw [decide_eq_false (fun e => z (by injection e with e; omega))]
            rfl
          refine ⟨_, rfl, _, rfl, q0, _, _, .int (i : Int), rfl, rfl, sqT_new hq, rfl, c.sa, _, _, .ref s0.1, rfl, rfl, cc.s, atI_nat sv, q1 s0 ⟨i, rfl, hs, e3⟩⟩
      · refine iteYes (by rw [lcs, decide_eq_false h2]; rfl) ?_
        refine q2 fun s ⟨i', e1, e2, e3⟩ => ?_
        have := lt_of_get e2
        omega
    · exact ⟨_, rfl, q2 fun s ⟨i', e1, _⟩ => c1 (decide_eq_true (by omega))⟩
def spPartsOfWay (K : PySem.W.Frag) (C : Addr) : Sp := fun vs H Q _ => ∃ (p a b q0 : Addr) (cs : List CA) (c : CA) (sk : Nat) (W : Option Int), vs = [.ref p, .ref b, .ref q0] ∧ BookAt K C H p a cs ∧ c ∈ cs ∧ H b = some (.tup (stV (c.nm, sk))) ∧ H q0 = some (.tup (wayI W)) ∧
  (W = none → (c.nm, sk) ∈ endsS cs → ∀ H' r, Same H H' → H r = none → PtsAt H' r [] → Q (.ref r) H') ∧ (W = none → (c.nm, sk) ∉ endsS cs → ∀ H', Same H H' → Q .non H') ∧ (∀ k, W = some k → (∀ s, ¬ StepAt c sk k s) → ∀ H', Same H H' → Q .non H') ∧
  (∀ k s, W = some k → StepAt c sk k s → ∀ H' r, Same H H' → H r = none → PtsAt H' r (partsS c.nm s.2) → Q (.ref r) H')
abbrev nPw : List Str := ["book", "stage", "way", "step"]
theorem scPw : FnScope nPw ["book", "stage", "way"] (defScope sPartsOfWay) := ⟨rfl, rfl, rfl, by decide +kernel, rfl, by decide +kernel, by decide +kernel⟩
def wayD : Option Int → PyData
  | none => .tuple [.str "end"]
  | some k => .tuple [.str "step", .int k]
theorem way_dp {K : PySem.W.Frag} {H : Hp} {q : Addr} {W : Option Int} (h : H q = some (.tup (wayI W))) : Dp K H (.ref q) (wayD W) := by
  cases W with
  | none => exact Dp.tup (sqT_new h) (.cons (.str _) .nil)
  | some k => exact Dp.tup (sqT_new h) (.cons (.str _) (.cons (.int _) .nil))
theorem way_shaped (W : Option Int) : SeqAt.shaped (wayD W) = true := by
  have c1 : PyData.canLay0 (.str "end") = true := by decide +kernel
  have c2 : PyData.canLay0 (.str "step") = true := by decide +kernel
  cases W with
  | none =>
    unfold SeqAt.shaped wayD
    simp [PyData.canLay0, PyData.canLayAll0, PyData.depth, PyData.depthAll] at c1 ⊢
    try exact c1
  | some k =>
    unfold SeqAt.shaped wayD
    simp [PyData.canLay0, PyData.canLayAll0, PyData.depth, PyData.depthAll] at c2 ⊢
    try exact c2
theorem ok_partsofway {f C fE fS fP : Addr} {fd fdE fdS fdP : FuncData} (F : Fun K "parts_of_way" "parts_of_way" sPartsOfWay f fd) (B : BkC K mg C) (GM_is_end : FnOk P w K mg base CX0 1 fE fdE ["self", "stage"] (spBkIsEnd K C)) (bM_is_end : Binds K fdE ["self", "stage"] []) (m_is_end : Meth K C "is_end" fE)
    (G_step_of_way : FnOk P w K mg base CX0 2 fS fdS ["book", "stage", "way"] (spStepOf K C)) (C_step_of_way : CallC K mg "step_of_way" ["book", "stage", "way"] fS fdS) (G_parts_of : FnOk P w K mg base CX0 1 fP fdP ["course", "step"] spPartsOf) (C_parts_of : CallC K mg "parts_of" ["course", "step"] fP fdP) : FnOk P w K mg base CX0 3 f fd ["book", "stage", "way"] (spPartsOfWay K C) := by
  refine F.ok scPw (fun vs H Q E h => ?_) (fun cdv A outer s H vs Q E hr h => ?_)
  · obtain ⟨p, a, b, q0, cs, c, sk, W, rfl, _⟩ := h
    rfl
  · obtain ⟨p, a, b, q0, cs, c, sk, W, rfl, hB, mc, hb, hq, q1, q2, q3, q4⟩ := h
    refine ⟨_, pss_cons (ps_if (pt_cmpR (op_eqD hr.units) (pv 2) (pe_tup (pa_cons pe_str pa_nil)) (nomark _)) (pss_one (ps_ret (pe_ifExp (pt_val (pe_meth (pv 0) B.cl m_is_end GM_is_end (hr.mono (by decide)) bM_is_end .nil pass0 (pa_cons (pv 1) pa_nil))) (pe_tup pa_nil) pe_non))) pss_nil)
      (pss_cons (ps_set (i := 3) scPw.nd rfl (Or.inl rfl) (pe_call G_step_of_way (hr.mono (by decide)) (by rfl) C_step_of_way.g C_step_of_way.kp C_step_of_way.b .nil pass0 (pa_cons (pv 0) (pa_cons (pv 1) (pa_cons (pv 2) pa_nil)))))
      (pss_one (ps_ret (pe_ifExp (pt_cmpR op_isN (pv 3) pe_non (nomark _)) pe_non (pe_call G_parts_of (hr.mono (by decide)) (by rfl) C_parts_of.g C_parts_of.kp C_parts_of.b .nil pass0 (pa_cons (pe_ix ix_tup (pv 1) pe_int (fun _ _ => rfl)) (pa_cons (pv 3) pa_nil))))))), ?_⟩
    obtain ⟨dx, fs, P1, S1, E1, L1, S, hp, L, hC, ok, _⟩ := id hB
    have he := end_iff ok mc sk
    refine ⟨_, rfl, smallE (by show 1 ≤ 1000000; decide), fun e1 n1 => ?_⟩
    have s1 := same_new (o := .tup [V.str "end"]) n1
    have x1 : upd H e1 (.tup [V.str "end"]) e1 = some (.tup [V.str "end"]) := upd_same
    generalize upd H e1 (.tup [V.str "end"]) = H1 at s1 x1
    have hq1 := s1 _ _ hq
    have hB1 := hB.mono s1
    refine ⟨_, _, way_dp hq1, way_dp (W := none) x1, way_shaped _, way_shaped _, ?_⟩
    cases W with
    | none =>
      refine ⟨_, rfl, iteYes (by decide +kernel) ?_⟩
      refine ⟨_, rfl, p, dx, fs, rfl, s1 _ _ hp, L.no _ (by decide +kernel), _, rfl, p, a, b, cs, c, sk, rfl, hB1, mc, s1 _ _ hb, ?_⟩
      refine ⟨_, rfl, ite2 (fun c0 => ?_) (fun c0 => ?_)⟩
      · refine ⟨smallE (by show 0 ≤ 1000000; decide), fun r nr => ?_⟩
        exact q1 rfl (he.mpr (of_decide_eq_true c0)) _ r (s1.trans (same_new nr)) (s1.free nr) ⟨[], upd_same, rfl, fun t ht => nomatch ht⟩
      · exact q2 rfl (fun z => c0 (decide_eq_true (he.mp z))) _ s1
    | some k =>
      refine ⟨_, rfl, iteNo (by rfl) ?_⟩
      refine ⟨_, rfl, _, rfl, _, rfl, p, a, b, q0, cs, c, sk, k, rfl, hB1, mc, s1 _ _ hb, hq1, fun s hs => ?_, fun no => ?_⟩
      · refine ⟨_, rfl, rfl, _, rfl, iteNo (by rfl) ?_⟩
        refine ⟨_, rfl, b, _, _, .str c.nm, rfl, rfl, sqT_new (s1 _ _ hb), rfl, _, rfl, s.1, c.nm, s.2, rfl, s1 _ _ ?_, fun H' r s' nr pts => q4 k s rfl hs H' r (s1.trans s') (s1.free nr) pts⟩
        obtain ⟨i, _, hi, _⟩ := hs
        exact (hC.2 c mc).p s (List.mem_of_getElem? hi)
      · refine ⟨_, rfl, rfl, _, rfl, iteYes (by rfl) ?_⟩
        exact q3 k rfl no _ s1
end
end Kb
namespace Kb
open PySem PySem.Spec PyProof.Rows L2
/-! ### sound_order -/
abbrev WB := Addr × (Stg × Option Int)
def wbKV (M : List WB) : List (List L2.Key × V) := M.map fun t => (stK t.2.1, V.ref t.1)
def wbks (M : List WB) : List Stg := M.map (·.2.1)
theorem wb_keys (M : List WB) : (wbKV M).map (·.1) = (wbks M).map stK := by
  unfold wbKV wbks
  rw [List.map_map, List.map_map]
  rfl
def WaysB (H : Hp) (q : Addr) (M : List WB) : Prop := H q = some (.dT (wbKV M)) ∧ ∀ t ∈ M, H t.1 = some (.tup (wayI t.2.2))
theorem WaysB.mono {H H' : Hp} {q : Addr} {M : List WB} (s : Same H H') (h : WaysB H q M) : WaysB H' q M := ⟨s _ _ h.1, fun t ht => s _ _ (h.2 t ht)⟩
/-- the parts that a way puts on the pile -/
def PartsOf (cs : List CA) (x : Stg) (W : Option Int) (ps : List Stg) : Prop := (W = none ∧ x ∈ endsS cs ∧ ps = []) ∨ ∃ c ∈ cs, x.1 = c.nm ∧ ∃ k s, W = some k ∧ StepAt c x.2 k s ∧ ps = partsS c.nm s.2
/-- the ways keep to an order -/
def SoundP (cs : List CA) (M : List WB) : Prop := ∃ f : Stg → Nat, ∀ t ∈ M, ∃ ps, PartsOf cs t.2.1 t.2.2 ps ∧ ∀ p ∈ ps, p ∈ wbks M ∧ f p < f t.2.1
/-- an order: the parts stand ahead -/
def OrderP (cs : List CA) (M : List WB) (L : List Stg) : Prop := L.Perm (wbks M) ∧ ∀ i x, L[i]? = some x → ∃ t ∈ M, t.2.1 = x ∧ ∃ ps, PartsOf cs x t.2.2 ps ∧ ∀ p ∈ ps, p ∈ L.take i
theorem partsOf_uniq {cs : List CA} (ok : CsOk cs) {x : Stg} {W : Option Int} {ps qs : List Stg} (h : PartsOf cs x W ps) (h' : PartsOf cs x W qs) : ps = qs := by
  rcases h with ⟨e, _, e1⟩ | ⟨c, mc, ec, k, s, e, hs, e1⟩
  · rcases h' with ⟨_, _, e2⟩ | ⟨_, _, _, k', _, e', _⟩
    · rw [e1, e2]
    · rw [e] at e'; cases e'
  · rcases h' with ⟨e', _⟩ | ⟨c', mc', ec', k', s', e', hs', e2⟩
    · rw [e] at e'; cases e'
    · have := same_course ok.nd mc' mc (ec'.symm.trans ec)
      subst this
      rw [e] at e'
      cases e'
      obtain ⟨i, h1, h2, _⟩ := hs
      obtain ⟨j, h3, h4, _⟩ := hs'
      obtain rfl : i = j := by omega
      rw [h2] at h4
      cases h4
      rw [e1, e2]
/-- the table of parts -/
abbrev PV := Stg × Option (Addr × List Stg)
def pvV (t : PV) : V := match t.2 with | none => .non | some r => .ref r.1
def pvKV (L : List PV) : List (List L2.Key × V) := L.map fun t => (stK t.1, pvV t)
theorem pv_keys (L : List PV) : (pvKV L).map (·.1) = (L.map (·.1)).map stK := by
  unfold pvKV
  rw [List.map_map, List.map_map]
  rfl
def PvOk (cs : List CA) (M : List WB) (G : Hp) (t : PV) : Prop := ∃ u ∈ M, u.2.1 = t.1 ∧ ((t.2 = none ∧ ∀ ps, ¬ PartsOf cs t.1 u.2.2 ps) ∨ ∃ r ps, t.2 = some (r, ps) ∧ PtsAt G r ps ∧ PartsOf cs t.1 u.2.2 ps)
theorem PvOk.mono {cs : List CA} {M : List WB} {G G' : Hp} {t : PV} (s : Same G G') (h : PvOk cs M G t) : PvOk cs M G' t := by
  obtain ⟨u, hu, e, h⟩ := h
  refine ⟨u, hu, e, ?_⟩
  rcases h with h | ⟨r, ps, h1, h2, h3⟩
  · exact .inl h
  · exact .inr ⟨r, ps, h1, h2.mono s, h3⟩
theorem map_stK_inj {l m : List Stg} (h : l.map stK = m.map stK) : l = m := by
  induction l generalizing m with
  | nil => cases m with
    | nil => rfl
    | cons b m => cases h
  | cons a l ih => cases m with
    | nil => cases h
    | cons b m =>
      rw [List.map_cons, List.map_cons] at h
      injection h with h1 h2
      rw [stK_inj h1, ih h2]
theorem keys_of {L : List PV} : ∀ {bs : List Addr} {G : Hp}, IsKeys G (pvKV L) bs → ∃ T : List (Addr × Stg), bs.map V.ref = T.map (fun t => V.ref t.1) ∧ T.map (·.2) = L.map (·.1) ∧ ∀ t ∈ T, G t.1 = some (.tup (stV t.2)) := by
  induction L with
  | nil =>
    intro bs G h
    cases h
    exact ⟨[], rfl, rfl, fun t ht => nomatch ht⟩
  | cons t L ih =>
    intro bs G h
    cases h with
    | cons h1 h2 =>
      rename_i b bs
      obtain ⟨T, e1, e2, e3⟩ := ih h2
      refine ⟨(b, t.1) :: T, ?_, ?_, fun u hu => ?_⟩
      · rw [List.map_cons, List.map_cons, e1]
      · rw [List.map_cons, List.map_cons, e2]
      · rcases List.mem_cons.mp hu with z | z
        · rw [z]
          exact h1
        · exact e3 u z
theorem keys_lot : ∀ {lot : List Stg} {bs : List Addr} {G : Hp}, IsKeys G (lotKV lot) bs → ∃ T : List (Addr × Stg), bs.map V.ref = T.map (fun t => V.ref t.1) ∧ T.map (·.2) = lot ∧ ∀ t ∈ T, G t.1 = some (.tup (stV t.2)) := by
  intro lot
  induction lot with
  | nil =>
    intro bs G h
    cases h
    exact ⟨[], rfl, rfl, fun t ht => nomatch ht⟩
  | cons x L ih =>
    intro bs G h
    cases h with
    | cons h1 h2 =>
      rename_i b bs
      obtain ⟨T, e1, e2, e3⟩ := ih h2
      refine ⟨(b, x) :: T, ?_, ?_, fun u hu => ?_⟩
      · rw [List.map_cons, List.map_cons, e1]
      · rw [List.map_cons, e2]
      · rcases List.mem_cons.mp hu with z | z
        · rw [z]
          exact h1
        · exact e3 u z
theorem min_ex (f : Stg → Nat) : ∀ {T : List (Addr × Stg)}, T ≠ [] → ∃ t ∈ T, ∀ u ∈ T, f t.2 ≤ f u.2
  | [], h => absurd rfl h
  | [t], _ => ⟨t, List.mem_cons_self, fun u hu => by rw [List.mem_singleton.mp hu]; exact Nat.le_refl _⟩
  | t :: t2 :: T, _ => by
    obtain ⟨v, hv, hm⟩ := min_ex f (T := t2 :: T) (fun z => nomatch z)
    by_cases h : f t.2 ≤ f v.2
    · refine ⟨t, List.mem_cons_self, fun u hu => ?_⟩
      rcases List.mem_cons.mp hu with z | z
      · rw [z]; exact Nat.le_refl _
      · exact Nat.le_trans h (hm u z)
    · refine ⟨v, List.mem_cons_of_mem _ hv, fun u hu => ?_⟩
      rcases List.mem_cons.mp hu with z | z
      · rw [z]; omega
      · exact hm u z
/-- the stages placed so far keep to the order -/
def OrdTo (cs : List CA) (M : List WB) (Pl : List Stg) : Prop := ∀ i x, Pl[i]? = some x → ∃ t ∈ M, t.2.1 = x ∧ ∃ ps, PartsOf cs x t.2.2 ps ∧ ∀ p ∈ ps, p ∈ Pl.take i
theorem OrdTo.app {cs : List CA} {M : List WB} {Pl R : List Stg} (h : OrdTo cs M Pl) (hR : ∀ x ∈ R, ∃ t ∈ M, t.2.1 = x ∧ ∃ ps, PartsOf cs x t.2.2 ps ∧ ∀ p ∈ ps, p ∈ Pl) : OrdTo cs M (Pl ++ R) := by
  intro i x hi
  by_cases hl : i < Pl.length
  · rw [List.getElem?_append_left hl] at hi
    obtain ⟨t, h1, h2, ps, h3, h4⟩ := h i x hi
    refine ⟨t, h1, h2, ps, h3, fun p hp => ?_⟩
    rw [List.take_append_of_le_length (Nat.le_of_lt hl)]
    exact h4 p hp
  · rw [List.getElem?_append_right (by omega)] at hi
    obtain ⟨t, h1, h2, ps, h3, h4⟩ := hR x (List.mem_of_getElem? hi)
    refine ⟨t, h1, h2, ps, h3, fun p hp => ?_⟩
    obtain ⟨j, hj⟩ := List.getElem?_of_mem (h4 p hp)
    have := lt_of_get hj
    refine List.mem_of_getElem? (i := j) ?_
    rw [List.getElem?_take_of_lt (by omega), List.getElem?_append_left this]
    exact hj
section
variable {P : Program} {w : World} {K : PySem.W.Frag} {mg : Str → Option Value} {base : Heap}
def spSound (K : PySem.W.Frag) (C : Addr) : Sp := fun vs H Q _ => ∃ (p a d : Addr) (cs : List CA) (M : List WB), vs = [.ref p, .ref d] ∧ BookAt K C H p a cs ∧ WaysB H d M ∧ (wbks M).Nodup ∧ (∀ x ∈ wbks M, x ∈ stagesS cs) ∧
  (∀ H' q L, Same H H' → H q = none → StLs H' q L → OrderP cs M L → Q (.ref q) H') ∧ (∀ H', Same H H' → ¬ SoundP cs M → Q .non H')
abbrev nSd : List Str := ["book", "chosen", "parts", "placed", "left", "ready", "stage"]
theorem scSd : FnScope nSd ["book", "chosen"] (defScope sSoundOrder) := ⟨rfl, rfl, rfl, by decide +kernel, rfl, by decide +kernel, by decide +kernel⟩
theorem ok_sound {f C fW fA : Addr} {fd fdW fdA : FuncData} (F : Fun K "sound_order" "sound_order" sSoundOrder f fd) (N : Nones mg) (B : BkC K mg C) (G_parts_of_way : FnOk P w K mg base CX0 3 fW fdW ["book", "stage", "way"] (spPartsOfWay K C)) (C_parts_of_way : CallC K mg "parts_of_way" ["book", "stage", "way"] fW fdW)
    (G_all_in : FnOk P w K mg base CX0 1 fA fdA ["parts", "table"] (spAllIn K)) (C_all_in : CallC K mg "all_in" ["parts", "table"] fA fdA) : FnOk P w K mg base CX0 4 f fd ["book", "chosen"] (spSound K C) := by
  refine F.ok scSd (fun vs H Q E h => ?_) (fun cdv A outer s H vs Q E hr h => ?_)
  · obtain ⟨p, a, d, cs, M, rfl, _⟩ := h
    rfl
  · obtain ⟨p, a, d, cs, M, rfl, hB, ⟨hM, hMt⟩, nd, hst, q1, q2⟩ := h
    refine ⟨_, pss_cons (ps_set (i := 2) scSd.nd rfl (Or.inr rfl) (Ka.pe_dcT (own := [("stage", 6)]) (g := gName 6) rfl (hu_of hr) scSd.nd (pi_list (pe_callB (Ka.cr_sortT rfl hr.units) (by rfl) N.sorted (by decide +kernel) (pa_cons (pv 1) pa_nil))) (blkOk_by (own := [("stage", 6)]) (N := nSd) (sc := defScope sSoundOrder) (by decide +kernel)) (fun _ _ _ _ _ => (pg_name (i := 6) scSd.nd rfl (Or.inl rfl))) (fun _ _ _ _ _ => (pv 6)) (fun _ _ _ _ _ => (pe_call G_parts_of_way (hr.mono (by decide)) (by rfl) C_parts_of_way.g C_parts_of_way.kp C_parts_of_way.b .nil pass0 (pa_cons (pv 0) (pa_cons (pv 6) (pa_cons (pe_dget (hu_of hr) (pv 1) (pv 6) (fun _ _ => rfl)) pa_nil)))))))
      (pss_cons (ps_if (pt_val (pe_callB (cr_any rfl) (by rfl) N.any (by decide +kernel) (pa_cons (pe_lock (pe_lc (own := [("stage", 6)]) (g := gName 6) (tt := tYes) rfl scSd.nd (pi_keys (pv 2)) (blkOk_by (own := [("stage", 6)]) (N := nSd) (sc := defScope sSoundOrder) (by decide +kernel)) (fun _ _ _ _ _ => (pg_name (i := 6) scSd.nd rfl (Or.inl rfl))) (fun _ _ _ _ _ => pts_nil) (fun _ _ _ _ _ => (pe_cmpR op_isN (pe_dget (hu_of hr) (pv 2) (pv 6) (fun _ _ => rfl)) pe_non (nomark _))))) pa_nil))) (pss_one (ps_ret pe_non)) pss_nil)
      (pss_cons (ps_set (i := 3) scSd.nd rfl (Or.inr rfl) pe_dnewT)
      (pss_cons (ps_set (i := 4) scSd.nd rfl (Or.inl rfl) (pe_callTy (call_list_dT rfl) (by rfl) N.list (by decide +kernel) (pa_cons (pv 2) pa_nil)))
      (pss_cons (ps_while PassesOwn.never (pt_truth (pv 4) (by intro _; rfl))
        (pss_cons (ps_setLc (i := 5) (own := [("stage", 6)]) (g := gName 6) rfl scSd.nd rfl rfl (sw_true rfl rfl rfl rfl) (pi_list (pv 4)) (blkOk_by (own := [("stage", 6)]) (N := nSd) (sc := defScope sSoundOrder) (by decide +kernel)) (fun _ _ _ _ _ => (pg_name (i := 6) scSd.nd rfl (Or.inl rfl))) (fun _ _ _ _ _ => pts_one (pt_val (pe_call G_all_in (hr.mono (by decide)) (by rfl) C_all_in.g C_all_in.kp C_all_in.b .nil pass0 (pa_cons (pe_dget (hu_of hr) (pv 2) (pv 6) (fun _ _ => rfl)) (pa_cons (pv 3) pa_nil))))) (fun _ _ _ _ _ => (pv 6)))
        (pss_cons (ps_if (pt_not (pt_truth (pv 5) (by intro _; rfl))) (pss_one (ps_ret pe_non)) pss_nil)
        (pss_cons (ps_for PassesOwn.never rfl (pi_list (pv 5)) (pg_name (i := 6) scSd.nd rfl (Or.inl rfl))
          (pss_one (ps_dput (hu_of hr) (pv 3) (pv 6) pe_bl rfl)))
        (pss_one (ps_setLc (i := 4) (own := [("stage", 6)]) (g := gName 6) rfl scSd.nd rfl rfl (sw_true rfl rfl rfl rfl) (pi_list (pv 4)) (blkOk_by (own := [("stage", 6)]) (N := nSd) (sc := defScope sSoundOrder) (by decide +kernel)) (fun _ _ _ _ _ => (pg_name (i := 6) scSd.nd rfl (Or.inl rfl))) (fun _ _ _ _ _ => pts_one (pt_cmp (pc_dnotin (hu_of hr) (pv 6) (pv 3)))) (fun _ _ _ _ _ => (pv 6))))))))
      (pss_one (ps_ret (pe_callTy (call_list_dT rfl) (by rfl) N.list (by decide +kernel) (pa_cons (pv 3) pa_nil)))))))), ?_⟩
    obtain ⟨dx, fs, P1, S1, E1, L1, S, hp, Lf, hC, ok, _⟩ := id hB
    have st60 := ok.st
    have lM : M.length ≤ 60 := by
      have h1 := nd_le nd hst
      have h2 := stagesS_len cs
      have h3 : (wbks M).length = M.length := List.length_map _
      omega
    refine ⟨_, rfl, d, wbKV M, rfl, .inl hM, fun x hx y hy => ?_, fun x hx => ?_, fun rs l e1 e2 nl => ?_⟩
    · obtain ⟨t, _, rfl⟩ := List.mem_map.mp hx
      obtain ⟨u, _, rfl⟩ := List.mem_map.mp hy
      exact stK_alike _ _
    · obtain ⟨t, _, rfl⟩ := List.mem_map.mp hx
      exact stK_ne _
    have sl := same_new (o := .lst (rs.map fun r => V.ref r.1)) nl
    have el : upd H l (.lst (rs.map fun r => V.ref r.1)) l = some (.lst (rs.map fun r => V.ref r.1)) := upd_same
    generalize upd H l (.lst (rs.map fun r => V.ref r.1)) = H1 at sl el
    have pk : (rs.map (·.2)).Perm ((wbks M).map stK) := by
      rw [e1, wb_keys]
      exact List.mergeSort_perm _ _
    have ndr : (rs.map (·.2)).Nodup := pk.nodup_iff.mpr (stK_nd nd)
    have lrs : rs.length = M.length := by
      have := pk.length_eq
      unfold wbks at this
      rwa [List.length_map, List.length_map, List.length_map] at this
    refine ⟨l, rfl, ⟨_, sqL_new el⟩, fun D nD => ?_⟩
    refine dcT_it (walk_list (K := K) (a := l) (xs := rs.map fun r => V.ref r.1)) (fun i G => ∃ L : List PV, Same H1 G ∧ G D = some (.dT (pvKV L)) ∧ (L.map (·.1)).map stK = (rs.take i).map (·.2) ∧ ∀ t ∈ L, PvOk cs M G t) ⟨[], same_new nD, upd_same, rfl, fun t ht => nomatch ht⟩ (fun _ _ _ h => sqL_new (h.choose_spec.1 _ _ el)) (fun i x G G' hi h y => ?_) (fun G h => ?_)
    · obtain ⟨rfl, hy⟩ := y
      obtain ⟨r, hr2, rfl⟩ := get_map hy
      obtain ⟨L, sG, eG, kL, tL⟩ := h
      have mr := List.mem_of_getElem? hr2
      obtain ⟨x, hx, ex⟩ := List.mem_map.mp (pk.mem_iff.mp (List.mem_map.mpr ⟨r, mr, rfl⟩))
      obtain ⟨u, hu, rfl⟩ := List.mem_map.mp hx
      obtain ⟨c, mc, n1, n2⟩ := mem_stagesS.mp (hst u.2.1 hx)
      have sHG := sl.trans sG
      have hb : G' r.1 = some (.tup (stV u.2.1)) := by
        have := sHG _ _ (e2 r mr)
        rw [← ex] at this
        exact this
      have hb2 : G' r.1 = some (.tup (stV (c.nm, u.2.1.2))) := by rw [hb, ← n1]
      have hv : valV (wbKV M) (stK u.2.1) = some (.ref u.1) := valV_mem (by rw [wb_keys]; exact stK_nd nd) (List.mem_map.mpr ⟨u, hu, rfl⟩)
      have g : DGet G' d (.ref r.1) (some (.ref u.1)) := .inr ⟨wbKV M, stK u.2.1, r.1, .inl (sHG _ _ hM), rfl, hb, hv.symm⟩
      have exx : u.2.1 = (c.nm, u.2.1.2) := Prod.ext n1 rfl
      have lL : L.length ≤ 60 := by
        have := congrArg List.length kL
        rw [List.length_map, List.length_map, List.length_map, List.length_take] at this
        omega
      have fin : ∀ (G2 : Hp) (o : Option (Addr × List Stg)), Same G' G2 → PvOk cs M G2 (u.2.1, o) → (∀ r', o = some r' → r'.1 ≠ D) → ∃ kvs k b, V.ref r.1 = .ref b ∧ G2 b = some (.tup (k.map kV)) ∧ G2 D = some (.dT kvs) ∧ kvs.length < sizeLine ∧ ∃ L : List PV, Same H1 (upd G2 D (.dT (putK kvs k (pvV (u.2.1, o))))) ∧ upd G2 D (.dT (putK kvs k (pvV (u.2.1, o)))) D = some (.dT (pvKV L)) ∧ (L.map (·.1)).map stK = (rs.take (i + 1)).map (·.2) ∧ ∀ t ∈ L, PvOk cs M (upd G2 D (.dT (putK kvs k (pvV (u.2.1, o))))) t := fun G2 o s2 hok hne => by
        have eD := s2 _ _ eG
        have tk : ∀ {X : HO} {cc : Addr} {xs : List V}, G2 cc = some (.tup xs) → upd G2 D X cc = some (.tup xs) := fun {X cc xs} e => by
          rw [upd_ne]
          · exact e
          · intro z
            rw [z, eD] at e
            cases e
        have pk2 : ∀ {X : HO} {t : PV}, PvOk cs M G2 t → PvOk cs M (upd G2 D X) t := fun {X t} h => by
          obtain ⟨u, hu, e, h⟩ := h
          refine ⟨u, hu, e, ?_⟩
          rcases h with h | ⟨r, ps, h1, ⟨PL, h2, h4, h5⟩, h3⟩
          · exact .inl h
          · exact .inr ⟨r, ps, h1, ⟨PL, tk h2, h4, fun t ht => tk (h5 t ht)⟩, h3⟩
        refine ⟨_, stK u.2.1, r.1, rfl, s2 _ _ hb, eD, by unfold pvKV; rw [List.length_map]; exact small (by omega), L ++ [(u.2.1, o)], fun cc o2 e => ?_, ?_, ?_, fun t ht => ?_⟩
        · rw [upd_ne (ne_of_none e nD)]
          exact s2 _ _ (sG _ _ e)
        · rw [upd_same, putK_new]
          · unfold pvKV
            rw [List.map_append]
            rfl
          · rw [pv_keys, kL]
            intro z
            have nd2 := ndr
            rw [← List.take_append_drop i rs, List.map_append, drop_of_get hr2, List.map_cons, List.nodup_append] at nd2
            exact nd2.2.2 _ z _ List.mem_cons_self ex
        · rw [List.map_append, List.map_append, kL, take_of_get hr2, List.map_append]
          show _ ++ [stK u.2.1] = _ ++ [r.2]
          rw [ex]
        · rcases List.mem_append.mp ht with z | z
          · exact pk2 ((tL t z).mono s2)
          · rw [List.mem_singleton.mp z]
            exact pk2 hok
      refine ⟨rfl, _, rfl, _, rfl, _, rfl, _, rfl, _, rfl, d, _, rfl, g, p, a, r.1, u.1, cs, c, u.2.1.2, u.2.2, rfl, hB.mono sHG, mc, hb2, sHG _ _ (hMt u hu), ?_, ?_, ?_, ?_⟩
      · intro eW he H' r' s' nr pts
        rw [← exx] at he
        exact fin H' (some (r', [])) s' ⟨u, hu, rfl, .inr ⟨r', [], rfl, pts, .inl ⟨eW, he, rfl⟩⟩⟩ fun _ e z => by
          cases e
          have z : r' = D := z
          rw [z, eG] at nr
          cases nr
      · intro eW he H' s'
        rw [← exx] at he
        refine fin H' none s' ⟨u, hu, rfl, .inl ⟨rfl, fun ps hps => ?_⟩⟩ fun _ e => nomatch e
        rcases hps with ⟨_, h, _⟩ | ⟨_, _, _, k, _, h, _⟩
        · exact he h
        · rw [eW] at h; cases h
      · intro k eW no H' s'
        refine fin H' none s' ⟨u, hu, rfl, .inl ⟨rfl, fun ps hps => ?_⟩⟩ fun _ e => nomatch e
        rcases hps with ⟨h, _⟩ | ⟨c', mc', ec', k', s9, h, hs9, _⟩
        · rw [eW] at h; cases h
        · have := same_course ok.nd mc' mc (ec'.symm.trans n1)
          subst this
          rw [eW] at h
          cases h
          exact no s9 hs9
      · intro k s9 eW hs9 H' r' s' nr pts
        exact fin H' (some (r', partsS c.nm s9.2)) s' ⟨u, hu, rfl, .inr ⟨r', _, rfl, pts, .inr ⟨c, mc, n1, k, s9, eW, hs9, rfl⟩⟩⟩ fun _ e z => by
          cases e
          have z : r' = D := z
          rw [z, eG] at nr
          cases nr
    · obtain ⟨L, sG, eG, kL, tL⟩ := h
      rw [List.length_map, List.take_length] at kL
      have pL : (L.map (·.1)).Perm (wbks M) := by
        obtain ⟨l', h1, h2⟩ := perm_of_map pk (wbks M) rfl
        rw [← kL] at h2
        rw [map_stK_inj h2]
        exact h1
      have ndL : (L.map (·.1)).Nodup := pL.nodup_iff.mpr nd
      have lL : L.length = M.length := by
        have := pL.length_eq
        unfold wbks at this
        rwa [List.length_map, List.length_map] at this
      have sHG := sl.trans sG
      have nDH := sl.free nD
      refine ⟨D, _, eG, True.intro, fun od => ?_⟩
      generalize hL0 : upd G D (.frz od (.dT (pvKV L))) = Lk
      have fL : Lk D = some (.frz od (.dT (pvKV L))) := by rw [← hL0]; exact upd_same
      have back : ∀ {Z : Hp}, Same Lk Z → Same G (upd Z D (.dT (pvKV L))) := fun s => unlock eG (by rw [hL0]; exact s)
      have pvl : (pvKV L).length = L.length := List.length_map _
      refine ⟨_, rfl, D, od, rfl, .inr ⟨pvKV L, fL, fun D2 nD2 => ?_⟩⟩
      refine lc_pure (walk_keysT (d := D) (o := od) (kvs := pvKV L)) ((L.map fun t => decide (pvV t = .non)).map V.bl) (by rw [List.length_map, List.length_map, pvl]) nD2 (fun _ s => s _ _ fL) (fun i x H0 H' hi h0 y => ?_) (fun H' s' e => ?_)
      · obtain ⟨rfl, ky, v2, b, hkv, rfl, hb⟩ := y
        obtain ⟨t, ht, e⟩ := get_map hkv
        cases e
        have mt := List.mem_of_getElem? ht
        have hv : valV (pvKV L) (stK t.1) = some (pvV t) := valV_mem (by rw [pv_keys]; exact stK_nd ndL) (List.mem_map.mpr ⟨t, mt, rfl⟩)
        have g : DGet H' D (.ref b) (some (pvV t)) := .inr ⟨pvKV L, stK t.1, b, .inr ⟨od, h0.1 _ _ fL⟩, rfl, hb, hv.symm⟩
        refine ⟨rfl, _, rfl, _, rfl, D, _, rfl, g, rfl, ?_⟩
        refine h0.put nD2 (fun _ _ e => e) ?_ (by rw [List.length_map, List.length_map]; omega)
        rw [List.getElem?_map, List.getElem?_map, ht]
        rfl
      · have nD2D : D2 ≠ D := fun z => by
          rw [z, fL] at nD2
          cases nD2
        have sB := back s'
        refine ⟨s' _ _ fL, D2, _, rfl, sqL_new (by rw [upd_ne nD2D]; exact e), ?_⟩
        have eD2 : upd H' D (.dT (pvKV L)) D = some (.dT (pvKV L)) := upd_same
        generalize upd H' D (.dT (pvKV L)) = G1 at sB eD2
        have sHG1 := sHG.trans sB
        refine ⟨_, rfl, ite2 (fun c0 => ?_) (fun c0 => ?_)⟩
        · refine q2 _ sHG1 fun ⟨f, hf⟩ => ?_
          rw [List.any_eq_true] at c0
          obtain ⟨bb, hb1, hb2⟩ := c0
          obtain ⟨t, ht, rfl⟩ := List.mem_map.mp hb1
          have hb2 : pvV t = .non := of_decide_eq_true hb2
          obtain ⟨u, hu, eu, h⟩ := tL t ht
          obtain ⟨ps, hps, _⟩ := hf u hu
          rcases h with ⟨_, h⟩ | ⟨r, ps', h1, _⟩
          · rw [eu] at hps
            exact h ps hps
          · unfold pvV at hb2
            rw [h1] at hb2
            cases hb2
        · -- every stage has parts
          have tG : ∀ t ∈ L, ∃ u ∈ M, u.2.1 = t.1 ∧ ∃ r ps, t.2 = some (r, ps) ∧ PtsAt G1 r ps ∧ PartsOf cs t.1 u.2.2 ps := fun t ht => by
            obtain ⟨u, hu, eu, h⟩ := tL t ht
            rcases h with ⟨h0, h⟩ | ⟨r, ps, h1, h2, h3⟩
            · refine absurd (List.any_eq_true.mpr ⟨true, List.mem_map.mpr ⟨t, ht, decide_eq_true ?_⟩, rfl⟩) c0
              unfold pvV
              rw [h0]
            · exact ⟨u, hu, eu, r, ps, h1, h2.mono sB, h3⟩
          intro pd npd
          have spd := same_new (o := .dT []) npd
          have epd : upd G1 pd (.dT []) pd = some (.dT []) := upd_same
          have npdH := sHG1.free npd
          generalize upd G1 pd (.dT []) = G2 at spd epd
          have eD3 := spd _ _ eD2
          refine ⟨_, rfl, D, pvKV L, rfl, .inl eD3, fun ll bs nll hks => ?_⟩
          obtain ⟨T0, b1, b2, b3⟩ := keys_of hks
          rw [b1]
          have sll := same_new (o := .lst (T0.map fun t => V.ref t.1)) nll
          have ell : upd G2 ll (.lst (T0.map fun t => V.ref t.1)) ll = some (.lst (T0.map fun t => V.ref t.1)) := upd_same
          have epd := sll _ _ epd
          generalize upd G2 ll (.lst (T0.map fun t => V.ref t.1)) = G3 at sll epd ell
          obtain ⟨F, hF⟩ : ∃ F : Stg → Addr × List Stg, ∀ t ∈ L, t.2 = some (F t.1) := by
            have : ∀ x : Stg, ∃ r : Addr × List Stg, ∀ t ∈ L, t.1 = x → t.2 = some r := fun x => by
              by_cases h : ∃ t ∈ L, t.1 = x
              · obtain ⟨t, ht, ex⟩ := h
                obtain ⟨_, _, _, r, ps, e, _⟩ := tG t ht
                exact ⟨(r, ps), fun u hu eu => by rw [inj_of_nd ndL hu ht (eu.trans ex.symm)]; exact e⟩
              · exact ⟨(0, []), fun u hu eu => absurd ⟨u, hu, eu⟩ h⟩
            obtain ⟨F, hF⟩ := Classical.skolem.mp this
            exact ⟨F, fun t ht => hF t.1 t ht rfl⟩
          -- what F gives
          have fG : ∀ x ∈ wbks M, ∃ u ∈ M, u.2.1 = x ∧ PtsAt G3 (F x).1 (F x).2 ∧ PartsOf cs x u.2.2 (F x).2 ∧ valV (pvKV L) (stK x) = some (.ref (F x).1) := fun x hx => by
            obtain ⟨t, ht, rfl⟩ := List.mem_map.mp (pL.mem_iff.mpr hx)
            obtain ⟨u, hu, eu, r, ps, e, h1, h2⟩ := tG t ht
            have e2 := hF t ht
            rw [e] at e2
            have e2 := Option.some.inj e2
            refine ⟨u, hu, eu, ?_, ?_, ?_⟩
            · rw [← e2]
              exact h1.mono (spd.trans sll)
            · rw [← e2]
              exact h2
            · rw [← e2]
              refine valV_mem (by rw [pv_keys]; exact stK_nd ndL) (List.mem_map.mpr ⟨t, ht, ?_⟩)
              unfold pvV
              rw [e]
          have eD4 := sll _ _ eD3
          have sHG3 := (sHG1.trans spd).trans sll
          have pdD : pd ≠ D := fun z => by
            rw [z, eD2] at npd
            cases npd
          have fl : ∀ x ∈ wbks M, (F x).2.length ≤ 2 := fun x hx => by
            obtain ⟨_, _, _, _, h, _⟩ := fG x hx
            rcases h with ⟨_, _, e⟩ | ⟨c, _, _, _, s9, _, _, e⟩
            · rw [e]; exact Nat.zero_le _
            · rw [e]; exact partsS_len _ _
          -- the loop
          refine ⟨fun m σ Z => ∃ (x5 x6 : Option V) (lq : Addr) (T : List (Addr × Stg)) (Pl : List Stg), σ = [some (.ref p), some (.ref d), some (.ref D), some (.ref pd), some (.ref lq), x5, x6] ∧ But pd G3 Z ∧ Z pd = some (.dT (lotKV Pl)) ∧ Z lq = some (.lst (T.map fun t => V.ref t.1)) ∧ (∀ t ∈ T, Z t.1 = some (.tup (stV t.2))) ∧ (T.map (·.2) ++ Pl).Perm (wbks M) ∧ OrdTo cs M Pl ∧ T.length = m, ⟨T0.length, none, none, ll, T0, [], rfl, But.refl, epd, ell, fun t ht => sll _ _ (b3 t ht), by rw [List.append_nil, b2]; exact pL, (fun i x hi => nomatch hi), rfl⟩, fun m σ Z h => ?_⟩
          obtain ⟨x5, x6, lq, T, Pl, rfl, kZ, zP, zL, tT, pT, oP, em⟩ := h
          have sHZ : Same H Z := fun b o e => kZ _ _ (ne_of_none e npdH) (sHG3 _ _ e)
          have ndA : (T.map (·.2) ++ Pl).Nodup := pT.nodup_iff.mpr nd
          have lA : T.length + Pl.length ≤ 60 := by
            have := pT.length_eq
            unfold wbks at this
            rw [List.length_append, List.length_map, List.length_map] at this
            omega
          have memT : ∀ t ∈ T, t.2 ∈ wbks M := fun t ht => pT.mem_iff.mp (List.mem_append_left _ (List.mem_map.mpr ⟨t, ht, rfl⟩))
          refine ⟨_, rfl, !(T.map fun t => V.ref t.1).isEmpty, .inl ⟨_, sqL_new zL, rfl⟩, ?_⟩
          generalize hT : T = T1
          cases T1 with
          | nil =>
            refine iteNo rfl ?_
            rw [hT] at pT
            refine ⟨_, rfl, pd, lotKV Pl, rfl, .inl zP, fun r bs nr hk => ?_⟩
            obtain ⟨T9, b1, b2, b3⟩ := keys_lot hk
            rw [b1]
            have sr := same_new (o := .lst (T9.map fun t => V.ref t.1)) nr
            exact q1 _ r Pl (sHZ.trans sr) (sHZ.free nr) ⟨T9, upd_same, b2, fun t ht => sr _ _ (b3 t ht)⟩ ⟨pT, oP⟩
          | cons t0 T1 =>
            rw [← hT]
            refine iteYes (by rw [hT]; rfl) ?_
            refine ⟨fun σ' Z' => ∃ m', m' < m ∧ ∃ (x5 x6 : Option V) (lq : Addr) (T : List (Addr × Stg)) (Pl : List Stg), σ' = [some (.ref p), some (.ref d), some (.ref D), some (.ref pd), some (.ref lq), x5, x6] ∧ But pd G3 Z' ∧ Z' pd = some (.dT (lotKV Pl)) ∧ Z' lq = some (.lst (T.map fun t => V.ref t.1)) ∧ (∀ t ∈ T, Z' t.1 = some (.tup (stV t.2))) ∧ (T.map (·.2) ++ Pl).Perm (wbks M) ∧ OrdTo cs M Pl ∧ T.length = m', fun _ _ h => h, ?_⟩
            refine ⟨_, rfl, lq, rfl, ⟨_, sqL_new zL⟩, fun R nR => ?_⟩
            have rdyT : ∀ x ∈ wbks M, ((F x).2.all fun y => (valV (lotKV Pl) (stK y)).isSome) = (F x).2.all fun y => decide (y ∈ Pl) := fun x _ => by
              congr 1
              funext y
              rw [val_in (lotKV_keys Pl)]
            have nRH := sHZ.free nR
            refine lc_it (walk_list (K := K) (a := lq) (xs := T.map fun t => V.ref t.1)) (fun i Y => Same Z Y ∧ Y R = some (.lst (((T.take i).filter fun t => (F t.2).2.all fun y => decide (y ∈ Pl)).map fun t => V.ref t.1))) ⟨same_new nR, upd_same⟩ (fun _ _ _ h => sqL_new (h.1 _ _ zL)) (fun i x Y Y' hi h y => ?_) (fun Y h => ?_)
            · obtain ⟨rfl, hy⟩ := y
              obtain ⟨t, ht, rfl⟩ := get_map hy
              obtain ⟨sY, eY⟩ := h
              have mt := List.mem_of_getElem? ht
              obtain ⟨u, hu, eu, pts, po, hv⟩ := fG t.2 (memT t mt)
              have tY := sY _ _ (tT t mt)
              have kY : ∀ {cc : Addr} {o : HO}, cc ≠ pd → G3 cc = some o → Y' cc = some o := fun hc e => sY _ _ (kZ _ _ hc e)
              have tupY : ∀ {cc : Addr} {xs : List V}, G3 cc = some (.tup xs) → Y' cc = some (.tup xs) := fun {cc xs} e => kY (fun z => by rw [z, epd] at e; cases e) e
              have ptY : PtsAt Y' (F t.2).1 (F t.2).2 := by
                obtain ⟨PL, a1, a2, a3⟩ := pts
                exact ⟨PL, tupY a1, a2, fun u hu => tupY (a3 u hu)⟩
              have g : DGet Y' D (.ref t.1) (some (.ref (F t.2).1)) := .inr ⟨pvKV L, stK t.2, t.1, .inl (kY pdD.symm eD4), rfl, tY, hv.symm⟩
              refine ⟨rfl, _, rfl, _, rfl, D, _, rfl, g, _, rfl, (F t.2).1, pd, (F t.2).2, lotKV Pl, rfl, ptY, by have := fl t.2 (memT t mt); omega, .inl (sY _ _ zP), fun Y2 s2 => ?_⟩
              rw [rdyT t.2 (memT t mt), take_of_get ht, List.filter_append, List.filter_cons, List.filter_nil]
              refine ⟨_, rfl, ite2 (fun c1 => ?_) (fun c1 => ?_)⟩
              · rw [if_pos c1]
                refine ⟨_, rfl, _, s2 _ _ eY, ?_, fun c o e => ?_, ?_⟩
                · rw [List.length_map]
                  have h1 := List.length_filter_le (fun t : Addr × Stg => (F t.2).2.all fun y => decide (y ∈ Pl)) (T.take i)
                  rw [List.length_take] at h1
                  exact small (by omega)
                · rw [upd_ne (ne_of_none e nR)]
                  exact s2 _ _ (sY _ _ e)
                · rw [upd_same, List.map_append]
                  rfl
              · rw [if_neg c1, List.append_nil]
                exact ⟨sY.trans s2, s2 _ _ eY⟩
            · obtain ⟨sY, eY⟩ := h
              rw [List.length_map, List.take_length] at eY
              generalize hR : (T.filter fun t => (F t.2).2.all fun y => decide (y ∈ Pl)) = TR at eY
              have memR : ∀ t ∈ TR, t ∈ T ∧ ∀ y ∈ (F t.2).2, y ∈ Pl := fun t ht => by
                rw [← hR] at ht
                obtain ⟨h1, h2⟩ := List.mem_filter.mp ht
                exact ⟨h1, fun y hy => of_decide_eq_true (List.all_eq_true.mp h2 y hy)⟩
              refine ⟨_, rfl, !(TR.map fun t => V.ref t.1).isEmpty, .inl ⟨_, sqL_new eY, rfl⟩, ?_⟩
              generalize hTR : TR = TR1
              cases TR1 with
              | nil =>
                refine iteYes rfl ?_
                refine q2 _ (sHZ.trans sY) fun ⟨f, hf⟩ => ?_
                obtain ⟨t, ht, hm⟩ := min_ex f (T := T) (by rw [hT]; exact fun z => nomatch z)
                obtain ⟨u, hu, eu, _, po, _⟩ := fG t.2 (memT t ht)
                obtain ⟨ps, hps, hlt⟩ := hf u hu
                rw [eu] at hps hlt
                have e9 := partsOf_uniq ok hps po
                subst e9
                have : t ∈ TR := by
                  rw [← hR]
                  refine List.mem_filter.mpr ⟨ht, List.all_eq_true.mpr fun y hy => decide_eq_true ?_⟩
                  obtain ⟨h1, h2⟩ := hlt y hy
                  rcases List.mem_append.mp (pT.mem_iff.mpr h1) with z | z
                  · obtain ⟨v, hv, ev⟩ := List.mem_map.mp z
                    have := hm v hv
                    rw [ev] at this
                    omega
                  · exact z
                rw [hTR] at this
                cases this
              | cons r0 TR1 =>
                rw [← hTR]
                refine iteNo (by rw [hTR]; rfl) ?_
                have nRpd : R ≠ pd := fun z => by
                  rw [z, zP] at nR
                  cases nR
                have kY : But pd G3 Y := fun c o hc e => sY _ _ (kZ _ _ hc e)
                have lTR : TR.length ≤ T.length := by
                  rw [← hR]
                  exact List.length_filter_le _ _
                have ndR : (TR.map (·.2)).Nodup := by
                  have h1 : (T.map (·.2)).Nodup := (List.nodup_append.mp ndA).1
                  rw [← hR]
                  exact h1.sublist (List.filter_sublist.map _)
                have disj : ∀ t ∈ T, t.2 ∉ Pl := fun t ht z => (List.nodup_append.mp ndA).2.2 _ (List.mem_map.mpr ⟨t, ht, rfl⟩) _ z rfl
                refine ⟨_, rfl, R, rfl, ⟨_, sqL_new eY⟩, ?_⟩
                refine for_it (walk_list (K := K) (a := R) (xs := TR.map fun t => V.ref t.1)) (fun j σ X => ∃ x6 : Option V, σ = [some (.ref p), some (.ref d), some (.ref D), some (.ref pd), some (.ref lq), some (.ref R), x6] ∧ But pd Y X ∧ X pd = some (.dT (lotKV (Pl ++ (TR.take j).map (·.2))))) ⟨x6, rfl, But.refl, by rw [List.take_zero, List.map_nil, List.append_nil]; exact sY _ _ zP⟩ (fun _ _ _ _ ⟨_, _, k, _⟩ => sqL_new (k _ _ nRpd eY)) (fun j x σ X X' hj h y => ?_) (fun σ X h => ?_)
                · obtain ⟨rfl, hy⟩ := y
                  obtain ⟨t, ht, rfl⟩ := get_map hy
                  obtain ⟨y6, rfl, kX, eX⟩ := h
                  have mt := List.mem_of_getElem? ht
                  have tX : X' t.1 = some (.tup (stV t.2)) := by
                    have := sY _ _ (tT t (memR t mt).1)
                    exact kX _ _ (fun z => by rw [z, sY _ _ zP] at this; cases this) this
                  refine ⟨_, rfl, _, rfl, pd, _, rfl, DPut.t eX (k := stK t.2) tX ?_, ?_⟩
                  · unfold lotKV
                    rw [List.length_map, List.length_append, List.length_map, List.length_take]
                    exact small (by omega)
                  · refine ⟨_, rfl, fun c o hc e => by rw [upd_ne hc]; exact kX _ _ hc e, ?_⟩
                    rw [upd_same, putK_new, take_of_get ht, List.map_append, ← List.append_assoc]
                    · unfold lotKV
                      simp only [List.map_append, List.append_assoc]
                      rfl
                    · refine stK_notin fun w => ?_
                      rcases List.mem_append.mp w with z | z
                      · exact disj t (memR t mt).1 z
                      · have h2 : (TR.map (·.2))[j]? = some t.2 := by rw [List.getElem?_map, ht]; rfl
                        have nd2 := ndR
                        rw [← List.take_append_drop j (TR.map (·.2)), drop_of_get h2, List.nodup_append] at nd2
                        rw [List.map_take] at z
                        exact nd2.2.2 _ z _ List.mem_cons_self rfl
                · obtain ⟨y6, rfl, kX, eX⟩ := h
                  rw [List.length_map, List.take_length] at eX
                  have npq : lq ≠ pd := fun z => by
                    rw [z, zP] at zL
                    cases zL
                  have zLX : X lq = some (.lst (T.map fun t => V.ref t.1)) := kX _ _ npq (sY _ _ zL)
                  have tTX : ∀ t ∈ T, X t.1 = some (.tup (stV t.2)) := fun t ht => by
                    have := sY _ _ (tT t ht)
                    exact kX _ _ (fun z => by rw [z, sY _ _ zP] at this; cases this) this
                  refine ⟨_, rfl, lq, rfl, ⟨_, sqL_new zLX⟩, fun R2 nR2 => ?_⟩
                  refine lc_it (walk_list (K := K) (a := lq) (xs := T.map fun t => V.ref t.1)) (fun i Q2 => Same X Q2 ∧ Q2 R2 = some (.lst (((T.take i).filter fun t => decide (t.2 ∉ Pl ++ TR.map (·.2))).map fun t => V.ref t.1))) ⟨same_new nR2, upd_same⟩ (fun _ _ _ h => sqL_new (h.1 _ _ zLX)) (fun i x Q2 Q2' hi h y => ?_) (fun Q2 h => ?_)
                  · obtain ⟨rfl, hy⟩ := y
                    obtain ⟨t, ht, rfl⟩ := get_map hy
                    obtain ⟨sQ, eQ⟩ := h
                    have tQ := sQ _ _ (tTX t (List.mem_of_getElem? ht))
                    have g : DGet Q2' pd (.ref t.1) (valV (lotKV (Pl ++ TR.map (·.2))) (stK t.2)) := .inr ⟨_, stK t.2, t.1, .inl (sQ _ _ eX), rfl, tQ, rfl⟩
                    refine ⟨rfl, _, rfl, _, rfl, pd, _, rfl, g, ?_⟩
                    rw [val_in (lotKV_keys _), take_of_get ht, List.filter_append, List.filter_cons, List.filter_nil]
                    refine ⟨_, rfl, ite2 (fun c1 => ?_) (fun c1 => ?_)⟩
                    · have z : t.2 ∉ Pl ++ TR.map (·.2) := fun z => by
                        rw [decide_eq_true z] at c1
                        cases c1
                      rw [if_pos (decide_eq_true z)]
                      refine ⟨_, rfl, _, eQ, ?_, fun c o e => ?_, ?_⟩
                      · rw [List.length_map]
                        have h1 := List.length_filter_le (fun t : Addr × Stg => decide (t.2 ∉ Pl ++ TR.map (·.2))) (T.take i)
                        rw [List.length_take] at h1
                        exact small (by omega)
                      · rw [upd_ne (ne_of_none e nR2)]
                        exact sQ _ _ e
                      · rw [upd_same, List.map_append]
                        rfl
                    · have z : t.2 ∈ Pl ++ TR.map (·.2) := Classical.byContradiction fun z => c1 (by rw [decide_eq_false z]; rfl)
                      rw [if_neg (by rw [decide_eq_true_eq]; exact fun w => w z), List.append_nil]
                      exact ⟨sQ, eQ⟩
                  · obtain ⟨sQ, eQ⟩ := h
                    rw [List.length_map, List.take_length] at eQ
                    have r0T : r0 ∈ TR := by rw [hTR]; exact List.mem_cons_self
                    have r0T2 := (memR r0 r0T).1
                    refine ⟨(T.filter fun t => decide (t.2 ∉ Pl ++ TR.map (·.2))).length, ?_, _, _, R2, T.filter fun t => decide (t.2 ∉ Pl ++ TR.map (·.2)), Pl ++ TR.map (·.2), rfl, fun c o hc e => sQ _ _ (kX _ _ hc (kY _ _ hc e)), sQ _ _ eX, eQ, fun t ht => sQ _ _ (tTX t (List.mem_filter.mp ht).1), ?_, oP.app fun x hx => ?_, rfl⟩
                    · rw [← em]
                      refine Nat.lt_of_le_of_ne (List.length_filter_le _ _) fun z => ?_
                      have := List.length_filter_eq_length_iff.mp z r0 r0T2
                      exact of_decide_eq_true this (List.mem_append_right _ (List.mem_map.mpr ⟨r0, r0T, rfl⟩))
                    · refine List.Perm.trans ?_ pT
                      refine (List.perm_ext_iff_of_nodup ?_ ndA).mpr fun x => ?_
                      · refine List.nodup_append.mpr ⟨(List.nodup_append.mp ndA).1.sublist (List.filter_sublist.map _), List.nodup_append.mpr ⟨(List.nodup_append.mp ndA).2.1, ndR, fun a ha b hb e => ?_⟩, fun a ha b hb e => ?_⟩
                        · obtain ⟨t, ht, et⟩ := List.mem_map.mp hb
                          rw [e, ← et] at ha
                          exact disj t (memR t ht).1 ha
                        · obtain ⟨t, ht, et⟩ := List.mem_map.mp ha
                          have := of_decide_eq_true (List.mem_filter.mp ht).2
                          rw [et, e] at this
                          exact this hb
                      · rw [List.mem_append, List.mem_append, List.mem_append]
                        constructor
                        · rintro (h | h | h)
                          · obtain ⟨t, ht, et⟩ := List.mem_map.mp h
                            exact .inl (List.mem_map.mpr ⟨t, (List.mem_filter.mp ht).1, et⟩)
                          · exact .inr h
                          · obtain ⟨t, ht, et⟩ := List.mem_map.mp h
                            exact .inl (List.mem_map.mpr ⟨t, (memR t ht).1, et⟩)
                        · rintro (h | h)
                          · by_cases z : x ∈ TR.map (·.2)
                            · exact .inr (.inr z)
                            · obtain ⟨t, ht, et⟩ := List.mem_map.mp h
                              refine .inl (List.mem_map.mpr ⟨t, List.mem_filter.mpr ⟨ht, decide_eq_true fun w => ?_⟩, et⟩)
                              rcases List.mem_append.mp w with w | w
                              · exact disj t ht w
                              · rw [et] at w
                                exact z w
                          · exact .inr (.inl h)
                    · obtain ⟨t, ht, et⟩ := List.mem_map.mp hx
                      obtain ⟨u, hu, eu, _, po, _⟩ := fG t.2 (memT t (memR t ht).1)
                      rw [← et]
                      exact ⟨u, hu, eu, _, po, (memR t ht).2⟩
end
end Kb
/-! t.count(x), t a tuple of texts. -/
namespace Ka
open PySem PySem.Spec PyProof.Rows L2 PySem.W
section
variable {X : Cx}
def eqs (k : Str) (v : Value) : Bool := match v with
  | .str x _ => x == k
  | _ => false
def rCntS (K : PySem.W.Frag) : V → List V → Hp → VK → Prop := fun x xs H Q => ∃ (p : Addr) (ns : List Str) (k : Str), x = .ref p ∧ xs = [.str k] ∧ SqT K H p (ns.map V.str) ∧ Q (.int (ns.count k : Nat)) H
theorem strs_eqs {k : Str} : ∀ {ns : List Str} {us : List Value}, Vals (ns.map V.str) us → us.countP (eqs k) = ns.count k ∧ ∀ y ∈ us, ∃ x t, y = .str x t
  | [], _, r => by
    cases r
    exact ⟨rfl, fun y hy => nomatch hy⟩
  | n :: ns, _, r => by
    rw [List.map_cons] at r
    cases r with
    | cons a b =>
      obtain ⟨t, rfl⟩ := a
      obtain ⟨h1, h2⟩ := strs_eqs (k := k) b
      refine ⟨?_, fun y hy => ?_⟩
      · rw [List.countP_cons, List.count_cons, h1]
        rfl
      · rcases List.mem_cons.mp hy with z | z
        · exact ⟨_, _, z⟩
        · exact h2 y z
theorem mt_cntS : MtR X "tuple.count" (rCntS X.K) := by
  intro pins s σ H x xs v us Q I rx rxs h
  obtain ⟨p, ns, k, rfl, rfl, hs, q⟩ := h
  cases rx
  obtain ⟨u, rfl, ru⟩ := rxs.one
  obtain ⟨t, rfl⟩ := ru
  obtain ⟨its, rv, ⟨⟨cls, dd, data, sl⟩, ho, hc, n, hd⟩, hlen⟩ := I.tuple hs
  simp only at hc hd
  subst hc hd
  obtain ⟨ec, hstr⟩ := strs_eqs (k := k) rv
  refine call_meets PySem.F.slot_tuple_count ⟨_, ho, rfl⟩ PySem.F.entry_tuple_count (PySem.F.args_tuple_count_2 _ _)
    (SeqAt.tuple_countAt p its.toArray n dd sl (.str k t) (eqs k)) ⟨ho, fun y hy => ?_, ?_⟩
  · obtain ⟨x, t', rfl⟩ := hstr y (by simpa using hy)
    exact SeqAt.EqAt.str_str x t' k t
  · refine ⟨.int (ns.count k : Nat), H, I.tok _, ⟨s.toks, ?_⟩, q⟩
    show Value.int ((its.toArray.toList.countP (eqs k) : Nat) : Int) s.toks = Value.int ((ns.count k : Nat) : Int) s.toks
    show Value.int ((its.countP (eqs k) : Nat) : Int) s.toks = _
    rw [ec]
/-- a tuple displayed, its object tracked -/
def tTupF (t : TA) : TE := fun σ H Q => t σ H fun xs H1 => xs.length ≤ sizeLine ∧ ∀ (p : Addr) (ob : Obj), ob.dict = none → H1 p = none → Q (.ref p) (upd H1 p (.frz ob (.tup xs)))
theorem pe_tupF {es : List Expr} {x1 : Nat} {pos : Pos} {t : TA} (h : PA X es t) : PE X (.Tuple es x1 pos) (tTupF t) := by
  refine ⟨fun pins s σ H Q I hq => ?_⟩
  refine wpAny_Tuple_spliced (thn (h.run pos pins s σ H _ I hq) fun us s1 ⟨xs, H1, I1, r, z, q⟩ => ⟨by rw [← r.length]; exact z, ?_⟩)
  have hf : H1 s1.heap.objs.size = none := I1.hok.fresh (Nat.le_refl _)
  refine ⟨.ref s1.heap.objs.size, upd H1 s1.heap.objs.size (.frz { cls := .type "tuple", data := .seq us.toArray } (.tup xs)), I1.laid (t' := s1.toks) (fun b u e => Heap.get?_push_of_some _ e) (Nat.le_refl _) ?_, rfl, q _ _ rfl hf⟩
  exact ⟨Heap.get?_push_size _ rfl, z, us, r, ⟨_, Heap.get?_push_size _ rfl, rfl, _, rfl⟩⟩
/-- a tuple whose object is known to bear no dict -/
def TupD (K : PySem.W.Frag) (H : Hp) (p : Addr) (xs : List V) : Prop := (∃ ob : Obj, H p = some (.frz ob (.tup xs)) ∧ ob.dict = none) ∨ ∃ (o : Obj) (its : Array Value) (n : Nat), K.lookup p = some o ∧ o.cls = .type "tuple" ∧ o.dict = none ∧ o.data = .seq its n ∧ its.size ≤ sizeLine ∧ Vals xs its.toList
theorem TupD.sq {K : PySem.W.Frag} {H : Hp} {p : Addr} {xs : List V} (h : TupD K H p xs) : SqT K H p xs := by
  rcases h with ⟨ob, h, _⟩ | ⟨o, its, n, h1, h2, _, h3⟩
  · exact .inl (.inr ⟨ob, h⟩)
  · exact .inr ⟨o, its, n, h1, h2, h3⟩
def tCntS (K : PySem.W.Frag) (to : TE) (t : TA) : TE := fun σ H Q => to σ H fun x H1 => (∃ p xs, x = .ref p ∧ TupD K H1 p xs) ∧ t σ H1 fun xs H2 => rCntS K x xs H2 Q
theorem pe_cntS {K : PySem.W.Frag} (hK : X.K = K) {o e : Expr} {es : List Expr} {apos cpos : Pos} {to : TE} {t : TA} (ho : PE X o to) (ha : PA X (e :: es) t)
    (hbase : attributeBase o (Str.ofString "count") X.env (eval o X.env) = eval o X.env := by rfl)
    (hfew : ((backTo cpos (starEach (e :: es) X.env)).all (fun x => !x.1) && (backToKw cpos (keywordEach [] X.env)).all (fun x => x.1.isSome)
      && decide ((e :: es).length + ([] : List Keyword).length + (if ([] : List Keyword).isEmpty then 0 else 1) < 30)) = true := by rfl)
    (hline : (apos.endLine == cpos.line) = true := by rfl) (hs : starEach (e :: es) X.env = (false, eval e X.env) :: starEach es X.env := by rfl) (hplain : (backTo cpos (starEach es X.env)).any (·.1) = false := by rfl) :
    PE X (.Call (.Attribute o (Str.ofString "count") apos) (e :: es) [] cpos) (tCntS K to t) := by
  subst hK
  refine ⟨fun pins s σ H Q I h => ?_⟩
  refine wpAny_Call_method_late hbase hfew hline rfl (thn (ho.run pins s σ H _ I h) fun v s1 ⟨x, H1, I1, r1, ⟨p, xs, ex, ty⟩, q1⟩ => ?_)
  subst ex
  cases r1
  obtain ⟨ob, g1, g2, g3⟩ : ∃ ob : Obj, s1.heap.get? p = some ob ∧ ob.cls = .type "tuple" ∧ ob.dict = none := by
    rcases ty with ⟨ob, e, d⟩ | ⟨o, its, n, h1, h2, h3, _⟩
    · obtain ⟨g, z, its, rv, o2, g2, c2, _⟩ := (show ObjOk X.prog X.w H1 s1.heap p (.frz ob (.tup xs)) from I1.hok p _ e)
      rw [g] at g2
      cases g2
      exact ⟨ob, g, c2, d⟩
    · exact ⟨o, I1.kIn p o h1, h2, h3⟩
  refine ⟨"tuple", "tuple.count", PySem.F.plainAttrs_tuple, PySem.F.slot_tuple_count, PySem.F.type_tuple_count, ⟨ob, g1, g2⟩, fun a e => ⟨ob, by cases e; exact g1, g3⟩, ?_⟩
  have hA := ha.run cpos pins s1 σ H1 _ I1 q1
  rw [hs] at hA ⊢
  refine Calls.callWith_builtin (by show (false || (backTo cpos (starEach es X.env)).any (·.1)) = false; rw [hplain] <;> rfl) (Calls.evalArgs_plain ?_)
  exact thn hA fun us s2 ⟨vs, H2, I2, r2, q2⟩ => mt_cntS pins s2 σ H2 (.ref p) vs (.ref p) us Q I2 (by exact rfl) r2 q2
end
end Ka
namespace Kb
open PySem PySem.Spec PyProof.Rows L2
/-! ### the order of texts -/
abbrev leS (a b : Str) : Prop := a.cps.toList ≤ b.cps.toList
theorem leS_anti {a b : Str} (h1 : leS a b) (h2 : leS b a) : a = b := by
  have e : a.cps.toList = b.cps.toList := List.le_antisymm h1 h2
  cases a
  cases b
  rename_i x y
  have : x = y := Array.toList_inj.mp e
  rw [this]
theorem rising_pw : ∀ (l : List Str) (p : Str), risingS p l = true → (p :: l).Pairwise leS
  | [], p, _ => List.pairwise_singleton _ _
  | x :: r, p, h => by
    have h : (!ltCps x.cps.toList p.cps.toList && risingS x r) = true := h
    rw [Bool.and_eq_true, ltCps_eq, Bool.not_eq_true', decide_eq_false_iff_not] at h
    have ih := rising_pw r x h.2
    have hpx : leS p x := h.1
    refine List.pairwise_cons.mpr ⟨fun y hy => ?_, ih⟩
    rcases List.mem_cons.mp hy with e | e
    · rw [e]
      exact hpx
    · exact List.le_trans hpx ((List.pairwise_cons.mp ih).1 y e)
theorem sorted_pw {l : List Str} (h : sortedS l = true) : l.Pairwise leS := by
  cases l with
  | nil => exact List.Pairwise.nil
  | cons x r => exact rising_pw r x h
theorem sorted_of {l : List Str} (h : l.Pairwise leS) : sortedS l = true := by
  refine sortedS_of_pairwise l (h.imp fun {a b} hab => ?_)
  rw [ltCps_eq, decide_eq_false_iff_not]
  exact hab
theorem pw_uniq : ∀ {a b : List Str}, a.Pairwise leS → b.Pairwise leS → a.Perm b → a = b
  | [], b, _, _, p => (List.nil_perm.mp p).symm
  | x :: a, [], _, _, p => absurd p.length_eq (by simp)
  | x :: a, y :: b, ha, hb, p => by
    have ha2 := List.pairwise_cons.mp ha
    have hb2 := List.pairwise_cons.mp hb
    have exy : x = y := by
      rcases List.mem_cons.mp (p.mem_iff.mp List.mem_cons_self : x ∈ y :: b) with e | e
      · exact e
      · rcases List.mem_cons.mp (p.mem_iff.mpr List.mem_cons_self : y ∈ x :: a) with e2 | e2
        · exact e2.symm
        · exact leS_anti (ha2.1 y e2) (hb2.1 x e)
    subst exy
    rw [pw_uniq ha2.2 hb2.2 (List.Perm.cons_inv p)]
theorem sorted_uniq {a b : List Str} (ha : sortedS a = true) (hb : sortedS b = true) (p : a.Perm b) : a = b := pw_uniq (sorted_pw ha) (sorted_pw hb) p
theorem perm_of_mem : ∀ {a b : List Str}, a.Nodup → b.Nodup → (∀ x, x ∈ a ↔ x ∈ b) → a.Perm b := fun ha hb h => (List.perm_ext_iff_of_nodup ha hb).mpr h
theorem sorted_filter {l : List Str} (p : Str → Bool) (h : sortedS l = true) : sortedS (l.filter p) = true := sorted_of ((sorted_pw h).filter p)
end Kb
namespace Kb
open PySem PySem.Spec PyProof.Rows L2
/-! ### deed_counts, added -/
def DsOf (cs : List CA) (ds : List Str) : Prop := ds.Perm (uniq (dns cs)) ∧ sortedS ds = true
theorem ds_uniq {cs : List CA} {ds ds' : List Str} (h : DsOf cs ds) (h' : DsOf cs ds') : ds = ds' := sorted_uniq h.2 h'.2 (h.1.trans h'.1.symm)
def addC (a b : List Nat) : List Nat := List.zipWith (· + ·) a b
theorem addC_len {a b : List Nat} (h : a.length = b.length) : (addC a b).length = a.length := by
  unfold addC
  rw [List.length_zipWith, h, Nat.min_self]
section
variable {P : Program} {w : World} {K : PySem.W.Frag} {mg : Str → Option Value} {base : Heap}
def spDeedCounts (K : PySem.W.Frag) (C : Addr) : Sp := fun vs H Q _ => ∃ (p a r : Addr) (cs : List CA) (ns : List Str), vs = [.ref p, .ref r] ∧ BookAt K C H p a cs ∧ Ka.TupD K H r (ns.map V.str) ∧ ∀ H' q ds, Same H H' → H q = none → DsOf cs ds → H' q = some (.tup (natV (ds.map fun d => ns.count d))) → Q (.ref q) H'
abbrev nDc : List Str := ["book", "row", "deed"]
theorem scDc : FnScope nDc ["book", "row"] (defScope sDeedCounts) := ⟨rfl, rfl, rfl, by decide +kernel, rfl, by decide +kernel, by decide +kernel⟩
theorem ok_deedcounts {f C fD : Addr} {fd fdD : FuncData} (F : Fun K "deed_counts" "deed_counts" sDeedCounts f fd) (N : Nones mg) (B : BkC K mg C) (GM_deeds : FnOk P w K mg base CX0 2 fD fdD ["self"] (spBkDeeds K C)) (bM_deeds : Binds K fdD ["self"] []) (m_deeds : Meth K C "deeds" fD) : FnOk P w K mg base CX0 3 f fd ["book", "row"] (spDeedCounts K C) := by
  refine F.ok scDc (fun vs H Q E h => ?_) (fun cdv A outer s H vs Q E hr h => ?_)
  · obtain ⟨p, a, r, cs, ns, rfl, _⟩ := h
    rfl
  · obtain ⟨p, a, r, cs, ns, rfl, hB, hr0, q⟩ := h
    refine ⟨_, pss_one (ps_ret (pe_callTy call_tuple_of (by rfl) N.tuple (by decide +kernel) (pa_cons (pe_lc (own := [("deed", 2)]) (g := gName 2) (tt := tYes) rfl scDc.nd (pi_tup (pe_meth0 (pv 0) B.cl m_deeds GM_deeds (hr.mono (by decide)) bM_deeds .nil pass0)) (blkOk_by (own := [("deed", 2)]) (N := nDc) (sc := defScope sDeedCounts) (by decide +kernel)) (fun _ _ _ _ _ => (pg_name (i := 2) scDc.nd rfl (Or.inl rfl))) (fun _ _ _ _ _ => pts_nil) (fun _ _ _ _ _ => (Ka.pe_cntS (K := K) rfl (pv 1) (pa_cons (pv 2) pa_nil)))) pa_nil))), ?_⟩
    obtain ⟨dx, fs, P1, S1, E1, L1, S, hp, L, hC, ok, _⟩ := id hB
    have d12 := ok.d12
    refine ⟨_, rfl, p, dx, fs, rfl, hp, L.no _ (by decide +kernel), p, a, cs, rfl, hB, fun H1 q1 ds s1 n1 e1 hperm hso => ?_⟩
    have dl : ds.length ≤ 12 := by rw [hperm.length_eq]; exact d12
    refine ⟨q1, rfl, ⟨_, sqT_new e1⟩, fun D nD => ?_⟩
    refine lc_pure (walk_tup (K := K) (a := q1) (xs := ds.map V.str)) (natV (ds.map fun d => ns.count d)) (by rw [natV_len, List.length_map, List.length_map]) nD (fun _ s => sqT_new (s _ _ e1)) (fun i x H0 H' hi h0 y => ?_) (fun H' s' e => ?_)
    · obtain ⟨rfl, hy⟩ := y
      obtain ⟨d, hd, rfl⟩ := get_map hy
      have hr1 : Ka.TupD K H' r (ns.map V.str) := hr0.imp (fun ⟨ob, e, x⟩ => ⟨ob, h0.1 _ _ (s1 _ _ e), x⟩) id
      refine ⟨rfl, _, rfl, ⟨r, _, rfl, hr1⟩, _, rfl, r, ns, d, rfl, rfl, hr1.sq, ?_⟩
      · refine h0.put nD (fun _ _ e => e) ?_ (by rw [natV_len, List.length_map]; omega)
        refine natV_get ?_
        rw [List.getElem?_map, hd]
        rfl
    · refine ⟨D, _, rfl, .inl ⟨sqL_new e, fun l nl => ?_⟩⟩
      exact q _ l ds ((s1.trans s').trans (same_new nl)) (s1.free (s'.free nl)) ⟨hperm, hso⟩ upd_same
def spAdded (K : PySem.W.Frag) : Sp := fun vs H Q _ => ∃ (a b : Addr) (xs ys : List Nat), vs = [.ref a, .ref b] ∧ SqT K H a (natV xs) ∧ SqT K H b (natV ys) ∧ xs.length = ys.length ∧ xs.length ≤ 100000 ∧ ∀ H' q, Same H H' → H q = none → H' q = some (.tup (natV (addC xs ys))) → Q (.ref q) H'
abbrev nAd : List Str := ["count", "other", "at"]
theorem scAd : FnScope nAd ["count", "other"] (defScope sAdded) := ⟨rfl, rfl, rfl, by decide +kernel, rfl, by decide +kernel, by decide +kernel⟩
theorem ok_added {f : Addr} {fd : FuncData} (F : Fun K "added" "added" sAdded f fd) (N : Nones mg) : FnOk P w K mg base CX0 1 f fd ["count", "other"] (spAdded K) := by
  refine F.ok scAd (fun vs H Q E h => ?_) (fun cdv A outer s H vs Q E hr h => ?_)
  · obtain ⟨a, b, xs, ys, rfl, _⟩ := h
    rfl
  · obtain ⟨a, b, xs, ys, rfl, hA, hB, hl, hz, q⟩ := h
    refine ⟨_, pss_one (ps_ret (pe_callTy call_tuple_of (by rfl) N.tuple (by decide +kernel) (pa_cons (pe_lc (own := [("at", 2)]) (g := gName 2) (tt := tYes) rfl scAd.nd (pi_range1 (by rfl) N.range (pa_cons (pe_callB call_len_seq (by rfl) N.len PySem.boot_len (pa_cons (pv 0) pa_nil)) pa_nil)) (blkOk_by (own := [("at", 2)]) (N := nAd) (sc := defScope sAdded) (by decide +kernel)) (fun _ _ _ _ _ => (pg_name (i := 2) scAd.nd rfl (Or.inl rfl))) (fun _ _ _ _ _ => pts_nil) (fun _ _ _ _ _ => (pe_op op_add (pe_ix (ixT_at (K := K) rfl) (pv 0) (pv 2) (fun _ _ => rfl)) (pe_ix (ixT_at (K := K) rfl) (pv 1) (pv 2) (fun _ _ => rfl))))) pa_nil))), ?_⟩
    refine ⟨.ref a, rfl, a, _, rfl, .inr hA, _, rfl, (by rw [natV_len]; omega), (by rw [natV_len]; omega), fun D nD => ?_⟩
    have em : (((natV xs).length : Int)).toNat = xs.length := by rw [natV_len]; omega
    rw [em]
    refine lc_pure (walk_r0 (n := xs.length)) (natV (addC xs ys)) (by rw [natV_len, addC_len hl]) nD (fun _ _ => True.intro) (fun i x H0 H' hi h0 y => ?_) (fun H' s' e => ?_)
    · obtain ⟨rfl, rfl⟩ := y
      have h1 : xs[i]? = some (xs[i]'hi) := List.getElem?_eq_getElem _
      have h2 : ys[i]? = some (ys[i]'(by omega)) := List.getElem?_eq_getElem _
      have hA' := Same.sqT (fun b o e => h0.1 b o e) hA
      have hB' := Same.sqT (fun b o e => h0.1 b o e) hB
      refine ⟨rfl, _, rfl, .int (i : Nat), rfl, a, _, _, .int (xs[i]'hi : Nat), rfl, rfl, hA', atI_nat (natV_get h1), _, rfl, .int (i : Nat), rfl, b, _, _, .int (ys[i]'(by omega) : Nat), rfl, rfl, hB', atI_nat (natV_get h2), _, _, rfl, rfl, ?_⟩
      refine h0.put nD (fun _ _ e => e) ?_ (by rw [natV_len, addC_len hl]; omega)
      have : (addC xs ys)[i]? = some (xs[i]'hi + ys[i]'(by omega)) := by
        unfold addC
        rw [List.getElem?_zipWith, h1, h2]
      rw [natV_get this]
      rfl
    · refine ⟨D, _, rfl, .inl ⟨sqL_new e, fun l nl => ?_⟩⟩
      exact q _ l (s'.trans (same_new nl)) (s'.free nl) upd_same
end
end Kb
/-! d < e of alike data. -/
namespace Ka
open PySem PySem.Spec PyProof.Rows L2 PySem.W
section
variable {X : Cx}
def rLtD (K : PySem.W.Frag) : R2 := fun x y H Q => ∃ d e, Dp K H x d ∧ Dp K H y e ∧ alike d e = true ∧ d ≠ .none ∧ d.depth ≤ 32 ∧ Q (.bl (dataLt d e)) H
theorem op_ltD (hu : X.A.units + 64 < cLine) : OpR X (compareOp .Lt) (rLtD X.K) := by
  intro pins s σ H x y v u Q I rx ry h
  obtain ⟨d, e, hd, he, ha, hn, hz, q⟩ := h
  obtain ⟨as, r1⟩ := Dp.reads I d x v hd rx
  obtain ⟨bs, r2⟩ := Dp.reads I e y u he ry
  have := Nat.min_le_left d.depth e.depth
  exact rcLt_alike _ _ X.A s v u _ _ r1 r2 ha hn (by omega) X.prog X.w _ _ ⟨.bl _, H, I, rfl, q⟩
end
end Ka
namespace Kb
open PySem PySem.Spec PyProof.Rows L2
/-! ### the order of stages -/
abbrev ls (z : Str) : List Nat := z.cps.toList
theorem ls_cps (z : Str) : z.cps.toList = ls z := rfl
theorem ls_inj {x y : Str} (h : ls x = ls y) : x = y := PySem.W.str_of_cps h
theorem kl_iff (x y : Stg) : Ka.kLe (stK x) (stK y) = true ↔ ¬ (ls y.1 < ls x.1) ∧ (ls y.1 = ls x.1 → x.2 ≤ y.2) := by
  unfold Ka.kLe Ka.keysD
  show (!PySem.W.dataLt (.tuple [.str y.1, .int (y.2 : Int)]) (.tuple [.str x.1, .int (x.2 : Int)])) = true ↔ _
  rw [PySem.W.dataLt_pair (by simp [PySem.W.alike]) (by simp [PySem.W.alike]), PySem.W.dataLt_str, PySem.W.dataLt_int]
  simp only [PyData.eqv, ls_cps]
  by_cases h : y.1 = x.1
  · rw [h]
    simp
    omega
  · have h2 : ls y.1 ≠ ls x.1 := fun e => h (ls_inj e)
    simp [h, h2]
theorem kl_trans {x y z : Stg} (h1 : Ka.kLe (stK x) (stK y) = true) (h2 : Ka.kLe (stK y) (stK z) = true) : Ka.kLe (stK x) (stK z) = true := by
  rw [kl_iff] at h1 h2 ⊢
  have t1 : ls x.1 ≤ ls y.1 := h1.1
  have t2 : ls y.1 ≤ ls z.1 := h2.1
  refine ⟨List.le_trans t1 t2, fun e => ?_⟩
  rw [e] at t2
  have e2 := List.le_antisymm t1 t2
  have a1 := h1.2 e2.symm
  have a2 := h2.2 (by rw [e, e2])
  omega
theorem kl_total (x y : Stg) : (Ka.kLe (stK x) (stK y) || Ka.kLe (stK y) (stK x)) = true := by
  rw [Bool.or_eq_true, kl_iff, kl_iff]
  by_cases e : ls x.1 = ls y.1
  · have h := Nat.le_total x.2 y.2
    rw [e]
    rcases h with h | h
    · exact .inl ⟨List.lt_irrefl _, fun _ => h⟩
    · exact .inr ⟨List.lt_irrefl _, fun _ => h⟩
  · rcases List.le_total (ls x.1) (ls y.1) with h | h
    · exact .inl ⟨h, fun z => absurd z.symm e⟩
    · exact .inr ⟨h, fun z => absurd z e⟩
theorem kl_anti {x y : Stg} (h1 : Ka.kLe (stK x) (stK y) = true) (h2 : Ka.kLe (stK y) (stK x) = true) : x = y := by
  rw [kl_iff] at h1 h2
  have t1 : ls x.1 ≤ ls y.1 := h1.1
  have t2 : ls y.1 ≤ ls x.1 := h2.1
  have e := List.le_antisymm t1 t2
  have a1 := h1.2 e.symm
  have a2 := h2.2 e
  exact Prod.ext (ls_inj e) (by omega)

theorem srt_stK {l m : List Stg} (p : l.Perm m) : (l.map stK).mergeSort Ka.kLe = (m.map stK).mergeSort Ka.kLe := by
  have e : ∀ xs : List Stg, (xs.map stK).mergeSort Ka.kLe = (xs.mergeSort fun x y => Ka.kLe (stK x) (stK y)).map stK := fun xs =>
    (PySem.W.sort_maps (r := fun x y : Stg => Ka.kLe (stK x) (stK y)) (s := Ka.kLe) stK (l := xs) (fun x _ y _ => rfl)).symm
  rw [e, e]
  congr 1
  have s := fun l : List Stg => List.pairwise_mergeSort (le := fun x y : Stg => Ka.kLe (stK x) (stK y)) (fun a b c h1 h2 => kl_trans h1 h2) (fun a b => kl_total a b) l
  exact List.Perm.eq_of_pairwise (fun a b _ _ h1 h2 => kl_anti h1 h2) (s l) (s m) ((List.mergeSort_perm l _).trans (p.trans (List.mergeSort_perm m _).symm))
end Kb
namespace Kb
open PySem PySem.Spec PyProof.Rows L2
/-! ### counts_along -/
def unitC (ds : List Str) (s : Stp) : List Nat := ds.map fun d => (if s.call = true then ([] : List Str) else [s.nm]).count d
def zeroC (ds : List Str) : List Nat := ds.map fun d => ([] : List Str).count d
def CtAt (cs : List CA) (ds : List Str) (M : List WB) (cf : Stg → List Nat) (x : Stg) : Prop := ∀ t ∈ M, t.2.1 = x → (t.2.2 = none → cf x = zeroC ds) ∧ ∀ k c s, c ∈ cs → x.1 = c.nm → t.2.2 = some k → StepAt c x.2 k s → cf x = (partsS c.nm s.2).foldl (fun acc p => addC acc (cf p)) (unitC ds s.2)
theorem foldC_congr {f g : Stg → List Nat} : ∀ {ps : List Stg} (b : List Nat), (∀ p ∈ ps, f p = g p) → ps.foldl (fun acc p => addC acc (f p)) b = ps.foldl (fun acc p => addC acc (g p)) b
  | [], _, _ => rfl
  | p :: ps, b, h => by
    rw [List.foldl_cons, List.foldl_cons, h p List.mem_cons_self]
    exact foldC_congr _ fun q hq => h q (List.mem_cons_of_mem _ hq)
theorem foldC_len {f : Stg → List Nat} {n : Nat} : ∀ {ps : List Stg} (b : List Nat), b.length = n → (∀ p ∈ ps, (f p).length = n) → (ps.foldl (fun acc p => addC acc (f p)) b).length = n
  | [], _, h, _ => h
  | p :: ps, b, h, hp => by
    rw [List.foldl_cons]
    exact foldC_len _ (by rw [addC_len (by rw [h, hp p List.mem_cons_self]), h]) fun q hq => hp q (List.mem_cons_of_mem _ hq)
theorem parts_eq {cs : List CA} (ok : CsOk cs) {x : Stg} {W : Option Int} {ps : List Stg} (h : PartsOf cs x W ps) {k : Int} {c : CA} {s : Addr × Stp} (mc : c ∈ cs) (e1 : x.1 = c.nm) (e2 : W = some k) (hs : StepAt c x.2 k s) : ps = partsS c.nm s.2 :=
  partsOf_uniq ok h (.inr ⟨c, mc, e1, k, s, e2, hs, rfl⟩)
/-- the counts exist -/
theorem ct_ex {cs : List CA} (ok : CsOk cs) (ds : List Str) {M : List WB} (nd : (wbks M).Nodup) {L : List Stg} (hL : OrderP cs M L) : ∀ i, ∃ cf : Stg → List Nat, (∀ x ∈ L.take i, CtAt cs ds M cf x ∧ (cf x).length = ds.length) := by
  have ndL : L.Nodup := hL.1.nodup_iff.mpr nd
  intro i
  induction i with
  | zero => exact ⟨fun _ => [], fun x hx => nomatch hx⟩
  | succ i ih =>
    obtain ⟨cf, h⟩ := ih
    cases e : L[i]? with
    | none =>
      refine ⟨cf, fun x hx => h x ?_⟩
      rw [List.take_of_length_le (by have := List.getElem?_eq_none_iff.mp e; omega)] at hx
      rw [List.take_of_length_le (List.getElem?_eq_none_iff.mp e)]
      exact hx
    | some x =>
      have xn : x ∉ L.take i := fun z => by
        have nd2 := ndL
        rw [← List.take_append_drop i L, drop_of_get e, List.nodup_append] at nd2
        exact nd2.2.2 _ z _ List.mem_cons_self rfl
      obtain ⟨t, ht, et, ps, hps, hin⟩ := hL.2 i x e
      have ex : ∃ v : List Nat, v.length = ds.length ∧ (t.2.2 = none → v = zeroC ds) ∧ ∀ k c s, c ∈ cs → x.1 = c.nm → t.2.2 = some k → StepAt c x.2 k s → v = (partsS c.nm s.2).foldl (fun acc p => addC acc (cf p)) (unitC ds s.2) := by
        rcases hps with ⟨e1, _, _⟩ | ⟨c, mc, ec, k, s, e1, hs, e2⟩
        · refine ⟨zeroC ds, List.length_map _, fun _ => rfl, fun k c s _ _ z => ?_⟩
          rw [e1] at z
          cases z
        · refine ⟨_, foldC_len (f := cf) (unitC ds s.2) (List.length_map _) (ps := partsS c.nm s.2) fun p hp => (h p (hin p (by rw [e2]; exact hp))).2, fun z => ?_, fun k' c' s' mc' ec' ek' hs' => ?_⟩
          · rw [e1] at z
            cases z
          · have := same_course ok.nd mc' mc (ec'.symm.trans ec)
            subst this
            rw [e1] at ek'
            cases ek'
            obtain ⟨a1, b1, b2, _⟩ := hs
            obtain ⟨a2, b3, b4, _⟩ := hs'
            obtain rfl : a1 = a2 := by omega
            rw [b2] at b4
            cases b4
            rfl
      obtain ⟨v, v1, v2, v3⟩ := ex
      have old : ∀ y, y ∈ L.take i → (fun y => if y = x then v else cf y) y = cf y := fun y hy => if_neg (fun z => xn (by rw [← z]; exact hy))
      refine ⟨fun y => if y = x then v else cf y, fun y hy => ?_⟩
      rw [take_of_get e] at hy
      rcases List.mem_append.mp hy with z | z
      · obtain ⟨h1, h2⟩ := h y z
        obtain ⟨j, hj⟩ := List.getElem?_of_mem z
        have hji := lt_of_get hj
        rw [List.length_take] at hji
        rw [List.getElem?_take_of_lt (by omega)] at hj
        refine ⟨fun u hu eu => ?_, by rw [old y z]; exact h2⟩
        obtain ⟨a1, a2⟩ := h1 u hu eu
        refine ⟨fun z2 => by rw [old y z]; exact a1 z2, fun k c s mc ec ek hs => ?_⟩
        rw [old y z, a2 k c s mc ec ek hs]
        refine foldC_congr _ fun p hp => (old p ?_).symm
        obtain ⟨t2, ht2, et2, ps2, hps2, hin2⟩ := hL.2 j y hj
        have := inj_of_nd nd hu ht2 (eu.trans et2.symm)
        subst this
        have e9 := parts_eq ok hps2 mc ec ek hs
        rw [← e9] at hp
        have := hin2 p hp
        have t9 : L.take j = (L.take i).take j := by rw [List.take_take, Nat.min_eq_left (by omega)]
        rw [t9] at this
        exact List.mem_of_mem_take this
      · have z : y = x := List.mem_singleton.mp z
        subst z
        refine ⟨fun u hu eu => ?_, by show (if y = y then v else cf y).length = _; rw [if_pos rfl]; exact v1⟩
        have := inj_of_nd nd hu ht (eu.trans et.symm)
        subst this
        refine ⟨fun z2 => by show (if y = y then v else cf y) = _; rw [if_pos rfl]; exact v2 z2, fun k c s mc ec ek hs => ?_⟩
        show (if y = y then v else cf y) = _
        rw [if_pos rfl]
        refine (v3 k c s mc ec ek hs).trans ?_
        refine foldC_congr _ fun p hp => (old p ?_).symm
        have e9 := parts_eq ok hps mc ec ek hs
        rw [← e9] at hp
        exact hin p hp
abbrev CTT := Addr × Stg
def ctKV (CM : List CTT) : List (List L2.Key × V) := CM.map fun t => (stK t.2, V.ref t.1)
theorem ct_keys (CM : List CTT) : (ctKV CM).map (·.1) = (CM.map (·.2)).map stK := by
  unfold ctKV
  rw [List.map_map, List.map_map]
  rfl
theorem ct_put_new {CM : List CTT} {x : Stg} (h : x ∉ CM.map (·.2)) (r : Addr) : putK (ctKV CM) (stK x) (.ref r) = ctKV (CM ++ [(r, x)]) := by
  rw [putK_new]
  · unfold ctKV
    rw [List.map_append]
    rfl
  · rw [ct_keys]
    intro z
    obtain ⟨y, hy, e⟩ := List.mem_map.mp z
    rw [stK_inj e] at hy
    exact h hy
theorem ct_put_last {CM : List CTT} {x : Stg} (h : x ∉ CM.map (·.2)) (r r' : Addr) : putK (ctKV (CM ++ [(r, x)])) (stK x) (.ref r') = ctKV (CM ++ [(r', x)]) := by
  unfold putK ctKV
  rw [if_pos (List.any_eq_true.mpr ⟨(stK x, .ref r), List.mem_map.mpr ⟨(r, x), List.mem_append_right _ List.mem_cons_self, rfl⟩, decide_eq_true rfl⟩), List.map_map, List.map_append, List.map_append]
  congr 1
  · refine List.map_congr_left fun t ht => ?_
    show (if stK t.2 = stK x then _ else _) = _
    rw [if_neg (fun z => h (by rw [← stK_inj z]; exact List.mem_map.mpr ⟨t, ht, rfl⟩))]
  · show [(if stK x = stK x then _ else _)] = _
    rw [if_pos rfl]
    rfl
theorem ct_val {CM : List CTT} (nd : (CM.map (·.2)).Nodup) {t : CTT} (h : t ∈ CM) : valV (ctKV CM) (stK t.2) = some (.ref t.1) := valV_mem (by rw [ct_keys]; exact stK_nd nd) (List.mem_map.mpr ⟨t, h, rfl⟩)
theorem ctKV_perm {T : List CTT} {kvs : List (List L2.Key × V)} (h : kvs.Perm (ctKV T)) : ∃ T' : List CTT, T'.Perm T ∧ kvs = ctKV T' := perm_of_map h T rfl
section
variable {P : Program} {w : World} {K : PySem.W.Frag} {mg : Str → Option Value} {base : Heap}
def spAlong (K : PySem.W.Frag) (C : Addr) : Sp := fun vs H Q _ => ∃ (p a d : Addr) (cs : List CA) (M : List WB), vs = [.ref p, .ref d] ∧ BookAt K C H p a cs ∧ WaysB H d M ∧ (wbks M).Nodup ∧ (∀ x ∈ wbks M, x ∈ stagesS cs) ∧ SoundP cs M ∧
  ∀ H' q ds CM cf, Same H H' → H q = none → DsOf cs ds → H' q = some (.dT (ctKV CM)) → (∀ t ∈ CM, H' t.1 = some (.tup (natV (cf t.2)))) → (CM.map (·.2)).map stK = ((wbks M).map stK).mergeSort Ka.kLe → (∀ x ∈ wbks M, CtAt cs ds M cf x ∧ (cf x).length = ds.length) → Q (.ref q) H'
abbrev nCal : List Str := ["book", "chosen", "units", "empty", "found", "stage", "step", "part", "deed"]
theorem scCal : FnScope nCal ["book", "chosen"] (defScope sCountsAlong) := ⟨rfl, rfl, rfl, by decide +kernel, rfl, by decide +kernel, by decide +kernel⟩
theorem ok_along {f C fD fC fO fS fP fA fG : Addr} {fd fdD fdC fdO fdS fdP fdA fdG : FuncData} (F : Fun K "counts_along" "counts_along" sCountsAlong f fd) (N : Nones mg) (B : BkC K mg C) (GM_deeds : FnOk P w K mg base CX0 2 fD fdD ["self"] (spBkDeeds K C)) (bM_deeds : Binds K fdD ["self"] []) (m_deeds : Meth K C "deeds" fD)
    (G_deed_counts : FnOk P w K mg base CX0 3 fC fdC ["book", "row"] (spDeedCounts K C)) (C_deed_counts : CallC K mg "deed_counts" ["book", "row"] fC fdC) (G_sound_order : FnOk P w K mg base CX0 4 fO fdO ["book", "chosen"] (spSound K C)) (C_sound_order : CallC K mg "sound_order" ["book", "chosen"] fO fdO)
    (GM_steps : FnOk P w K mg base CX0 1 fS fdS ["self", "course"] (spBkSteps K C)) (bM_steps : Binds K fdS ["self", "course"] []) (m_steps : Meth K C "steps" fS) (G_parts_of : FnOk P w K mg base CX0 1 fP fdP ["course", "step"] spPartsOf) (C_parts_of : CallC K mg "parts_of" ["course", "step"] fP fdP)
    (G_added : FnOk P w K mg base CX0 1 fA fdA ["count", "other"] (spAdded K)) (C_added : CallC K mg "added" ["count", "other"] fA fdA) (G_ascending : FnOk P w K mg base CX0 1 fG fdG ["table"] spAsc) (C_ascending : CallC K mg "ascending" ["table"] fG fdG) : FnOk P w K mg base CX0 5 f fd ["book", "chosen"] (spAlong K C) := by
  refine F.ok scCal (fun vs H Q E h => ?_) (fun cdv A outer s H vs Q E hr h => ?_)
  · obtain ⟨p, a, d, cs, M, rfl, _⟩ := h
    rfl
  · obtain ⟨p, a, d, cs, M, rfl, hB, hM, nd, hst, hso, q⟩ := h
    refine ⟨_, pss_cons (Ka.ps_setDc (i := 2) (own := [("deed", 8)]) (g := gName 8) (tt := tYes) rfl scCal.nd rfl rfl (Ka.sw_dc rfl rfl rfl rfl) (pi_tup (pe_meth0 (pv 0) B.cl m_deeds GM_deeds (hr.mono (by decide)) bM_deeds .nil pass0)) (blkOk_by (own := [("deed", 8)]) (N := nCal) (sc := defScope sCountsAlong) (by decide +kernel)) (fun _ _ _ _ _ => (pg_name (i := 8) scCal.nd rfl (Or.inl rfl))) (fun _ _ _ _ _ => pts_nil) (fun _ _ _ _ _ => (pv 8)) (fun _ _ _ _ _ => (pe_call G_deed_counts (hr.mono (by decide)) (by rfl) C_deed_counts.g C_deed_counts.kp C_deed_counts.b .nil pass0 (pa_cons (pv 0) (pa_cons (Ka.pe_tupF (pa_cons (pv 8) pa_nil)) pa_nil)))))
      (pss_cons (ps_set (i := 3) scCal.nd rfl (Or.inl rfl) (pe_call G_deed_counts (hr.mono (by decide)) (by rfl) C_deed_counts.g C_deed_counts.kp C_deed_counts.b .nil pass0 (pa_cons (pv 0) (pa_cons (Ka.pe_tupF pa_nil) pa_nil))))
      (pss_cons (ps_set (i := 4) scCal.nd rfl (Or.inl rfl) pe_dnewT)
      (pss_cons (ps_for PassesOwn.never rfl (pi_list (pe_call G_sound_order (hr.mono (by decide)) (by rfl) C_sound_order.g C_sound_order.kp C_sound_order.b .nil pass0 (pa_cons (pv 0) (pa_cons (pv 1) pa_nil)))) (pg_name (i := 5) scCal.nd rfl (Or.inl rfl))
        (pss_cons (ps_dput (hu_of hr) (pv 4) (pv 5) (pv 3) rfl)
        (pss_one (ps_if (pt_cmpR (op_neD hr.units) (pe_dget (hu_of hr) (pv 1) (pv 5) (fun _ _ => rfl)) (pe_tup (pa_cons pe_str pa_nil)) (nomark _)) (pss_cons (ps_set (i := 6) scCal.nd rfl (Or.inl rfl) (pe_ix ix_tup (pe_meth (pv 0) B.cl m_steps GM_steps (hr.mono (by decide)) bM_steps .nil pass0 (pa_cons (pe_ix ix_tup (pv 5) pe_int (fun _ _ => rfl)) pa_nil)) (pe_ix ix_tup (pe_dget (hu_of hr) (pv 1) (pv 5) (fun _ _ => rfl)) pe_int (fun _ _ => rfl)) (fun _ _ => rfl)))
          (pss_cons (ps_if (pt_cmpR op_eq (pe_ix ix_tup (pv 6) pe_int (fun _ _ => rfl)) pe_str (nomark _)) (pss_one (ps_dput (hu_of hr) (pv 4) (pv 5) (pe_dget (hu_of hr) (pv 2) (pe_ix ix_tup (pv 6) pe_int (fun _ _ => rfl)) (fun _ _ => rfl)) rfl)) pss_nil)
          (pss_one (ps_for PassesOwn.never rfl (pi_tup (pe_call G_parts_of (hr.mono (by decide)) (by rfl) C_parts_of.g C_parts_of.kp C_parts_of.b .nil pass0 (pa_cons (pe_ix ix_tup (pv 5) pe_int (fun _ _ => rfl)) (pa_cons (pv 6) pa_nil)))) (pg_name (i := 7) scCal.nd rfl (Or.inl rfl))
            (pss_one (ps_dput (hu_of hr) (pv 4) (pv 5) (pe_call G_added (hr.mono (by decide)) (by rfl) C_added.g C_added.kp C_added.b .nil pass0 (pa_cons (pe_dget (hu_of hr) (pv 4) (pv 5) (fun _ _ => rfl)) (pa_cons (pe_dget (hu_of hr) (pv 4) (pv 7) (fun _ _ => rfl)) pa_nil))) rfl)))))) pss_nil))))
      (pss_one (ps_ret (pe_call G_ascending (hr.mono (by decide)) (by rfl) C_ascending.g C_ascending.kp C_ascending.b .nil pass0 (pa_cons (pv 4) pa_nil))))))), ?_⟩
    obtain ⟨dx, fs, P1, S1, E1, L1, S, hp, Lf, hC, ok, _⟩ := id hB
    have d12 := ok.d12
    have st60 := ok.st
    refine ⟨_, rfl, p, dx, fs, rfl, hp, Lf.no _ (by decide +kernel), p, a, cs, rfl, hB, fun H1 q1 ds s1 n1 e1 hperm hso1 => ?_⟩
    have hds : DsOf cs ds := ⟨hperm, hso1⟩
    have dl : ds.length ≤ 12 := by rw [hperm.length_eq]; exact d12
    have dn : ds.Nodup := hperm.nodup_iff.mpr (uniq_nd _)
    refine ⟨q1, rfl, ⟨_, sqT_new e1⟩, fun D nD => ?_⟩
    refine dcK_it (walk_tup (K := K) (a := q1) (xs := ds.map V.str)) (fun i G => ∃ U : List SA, Same H1 G ∧ G D = some (.dK (saKV U)) ∧ U.map (·.1) = ds.take i ∧ ∀ t ∈ U, G t.2 = some (.tup (natV (ds.map fun d => [t.1].count d)))) ⟨[], same_new nD, upd_same, rfl, fun t ht => nomatch ht⟩ (fun _ _ _ h => sqT_new (h.choose_spec.1 _ _ e1)) (fun i x G G' hi h y => ?_) (fun G h => ?_)
    · obtain ⟨rfl, hy⟩ := y
      obtain ⟨de, hd, rfl⟩ := get_map hy
      obtain ⟨U, sG, eG, kU, tU⟩ := h
      have lU : U.length ≤ 12 := by
        have := congrArg List.length kU
        rw [List.length_map, List.length_take] at this
        omega
      refine ⟨rfl, .str de, rfl, _, rfl, .str de, rfl, smallE (by show 1 ≤ 1000000; decide), fun r ob hob nr => ?_⟩
      have sr := same_new (o := .frz ob (.tup [V.str de])) nr
      have er : upd G' r (.frz ob (.tup [V.str de])) r = some (.frz ob (.tup [V.str de])) := upd_same
      have eD := sr _ _ eG
      generalize upd G' r (.frz ob (.tup [V.str de])) = G2 at sr er eD
      have sHG := (s1.trans sG).trans sr
      refine ⟨p, a, r, cs, [de], rfl, hB.mono sHG, .inl ⟨ob, er, hob⟩, fun G3 r2 ds2 s3 nr2 hds2 e2 => ?_⟩
      have := ds_uniq hds2 hds
      subst this
      have eD3 := s3 _ _ eD
      refine ⟨saKV U, Sum.inr de, rfl, eD3, by rw [saKV_len]; exact small (by omega), U ++ [(de, r2)], fun c o e => ?_, ?_, ?_, fun t ht => ?_⟩
      · rw [upd_ne (ne_of_none e nD)]
        exact s3 _ _ (sr _ _ (sG _ _ e))
      · rw [upd_same, putK_new]
        · unfold saKV
          rw [List.map_append]
          rfl
        · rw [saKV_keys, kU]
          intro z
          have z := inr_mem z
          rw [← List.take_append_drop i ds2, drop_of_get hd, List.nodup_append] at dn
          exact dn.2.2 _ z _ List.mem_cons_self rfl
      · rw [List.map_append, kU, take_of_get hd]
        rfl
      · have nDt : ∀ {c : Addr} {xs : List V}, G3 c = some (.tup xs) → c ≠ D := fun e w => by
          rw [w, eD3] at e
          cases e
        rcases List.mem_append.mp ht with z | z
        · have a1 := s3 _ _ (sr _ _ (tU t z))
          rw [upd_ne (nDt a1)]
          exact a1
        · rw [List.mem_singleton.mp z, upd_ne (nDt e2)]
          exact e2
    · obtain ⟨U, sG, eG, kU, tU⟩ := h
      rw [List.length_map, List.take_of_length_le (Nat.le_refl _)] at kU
      have sHG := s1.trans sG
      refine ⟨_, rfl, smallE (by show 0 ≤ 1000000; decide), fun r ob hob nr => ?_⟩
      have sr := same_new (o := .frz ob (.tup [])) nr
      have er : upd G r (.frz ob (.tup [])) r = some (.frz ob (.tup [])) := upd_same
      generalize upd G r (.frz ob (.tup [])) = G2 at sr er
      have sH2 := sHG.trans sr
      refine ⟨p, a, r, cs, [], rfl, hB.mono sH2, .inl ⟨ob, er, hob⟩, fun G3 em ds2 s3 nem hds2 eem => ?_⟩
      have := ds_uniq hds2 hds
      subst this
      have sH3 := sH2.trans s3
      intro fo nfo
      have sfo := same_new (o := .dT []) nfo
      have efo : upd G3 fo (.dT []) fo = some (.dT []) := upd_same
      have nfoH := sH3.free nfo
      have efoem : fo ≠ em := fun z => by
        rw [z, eem] at nfo
        cases nfo
      generalize upd G3 fo (.dT []) = G4 at sfo efo
      have sH4 := sH3.trans sfo
      refine ⟨_, rfl, _, rfl, p, a, d, cs, M, rfl, hB.mono sH4, hM.mono sH4, nd, hst, fun G5 lo L s5 nlo hlo hord => ?_, fun _ _ h => absurd hso h⟩
      obtain ⟨TL, l1, l2, l3⟩ := hlo
      obtain ⟨cf, hcf0⟩ := ct_ex ok ds2 nd hord L.length
      rw [List.take_length] at hcf0
      have ndL : L.Nodup := hord.1.nodup_iff.mpr nd
      have lL : L.length ≤ 60 := by
        have h1 := hord.1.length_eq
        have h2 := nd_le nd hst
        have h3 := stagesS_len cs
        omega
      have sH5 := sH4.trans s5
      have eU5 : G5 D = some (.dK (saKV U)) := s5 _ _ (sfo _ _ (s3 _ _ (sr _ _ eG)))
      have tU5 : ∀ t ∈ U, G5 t.2 = some (.tup (natV (ds2.map fun d => [t.1].count d))) := fun t ht => s5 _ _ (sfo _ _ (s3 _ _ (sr _ _ (tU t ht))))
      have eem5 : G5 em = some (.tup (natV (zeroC ds2))) := s5 _ _ (sfo _ _ eem)
      have efo5 := s5 _ _ efo
      have ent : ∀ {c : Addr} {xs : List V}, G5 c = some (.tup xs) → c ≠ fo := fun e z => by
        rw [z, efo5] at e
        cases e
      refine ⟨lo, rfl, ⟨_, sqL_new l1⟩, ?_⟩
      refine for_it (walk_list (K := K) (a := lo) (xs := TL.map fun t => V.ref t.1)) (fun i σ Z => ∃ (x5 x6 x7 : Option V) (CM : List CTT), σ = [some (.ref p), some (.ref d), some (.ref D), some (.ref em), some (.ref fo), x5, x6, x7, none] ∧ But fo G5 Z ∧ Z fo = some (.dT (ctKV CM)) ∧ CM.map (·.2) = L.take i ∧ ∀ t ∈ CM, Z t.1 = some (.tup (natV (cf t.2)))) ⟨none, none, none, [], rfl, But.refl, efo5, rfl, fun t ht => nomatch ht⟩ (fun _ _ _ _ ⟨_, _, _, _, _, k, _⟩ => sqL_new (k _ _ (fun z => by rw [z, efo5] at l1; cases l1) l1)) (fun i x σ Z Z' hi h y => ?_) (fun σ Z h => ?_)
      · obtain ⟨rfl, hy⟩ := y
        obtain ⟨t, ht, rfl⟩ := get_map hy
        obtain ⟨x5, x6, x7, CM, rfl, kZ, eZ, kCM, tCM⟩ := h
        have hx : L[i]? = some t.2 := by rw [← l2, List.getElem?_map, ht]; rfl
        generalize ex : t.2 = x at hx
        have xn : x ∉ L.take i := fun z => by
          have nd2 := ndL
          rw [← List.take_append_drop i L, drop_of_get hx, List.nodup_append] at nd2
          exact nd2.2.2 _ z _ List.mem_cons_self rfl
        obtain ⟨u, hu, eu, ps, hps, hin⟩ := hord.2 i x hx
        have mxM : x ∈ wbks M := List.mem_map.mpr ⟨u, hu, eu⟩
        obtain ⟨c, mc, n1, n2⟩ := mem_stagesS.mp (hst x mxM)
        obtain ⟨hca, hcl⟩ := hcf0 x (List.mem_of_getElem? hx)
        obtain ⟨hc1, hc2⟩ := hca u hu eu
        have lCM : CM.length ≤ 60 := by
          have := congrArg List.length kCM
          rw [List.length_map, List.length_take] at this
          omega
        have tX5 : G5 t.1 = some (.tup (stV x)) := by rw [← ex]; exact l3 t (List.mem_of_getElem? ht)
        have tX : Z' t.1 = some (.tup (stV x)) := kZ _ _ (ent tX5) tX5
        refine ⟨_, rfl, _, rfl, _, rfl, fo, _, rfl, DPut.t eZ (k := stK x) tX ?_, ?_⟩
        · unfold ctKV
          rw [List.length_map]
          exact small (by omega)
        rw [ct_put_new (by rw [kCM]; exact xn)]
        have k1 : But fo G5 (upd Z' fo (.dT (ctKV (CM ++ [(em, x)])))) := fun cc o hc e => by rw [upd_ne hc]; exact kZ _ _ hc e
        have e1 : upd Z' fo (.dT (ctKV (CM ++ [(em, x)]))) fo = some (.dT (ctKV (CM ++ [(em, x)]))) := upd_same
        have tC1 : ∀ t ∈ CM, upd Z' fo (.dT (ctKV (CM ++ [(em, x)]))) t.1 = some (.tup (natV (cf t.2))) := fun t ht => by
          have := tCM t ht
          rw [upd_ne (fun z => by rw [z, eZ] at this; cases this)]
          exact this
        generalize upd Z' fo (.dT (ctKV (CM ++ [(em, x)]))) = Z1 at k1 e1 tC1
        have sH1 : Same H Z1 := fun b o e => k1 _ _ (ne_of_none e nfoH) (sH5 _ _ e)
        have tX1 := k1 _ _ (ent tX5) tX5
        have hM1 := hM.mono sH1
        have hv : valV (wbKV M) (stK x) = some (.ref u.1) := by
          rw [← eu]
          exact valV_mem (by rw [wb_keys]; exact stK_nd nd) (List.mem_map.mpr ⟨u, hu, rfl⟩)
        have g : ∀ {Y : Hp}, Same Z1 Y → DGet Y d (.ref t.1) (some (.ref u.1)) := fun s => hv ▸ DGet.t (s _ _ hM1.1) (k := stK x) (s _ _ tX1)
        refine ⟨_, rfl, _, rfl, d, _, rfl, g (fun _ _ e => e), smallE (by show 1 ≤ 1000000; decide), fun e9 n9 => ?_⟩
        have s9 := same_new (o := .tup [V.str "end"]) n9
        have x9 : upd Z1 e9 (.tup [V.str "end"]) e9 = some (.tup [V.str "end"]) := upd_same
        generalize upd Z1 e9 (.tup [V.str "end"]) = Z2 at s9 x9
        have k2 : But fo G5 Z2 := fun cc o hc e => s9 _ _ (k1 _ _ hc e)
        have way2 := s9 _ _ (hM1.2 u hu)
        have e2 := s9 _ _ e1
        have sH2' : Same H Z2 := fun b o e => s9 _ _ (sH1 _ _ e)
        have tX2 := s9 _ _ tX1
        have tC2 : ∀ t ∈ CM, Z2 t.1 = some (.tup (natV (cf t.2))) := fun t ht => s9 _ _ (tC1 t ht)
        have em2 : Z2 em = some (.tup (natV (zeroC ds2))) := k2 _ _ (ent eem5) eem5
        refine ⟨_, _, way_dp way2, way_dp (W := none) x9, way_shaped _, way_shaped _, ?_⟩
        rcases hps with ⟨eW, he, eps⟩ | ⟨c', mc', ec', k, s0, eW, hs0, hps9⟩
        · refine ⟨_, rfl, iteNo (by rw [eW]; decide +kernel) ?_⟩
          refine ⟨_, _, _, CM ++ [(em, x)], rfl, k2, e2, by rw [List.map_append, kCM, take_of_get hx]; rfl, fun u9 hu9 => ?_⟩
          rcases List.mem_append.mp hu9 with z | z
          · exact tC2 u9 z
          · rw [List.mem_singleton.mp z]
            show Z2 em = some (.tup (natV (cf x)))
            rw [hc1 eW]
            exact em2
        · have := same_course ok.nd mc' mc (ec'.symm.trans n1)
          subst this
          have hcfx := hc2 k c' s0 mc ec' eW hs0
          refine ⟨_, rfl, iteYes (by rw [eW]; rfl) ?_⟩
          obtain ⟨kn, ek, hs, en⟩ := id hs0
          have hC2 := hC.mono sH2'
          have cc := hC2.2 c' mc
          have sv : (c'.ss.map fun p => V.ref p.1)[kn]? = some (.ref s0.1) := by rw [List.getElem?_map, hs]; rfl
          have ts := cc.p s0 (List.mem_of_getElem? hs)
          have exx : x = (c'.nm, x.2) := Prod.ext n1 rfl
          have tX3 : Z2 t.1 = some (.tup (stV (c'.nm, x.2))) := by rw [tX2, ← exx]
          have wayk : Z2 u.1 = some (.tup [.str "step", .int (kn : Int)]) := by
            rw [way2, eW, ek]
            rfl
          refine ⟨_, rfl, p, dx, fs, rfl, sH2' _ _ hp, Lf.no _ (by decide +kernel), _, rfl, t.1, _, _, .str c'.nm, rfl, rfl, sqT_new tX3, rfl, p, a, cs, c', rfl, hB.mono sH2', mc, _, rfl, _, rfl, d, _, rfl, g s9, u.1, _, _, .int (kn : Int), rfl, rfl, sqT_new wayk, rfl, c'.sa, _, _, .ref s0.1, rfl, rfl, cc.s, atI_nat sv, ?_⟩
          refine ⟨_, rfl, s0.1, _, _, .str (kindS s0.2.call), rfl, rfl, sqT_new ts, rfl, rfl, ?_⟩
          rw [kind_do]
          cases hcall : s0.2.call with
          | false =>
            refine ⟨_, rfl, iteYes rfl ?_⟩
            have mds : s0.2.nm ∈ ds2 := hperm.mem_iff.mpr ((mem_uniq _ _).mpr (dns_mem mc (List.mem_map.mpr ⟨s0, List.mem_filter.mpr ⟨List.mem_of_getElem? hs, by rw [hcall]; rfl⟩, rfl⟩)))
            obtain ⟨tu, htu, etu⟩ := List.mem_map.mp (by rw [kU]; exact mds : s0.2.nm ∈ U.map (·.1))
            have fD : fo ≠ D := fun z => by
              rw [← z, efo5] at eU5
              cases eU5
            have eU2 := k2 _ _ fD.symm eU5
            have vU : valV (saKV U) (Sum.inr s0.2.nm : L2.Key) = some (.ref tu.2) := by
              rw [← etu]
              exact sa_get (by rw [kU]; exact dn) htu
            have gU : DGet Z2 D (.str s0.2.nm) (some (.ref tu.2)) := vU ▸ DGet.k (k := Sum.inr s0.2.nm) eU2
            refine ⟨_, rfl, _, rfl, s0.1, _, _, .str s0.2.nm, rfl, rfl, sqT_new ts, rfl, D, _, rfl, gU, _, rfl, _, rfl, fo, _, rfl, DPut.t e2 (k := stK x) tX2 ?_, ?_⟩
            · unfold ctKV
              rw [List.length_map, List.length_append, List.length_singleton]
              exact small (by omega)
            rw [ct_put_last (by rw [kCM]; exact xn)]
            have ecur : upd Z2 fo (.dT (ctKV (CM ++ [(tu.2, x)]))) tu.2 = some (.tup (natV (unitC ds2 s0.2))) := by
              have h1 := tU5 tu htu
              rw [upd_ne (ent h1), k2 _ _ (ent h1) h1, etu]
              unfold unitC
              rw [hcall]
              rfl
            have kZx : But fo G5 (upd Z2 fo (.dT (ctKV (CM ++ [(tu.2, x)])))) := fun cc o hc e => by rw [upd_ne hc]; exact k2 _ _ hc e
            have efox : upd Z2 fo (.dT (ctKV (CM ++ [(tu.2, x)]))) fo = some (.dT (ctKV (CM ++ [(tu.2, x)]))) := upd_same
            have tfo2 : ∀ {cc : Addr} {xs : List V}, Z2 cc = some (.tup xs) → upd Z2 fo (.dT (ctKV (CM ++ [(tu.2, x)]))) cc = some (.tup xs) := fun {cc xs} e => by
              rw [upd_ne (fun z => by rw [z, e2] at e; cases e)]
              exact e
            have tCx : ∀ t ∈ CM, upd Z2 fo (.dT (ctKV (CM ++ [(tu.2, x)]))) t.1 = some (.tup (natV (cf t.2))) := fun t ht => tfo2 (tC2 t ht)
            have tXx := tfo2 tX3
            have tXs := tfo2 tX2
            have tsx := tfo2 ts
            generalize tu.2 = cur at *
            generalize upd Z2 fo (.dT (ctKV (CM ++ [(cur, x)]))) = Zx at kZx efox tCx tXx tXs tsx ecur
            refine ⟨_, rfl, t.1, _, _, .str c'.nm, rfl, rfl, sqT_new tXx, rfl, _, rfl, s0.1, c'.nm, s0.2, rfl, tsx, fun Zp rp sp nrp pts => ?_⟩
            obtain ⟨PL, p1, p2, p3⟩ := pts
            have lPL : PL.length ≤ 2 := by
              have := partsS_len c'.nm s0.2
              rwa [← p2, List.length_map] at this
            have efop := sp _ _ efox
            have tfo : ∀ {c : Addr} {xs : List V}, Zp c = some (.tup xs) → c ≠ fo := fun e z => by
              rw [z, efop] at e
              cases e
            refine ⟨rp, rfl, ⟨_, sqT_new p1⟩, ?_⟩
            refine for_it (walk_tup (K := K) (a := rp) (xs := PL.map fun t => V.ref t.1)) (fun j σ Y => ∃ (x7 : Option V) (cur : Addr), σ = [some (.ref p), some (.ref d), some (.ref D), some (.ref em), some (.ref fo), some (.ref t.1), some (.ref s0.1), x7, none] ∧ But fo Zp Y ∧ Y fo = some (.dT (ctKV (CM ++ [(cur, x)]))) ∧ Y cur = some (.tup (natV (((partsS c'.nm s0.2).take j).foldl (fun acc p => addC acc (cf p)) (unitC ds2 s0.2))))) ⟨_, cur, rfl, But.refl, efop, sp _ _ ecur⟩ (fun _ _ _ _ ⟨_, _, _, k, _⟩ => sqT_new (k _ _ (tfo p1) p1)) (fun j v σ Y Y' hj h y => ?_) (fun σ Y h => ?_)
            · obtain ⟨rfl, hy⟩ := y
              obtain ⟨pt, hpt, rfl⟩ := get_map hy
              obtain ⟨y7, cu, rfl, kY, eY, ecu⟩ := h
              have hpp : (partsS c'.nm s0.2)[j]? = some pt.2 := by rw [← p2, List.getElem?_map, hpt]; rfl
              have mpp := List.mem_of_getElem? hpp
              have inL : pt.2 ∈ L.take i := hin pt.2 (by rw [hps9]; exact mpp)
              obtain ⟨w0, hw0, ew0⟩ := List.mem_map.mp (by rw [kCM]; exact inL : pt.2 ∈ CM.map (·.2))
              have ndC1 : ((CM ++ [(cu, x)]).map (·.2)).Nodup := by
                rw [List.map_append, kCM]
                refine List.nodup_append.mpr ⟨ndL.sublist (List.take_sublist _ _), List.pairwise_singleton _ _, fun a ha b hb e => ?_⟩
                rw [List.mem_singleton.mp hb] at e
                rw [e] at ha
                exact xn ha
              have tYt : Y' t.1 = some (.tup (stV x)) := kY _ _ (tfo (sp _ _ tXs)) (sp _ _ tXs)
              have tYp : Y' pt.1 = some (.tup (stV pt.2)) := kY _ _ (tfo (p3 pt (List.mem_of_getElem? hpt))) (p3 pt (List.mem_of_getElem? hpt))
              have v1 : valV (ctKV (CM ++ [(cu, x)])) (stK x) = some (.ref cu) := ct_val ndC1 (t := (cu, x)) (List.mem_append_right _ List.mem_cons_self)
              have v2 : valV (ctKV (CM ++ [(cu, x)])) (stK pt.2) = some (.ref w0.1) := by
                rw [← ew0]
                exact ct_val ndC1 (List.mem_append_left _ hw0)
              have tw0 : Y' w0.1 = some (.tup (natV (cf pt.2))) := by
                have := sp _ _ (tCx w0 hw0)
                rw [ew0] at this
                exact kY _ _ (tfo this) this
              have g1 : DGet Y' fo (.ref t.1) (some (.ref cu)) := v1 ▸ DGet.t eY (k := stK x) tYt
              have g2 : DGet Y' fo (.ref pt.1) (some (.ref w0.1)) := v2 ▸ DGet.t eY (k := stK pt.2) tYp
              have la : (((partsS c'.nm s0.2).take j).foldl (fun acc p => addC acc (cf p)) (unitC ds2 s0.2)).length = ds2.length := foldC_len _ (List.length_map _) fun q hq => (hcf0 q (List.mem_of_mem_take (hin q (by rw [hps9]; exact List.mem_of_mem_take hq)))).2
              have lb := (hcf0 pt.2 (List.mem_of_mem_take inL)).2
              refine ⟨_, rfl, _, rfl, fo, _, rfl, g1, _, rfl, _, rfl, fo, _, rfl, g2, cu, w0.1, _, cf pt.2, rfl, sqT_new ecu, sqT_new tw0, by rw [la, lb], by rw [la]; omega, fun Y2 r2 s2 nr2 er2 => ?_⟩
              have eY2 := s2 _ _ eY
              refine ⟨_, rfl, _, rfl, fo, _, rfl, DPut.t eY2 (k := stK x) (s2 _ _ tYt) ?_, ?_⟩
              · unfold ctKV
                rw [List.length_map, List.length_append, List.length_singleton]
                exact small (by omega)
              · refine ⟨_, r2, rfl, fun cc o hc e => by rw [upd_ne hc]; exact s2 _ _ (kY _ _ hc e), ?_, ?_⟩
                · rw [upd_same, ct_put_last (by rw [kCM]; exact xn)]
                · rw [upd_ne (fun z => by rw [z, eY] at nr2; cases nr2), er2, take_of_get hpp, List.foldl_append]
                  rfl
            · obtain ⟨y7, cu, rfl, kY, eY, ecu⟩ := h
              rw [List.length_map, ← List.length_map (·.2), p2, List.take_length, ← hcfx] at ecu
              refine ⟨_, _, _, CM ++ [(cu, x)], rfl, fun cc o hc e => kY _ _ hc (sp _ _ (kZx _ _ hc e)), eY, by rw [List.map_append, kCM, take_of_get hx]; rfl, fun u9 hu9 => ?_⟩
              rcases List.mem_append.mp hu9 with z | z
              · have := sp _ _ (tCx u9 z)
                exact kY _ _ (tfo this) this
              · rw [List.mem_singleton.mp z]
                exact ecu
          | true =>
            refine ⟨_, rfl, iteNo rfl ?_⟩
            have kZx := k2
            have efox := e2
            have tCx := tC2
            have tXx := tX3
            have tXs := tX2
            have tsx := ts
            have ecur : Z2 em = some (.tup (natV (unitC ds2 s0.2))) := by
              rw [em2]
              unfold unitC zeroC
              rw [hcall]
              rfl
            obtain ⟨cur, hcur⟩ : ∃ cur, cur = em := ⟨em, rfl⟩
            rw [← hcur] at efox ecur
            refine ⟨_, rfl, t.1, _, _, .str c'.nm, rfl, rfl, sqT_new tXx, rfl, _, rfl, s0.1, c'.nm, s0.2, rfl, tsx, fun Zp rp sp nrp pts => ?_⟩
            obtain ⟨PL, p1, p2, p3⟩ := pts
            have lPL : PL.length ≤ 2 := by
              have := partsS_len c'.nm s0.2
              rwa [← p2, List.length_map] at this
            have efop := sp _ _ efox
            have tfo : ∀ {c : Addr} {xs : List V}, Zp c = some (.tup xs) → c ≠ fo := fun e z => by
              rw [z, efop] at e
              cases e
            refine ⟨rp, rfl, ⟨_, sqT_new p1⟩, ?_⟩
            refine for_it (walk_tup (K := K) (a := rp) (xs := PL.map fun t => V.ref t.1)) (fun j σ Y => ∃ (x7 : Option V) (cur : Addr), σ = [some (.ref p), some (.ref d), some (.ref D), some (.ref em), some (.ref fo), some (.ref t.1), some (.ref s0.1), x7, none] ∧ But fo Zp Y ∧ Y fo = some (.dT (ctKV (CM ++ [(cur, x)]))) ∧ Y cur = some (.tup (natV (((partsS c'.nm s0.2).take j).foldl (fun acc p => addC acc (cf p)) (unitC ds2 s0.2))))) ⟨_, cur, rfl, But.refl, efop, sp _ _ ecur⟩ (fun _ _ _ _ ⟨_, _, _, k, _⟩ => sqT_new (k _ _ (tfo p1) p1)) (fun j v σ Y Y' hj h y => ?_) (fun σ Y h => ?_)
            · obtain ⟨rfl, hy⟩ := y
              obtain ⟨pt, hpt, rfl⟩ := get_map hy
              obtain ⟨y7, cu, rfl, kY, eY, ecu⟩ := h
              have hpp : (partsS c'.nm s0.2)[j]? = some pt.2 := by rw [← p2, List.getElem?_map, hpt]; rfl
              have mpp := List.mem_of_getElem? hpp
              have inL : pt.2 ∈ L.take i := hin pt.2 (by rw [hps9]; exact mpp)
              obtain ⟨w0, hw0, ew0⟩ := List.mem_map.mp (by rw [kCM]; exact inL : pt.2 ∈ CM.map (·.2))
              have ndC1 : ((CM ++ [(cu, x)]).map (·.2)).Nodup := by
                rw [List.map_append, kCM]
                refine List.nodup_append.mpr ⟨ndL.sublist (List.take_sublist _ _), List.pairwise_singleton _ _, fun a ha b hb e => ?_⟩
                rw [List.mem_singleton.mp hb] at e
                rw [e] at ha
                exact xn ha
              have tYt : Y' t.1 = some (.tup (stV x)) := kY _ _ (tfo (sp _ _ tXs)) (sp _ _ tXs)
              have tYp : Y' pt.1 = some (.tup (stV pt.2)) := kY _ _ (tfo (p3 pt (List.mem_of_getElem? hpt))) (p3 pt (List.mem_of_getElem? hpt))
              have v1 : valV (ctKV (CM ++ [(cu, x)])) (stK x) = some (.ref cu) := ct_val ndC1 (t := (cu, x)) (List.mem_append_right _ List.mem_cons_self)
              have v2 : valV (ctKV (CM ++ [(cu, x)])) (stK pt.2) = some (.ref w0.1) := by
                rw [← ew0]
                exact ct_val ndC1 (List.mem_append_left _ hw0)
              have tw0 : Y' w0.1 = some (.tup (natV (cf pt.2))) := by
                have := sp _ _ (tCx w0 hw0)
                rw [ew0] at this
                exact kY _ _ (tfo this) this
              have g1 : DGet Y' fo (.ref t.1) (some (.ref cu)) := v1 ▸ DGet.t eY (k := stK x) tYt
              have g2 : DGet Y' fo (.ref pt.1) (some (.ref w0.1)) := v2 ▸ DGet.t eY (k := stK pt.2) tYp
              have la : (((partsS c'.nm s0.2).take j).foldl (fun acc p => addC acc (cf p)) (unitC ds2 s0.2)).length = ds2.length := foldC_len _ (List.length_map _) fun q hq => (hcf0 q (List.mem_of_mem_take (hin q (by rw [hps9]; exact List.mem_of_mem_take hq)))).2
              have lb := (hcf0 pt.2 (List.mem_of_mem_take inL)).2
              refine ⟨_, rfl, _, rfl, fo, _, rfl, g1, _, rfl, _, rfl, fo, _, rfl, g2, cu, w0.1, _, cf pt.2, rfl, sqT_new ecu, sqT_new tw0, by rw [la, lb], by rw [la]; omega, fun Y2 r2 s2 nr2 er2 => ?_⟩
              have eY2 := s2 _ _ eY
              refine ⟨_, rfl, _, rfl, fo, _, rfl, DPut.t eY2 (k := stK x) (s2 _ _ tYt) ?_, ?_⟩
              · unfold ctKV
                rw [List.length_map, List.length_append, List.length_singleton]
                exact small (by omega)
              · refine ⟨_, r2, rfl, fun cc o hc e => by rw [upd_ne hc]; exact s2 _ _ (kY _ _ hc e), ?_, ?_⟩
                · rw [upd_same, ct_put_last (by rw [kCM]; exact xn)]
                · rw [upd_ne (fun z => by rw [z, eY] at nr2; cases nr2), er2, take_of_get hpp, List.foldl_append]
                  rfl
            · obtain ⟨y7, cu, rfl, kY, eY, ecu⟩ := h
              rw [List.length_map, ← List.length_map (·.2), p2, List.take_length, ← hcfx] at ecu
              refine ⟨_, _, _, CM ++ [(cu, x)], rfl, fun cc o hc e => kY _ _ hc (sp _ _ (kZx _ _ hc e)), eY, by rw [List.map_append, kCM, take_of_get hx]; rfl, fun u9 hu9 => ?_⟩
              rcases List.mem_append.mp hu9 with z | z
              · have := sp _ _ (tCx u9 z)
                exact kY _ _ (tfo this) this
              · rw [List.mem_singleton.mp z]
                exact ecu
      · obtain ⟨x5, x6, x7, CM, rfl, kZ, eZ, kCM, tCM⟩ := h
        have lTL : TL.length = L.length := by rw [← l2, List.length_map]
        rw [List.length_map, lTL, List.take_length] at kCM
        have ndC : ((ctKV CM).map (·.1)).Nodup := by
          rw [ct_keys, kCM]
          exact stK_nd ndL
        have sHZ : Same H Z := fun b o e => kZ _ _ (ne_of_none e nfoH) (sH5 _ _ e)
        refine ⟨_, rfl, fo, ctKV CM, rfl, .inl eZ, ndC, fun x hx => ?_, ?_, fun H' r kvs' s' nr' er' hasc => ?_⟩
        · obtain ⟨t, _, rfl⟩ := List.mem_map.mp hx
          exact ⟨_, rfl⟩
        · unfold ctKV
          have := congrArg List.length kCM
          rw [List.length_map] at this
          rw [List.length_map]
          omega
        · obtain ⟨CM', pC, rfl⟩ := ctKV_perm hasc.2
          refine q H' r ds2 CM' cf (sHZ.trans s') (sHZ.free nr') hds er' (fun t ht => s' _ _ (tCM t (pC.mem_iff.mp ht))) ?_ fun x hx => hcf0 x (hord.1.mem_iff.mpr hx)
          rw [← ct_keys, hasc.1, ct_keys, kCM]
          exact srt_stK hord.1
end
end Kb
namespace Kb
open PySem PySem.Spec PyProof.Rows L2
/-! ### things in a drawn order -/
/-- a value that stays the same data so long as the tuples stay -/
def DV (K : PySem.W.Frag) (H : Hp) (x : V) : Prop := ∃ d : PyData, (∀ H', TS H H' → Dp K H' x d) ∧ d.canLay0 = true ∧ d.depth ≤ 10
theorem DV.ts {K : PySem.W.Frag} {H H' : Hp} {x : V} (s : TS H H') (h : DV K H x) : DV K H' x := let ⟨d, h1, h2⟩ := h; ⟨d, fun G sG => h1 G (s.trans sG), h2⟩
theorem DV.str {K : PySem.W.Frag} {H : Hp} (x : Str) (h : PyData.strOk x = true) : DV K H (.str x) := ⟨.str x, fun _ _ => .str x, by simpa [PyData.canLay0] using h, by simp [PyData.depth]⟩
theorem dvAll {K : PySem.W.Frag} {H : Hp} : ∀ {xs : List V}, (∀ x ∈ xs, DV K H x) → ∃ ds : List PyData, (∀ H', TS H H' → DpAll K H' xs ds) ∧ PyData.canLayAll0 ds = true ∧ PyData.depthAll ds ≤ 10 ∧ ds.length = xs.length
  | [], _ => ⟨[], fun _ _ => .nil, by simp [PyData.canLayAll0], by simp [PyData.depthAll], rfl⟩
  | x :: xs, h => by
    obtain ⟨d, d1, d2, d3⟩ := h x List.mem_cons_self
    obtain ⟨ds, e1, e2, e3, e4⟩ := dvAll fun y hy => h y (List.mem_cons_of_mem _ hy)
    refine ⟨d :: ds, fun H' s => .cons (d1 H' s) (e1 H' s), ?_, ?_, by rw [List.length_cons, List.length_cons, e4]⟩
    · simp [PyData.canLayAll0, d2, e2]
    · simp only [PyData.depthAll]
      omega
theorem TS.but {x : Addr} {H H' : Hp} (b : Box H x) (k : But x H H') : TS H H' := fun c xs e => k c _ (fun z => by
  obtain ⟨b0, b1, b2, hb⟩ := b
  rw [z, hb] at e
  cases e) e
theorem erase_perm {α : Type} : ∀ (l : List α) (i : Nat) (h : i < l.length), (l[i] :: l.eraseIdx i).Perm l
  | x :: l, 0, _ => List.Perm.refl _
  | x :: l, i + 1, h => by
    rw [List.length_cons] at h
    have ih := erase_perm l i (by omega)
    show (l[i] :: x :: l.eraseIdx i).Perm (x :: l)
    exact (List.Perm.swap x l[i] _).trans (List.Perm.cons x ih)
section
variable {P : Program} {w : World} {K : PySem.W.Frag} {mg : Str → Option Value} {base : Heap}
def spLawMixed (K : PySem.W.Frag) : Sp := fun vs H Q _ => ∃ (x a : Addr) (xs : List V), vs = [.ref x, .ref a] ∧ Box H x ∧ a ≠ x ∧ H a = some (.lst xs) ∧ xs.length ≤ 100000 ∧ (∀ y ∈ xs, DV K H y) ∧ ∀ H' q ys, But x H H' → Box H' x → H q = none → H' q = some (.lst ys) → ys.Perm xs → Q (.ref q) H'
abbrev nMx : List Str := ["box", "some", "left", "found"]
theorem scMx : FnScope nMx ["box", "some"] (defScope sLawMixed) := ⟨rfl, rfl, rfl, by decide +kernel, rfl, by decide +kernel, by decide +kernel⟩
theorem ok_lawmixed {f fT : Addr} {fd fdT : FuncData} (F : Fun K "_law_mixed" "_law_mixed" sLawMixed f fd) (N : Nones mg) (G__law_take : FnOk P w K mg base CX0 1 fT fdT ["box", "many"] spTake) (C__law_take : CallC K mg "_law_take" ["box", "many"] fT fdT) : FnOk P w K mg base CX0 2 f fd ["box", "some"] (spLawMixed K) := by
  refine F.ok scMx (fun vs H Q E h => ?_) (fun cdv A outer s0 H vs Q E hr h => ?_)
  · obtain ⟨x, a, xs, rfl, _⟩ := h
    rfl
  · obtain ⟨x, a, xs, rfl, bx, nax, ha, lx, dv, q⟩ := h
    refine ⟨_, pss_cons (ps_par (i := 2) (j := 3) rfl scMx.nd rfl rfl (by decide) rfl rfl (pa_cons (pe_callTy call_list_of (by rfl) N.list (by decide +kernel) (pa_cons (pv 1) pa_nil)) (pa_cons (pe_lst pa_nil) pa_nil)) (by rfl))
      (pss_cons (ps_while PassesOwn.never (pt_cmpR (op_neD hr.units) (pv 2) (pe_lst pa_nil) (nomark _))
        (pss_one (ps_expr (pe_bm PySem.F.plainAttrs_list PySem.F.slot_list_append PySem.F.type_list_append mt_append (pv 3) (pa_cons (pe_bm PySem.F.plainAttrs_list PySem.F.slot_list_pop PySem.F.type_list_pop mt_popAt (pv 2) (pa_cons (pe_call G__law_take (hr.mono (by decide)) (by rfl) C__law_take.g C__law_take.kp C__law_take.b .nil pass0 (pa_cons (pv 0) (pa_cons (pe_callB call_len_seq (by rfl) N.len PySem.boot_len (pa_cons (pv 2) pa_nil)) pa_nil))) pa_nil)) pa_nil)))))
      (pss_one (ps_ret (pv 3)))), ?_⟩
    refine ⟨_, rfl, a, xs, rfl, .inl (sqL_new ha), fun q1 n1 => ⟨smallE (by show 0 ≤ 1000000; decide), fun q2 n2 => ⟨_, _, rfl, ?_⟩⟩⟩
    have s1 := same_new (o := .lst xs) n1
    have e1 : upd H q1 (.lst xs) q1 = some (.lst xs) := upd_same
    have b1 := Box.upd (o := .lst xs) bx (Box.ne bx n1)
    generalize upd H q1 (.lst xs) = H1 at s1 e1 b1 n2
    have s2 := same_new (o := .lst []) n2
    have e2 : upd H1 q2 (.lst []) q2 = some (.lst []) := upd_same
    have b2 := Box.upd (o := .lst []) b1 (Box.ne b1 n2)
    have ne12 : q1 ≠ q2 := fun z => by
      rw [← z, e1] at n2
      cases n2
    have e1 := s2 _ _ e1
    have nq1x := Box.ne bx n1
    have nq2x := Box.ne b1 n2
    have n2H := s1.free n2
    generalize upd H1 q2 (.lst []) = H2 at s2 e1 e2 b2
    have s12 := s1.trans s2
    refine ⟨fun m σ Z => ∃ (ls fs : List V), σ = [some (.ref x), some (.ref a), some (.ref q1), some (.ref q2)] ∧ But x H Z ∧ Box Z x ∧ Z q1 = some (.lst ls) ∧ Z q2 = some (.lst fs) ∧ (fs ++ ls).Perm xs ∧ m = ls.length, ⟨_, xs, [], rfl, But.of s12, b2, e1, e2, by rw [List.nil_append], rfl⟩, fun m σ Z h => ?_⟩
    obtain ⟨ls, fs, rfl, kZ, bZ, e1, e2, pm, em⟩ := h
    have tsZ := TS.but bx kZ
    have mls : ∀ y ∈ ls, y ∈ xs := fun y hy => pm.mem_iff.mp (List.mem_append_right _ hy)
    obtain ⟨ds, d1, d2, d3, d4⟩ := dvAll (K := K) (H := Z) fun y hy => (dv y (mls y hy)).ts tsZ
    refine ⟨_, rfl, smallE (by show 0 ≤ 1000000; decide), fun e ne => ?_⟩
    have se := same_new (o := .lst []) ne
    have ee : upd Z e (.lst []) e = some (.lst []) := upd_same
    have e1 := se _ _ e1
    have e2 := se _ _ e2
    have bE := Box.upd (o := .lst []) bZ (Box.ne bZ ne)
    have kE : But x H (upd Z e (.lst [])) := kZ.trans (But.of se)
    have tsE := TS.of se
    generalize upd Z e (.lst []) = Y at se ee e1 e2 bE kE tsE
    refine ⟨.list ds, .list [], .lst (sqL_new e1) (d1 _ tsE), .lst (sqL_new ee) .nil, ?_, by decide +kernel, ?_⟩
    · unfold SeqAt.shaped
      rw [Bool.and_eq_true]
      refine ⟨by simpa [PyData.canLay0] using d2, decide_eq_true ?_⟩
      simp only [PyData.depth]
      omega
    cases hls : ls with
    | nil =>
      have hd : ds = [] := List.eq_nil_of_length_eq_zero (by rw [d4, hls]; rfl)
      refine ⟨_, rfl, iteNo (by rw [hd]; decide +kernel) ?_⟩
      rw [hls, List.append_nil] at pm
      exact ⟨_, rfl, q Y q2 fs kE bE n2H e2 pm⟩
    | cons y0 l0 =>
      have hd : ds ≠ [] := fun z => by
        rw [z, hls] at d4
        cases d4
      refine ⟨_, rfl, iteYes (by cases ds with
        | nil => exact absurd rfl hd
        | cons d ds => rfl) ?_⟩
      have pos : 0 < ls.length := by
        rw [hls]
        exact Nat.succ_pos _
      have ll : ls.length + fs.length = xs.length := by
        have := pm.length_eq
        rw [List.length_append] at this
        omega
      refine ⟨fun σ' H' => ∃ m', m' < m ∧ ∃ (ls fs : List V), σ' = [some (.ref x), some (.ref a), some (.ref q1), some (.ref q2)] ∧ But x H H' ∧ Box H' x ∧ H' q1 = some (.lst ls) ∧ H' q2 = some (.lst fs) ∧ (fs ++ ls).Perm xs ∧ m' = ls.length, fun σ' H' h => h, ?_⟩
      refine ⟨_, rfl, Or.inl ⟨rfl, _, sqL_new e2⟩, _, rfl, Or.inl ⟨rfl, _, sqL_new e1⟩, _, rfl, _, rfl, q1, _, rfl, .inl (sqL_new e1), x, ls.length, rfl, bE, pos, by omega, fun r Z1 hr k1 b1 => ?_⟩
      have e1' := k1 _ _ nq1x e1
      have e2' := k1 _ _ nq2x e2
      have hy : ls[r]? = some (ls[r]'hr) := List.getElem?_eq_getElem hr
      refine ⟨q1, ls, (r : Int), r, ls[r]'hr, rfl, rfl, e1', by omega, by omega, seqIndex_at (by omega) (by omega), hy, ?_⟩
      have e2'' : upd Z1 q1 (.lst (ls.eraseIdx r)) q2 = some (.lst fs) := by
        rw [upd_ne (fun z => ne12 z.symm)]
        exact e2'
      refine ⟨q2, fs, ls[r]'hr, rfl, rfl, e2'', small (by omega), ?_⟩
      refine ⟨ls.length - 1, by omega, ls.eraseIdx r, fs ++ [ls[r]'hr], rfl, fun c u h e => ?_, Box.upd (Box.upd b1 nq1x) nq2x, ?_, upd_same, ?_, ?_⟩
      · rw [upd_ne (ne_of_none e n2H), upd_ne (ne_of_none e n1)]
        exact k1 _ _ h (kE _ _ h e)
      · rw [upd_ne ne12, upd_same]
      · refine List.Perm.trans ?_ pm
        rw [List.append_assoc]
        exact List.Perm.append_left fs (erase_perm ls r hr)
      · rw [List.length_eraseIdx, if_pos hr]
end
end Kb
namespace Kb
open PySem PySem.Spec PyProof.Rows L2
/-! ### drawn steps -/
def deedsL : List Str := ["a", "pay", "b"]
theorem But.freeH {x q : Addr} {H H1 : Hp} (k : But x H H1) (b : Box H1 x) (h : H1 q = none) : H q = none := k.free b h
section
variable {P : Program} {w : World} {K : PySem.W.Frag} {mg : Str → Option Value} {base : Heap}
structure StpDraw (names : List Str) (n b : Nat) (s : Stp) : Prop where
  sn : s.n = b
  so : s.o < n
  c : s.call = true → s.nm ∈ names
  d : s.call = false → s.nm ∈ deedsL
def spLawStep : Sp := fun vs H Q _ => ∃ (x a : Addr) (names : List Str) (at_ n b : Nat), vs = [.ref x, .ref a, .int (at_ : Int), .int (n : Int), .int (b : Int)] ∧ Box H x ∧ a ≠ x ∧ H a = some (.lst (names.map V.str)) ∧ 0 < names.length ∧ names.length ≤ 1000 ∧ 0 < n ∧ n ≤ 1000 ∧ ∀ H' q s, But x H H' → Box H' x → H q = none → H' q = some (.tup (stpV s)) → StpDraw names n b s → Q (.ref q) H'
abbrev nLs : List Str := ["box", "names", "at", "stages", "begin", "what", "label"]
theorem scLs : FnScope nLs ["box", "names", "at", "stages", "begin"] (defScope sLawStep) := ⟨rfl, rfl, rfl, by decide +kernel, rfl, by decide +kernel, by decide +kernel⟩
theorem ok_lawstep {f fT fP : Addr} {fd fdT fdP : FuncData} (F : Fun K "_law_step" "_law_step" sLawStep f fd) (N : Nones mg) (G__law_take : FnOk P w K mg base CX0 1 fT fdT ["box", "many"] spTake) (C__law_take : CallC K mg "_law_take" ["box", "many"] fT fdT) (G__law_pick : FnOk P w K mg base CX0 2 fP fdP ["box", "some"] spPick) (C__law_pick : CallC K mg "_law_pick" ["box", "some"] fP fdP) : FnOk P w K mg base CX0 3 f fd ["box", "names", "at", "stages", "begin"] spLawStep := by
  refine F.ok scLs (fun vs H Q E h => ?_) (fun cdv A outer s0 H vs Q E hr h => ?_)
  · obtain ⟨x, a, names, at_, n, b, rfl, _⟩ := h
    rfl
  · obtain ⟨x, a, names, at_, n, b, rfl, bx, nax, ha, n0, n1, n2, n3, q⟩ := h
    refine ⟨_, pss_cons (ps_par (i := 5) (j := 6) rfl scLs.nd rfl rfl (by decide) rfl rfl (pa_cons pe_str (pa_cons (pe_call G__law_pick (hr.mono (by decide)) (by rfl) C__law_pick.g C__law_pick.kp C__law_pick.b .nil pass0 (pa_cons (pv 0) (pa_cons (pe_lst (pa_cons pe_str (pa_cons pe_str (pa_cons pe_str pa_nil)))) pa_nil))) pa_nil)) (by rfl))
      (pss_cons (ps_if (pt_cmpR op_eq (pe_call G__law_take (hr.mono (by decide)) (by rfl) C__law_take.g C__law_take.kp C__law_take.b .nil pass0 (pa_cons (pv 0) (pa_cons pe_int pa_nil))) pe_int (nomark _)) (pss_one (ps_par (i := 5) (j := 6) rfl scLs.nd rfl rfl (by decide) rfl rfl (pa_cons pe_str (pa_cons (pe_ifExp (pt_cmpR op_gt (pe_call G__law_take (hr.mono (by decide)) (by rfl) C__law_take.g C__law_take.kp C__law_take.b .nil pass0 (pa_cons (pv 0) (pa_cons pe_int pa_nil))) pe_int (nomark _)) (pe_ix ix_list (pv 1) (pe_op op_mod (pe_callTy call_int1 (by rfl) N.int (by decide +kernel) (pa_cons (pe_op op_add (pv 2) pe_int) pa_nil)) (pe_callB call_len_seq (by rfl) N.len PySem.boot_len (pa_cons (pv 1) pa_nil))) (fun _ _ => rfl)) (pe_call G__law_pick (hr.mono (by decide)) (by rfl) C__law_pick.g C__law_pick.kp C__law_pick.b .nil pass0 (pa_cons (pv 0) (pa_cons (pv 1) pa_nil)))) pa_nil)) (by rfl))) pss_nil)
      (pss_one (ps_ret (pe_tup (pa_cons (pv 4) (pa_cons (pv 5) (pa_cons (pv 6) (pa_cons (pe_ifExp (pt_cmpR op_gt (pe_call G__law_take (hr.mono (by decide)) (by rfl) C__law_take.g C__law_take.kp C__law_take.b .nil pass0 (pa_cons (pv 0) (pa_cons pe_int pa_nil))) pe_int (nomark _)) (pe_op op_mod (pe_callTy call_int1 (by rfl) N.int (by decide +kernel) (pa_cons (pe_op op_add (pv 4) pe_int) pa_nil)) (pv 3)) (pe_call G__law_take (hr.mono (by decide)) (by rfl) C__law_take.g C__law_take.kp C__law_take.b .nil pass0 (pa_cons (pv 0) (pa_cons (pv 3) pa_nil)))) pa_nil)))))))), ?_⟩
    refine ⟨_, rfl, smallE (by show 3 ≤ 1000000; decide), fun l nl => ?_⟩
    have sl := same_new (o := .lst (deedsL.map V.str)) nl
    have el : upd H l (.lst (deedsL.map V.str)) l = some (.lst (deedsL.map V.str)) := upd_same
    have b1 := Box.upd (o := .lst (deedsL.map V.str)) bx (Box.ne bx nl)
    have nlx := Box.ne bx nl
    have k1 : But x H (upd H l (.lst (deedsL.map V.str))) := But.of sl
    refine ⟨x, l, deedsL.map V.str, rfl, b1, nlx, .inl el, by decide, by decide, fun i v H1 hv k2 b2 => ?_⟩
    obtain ⟨dd, hdd, rfl⟩ := get_map hv
    have kH1 := k1.trans k2
    have ha1 := kH1 _ _ nax ha
    refine ⟨_, _, rfl, ?_⟩
    refine ⟨_, rfl, x, 3, rfl, b2, by decide, by decide, fun r H2 hr2 k3 b3 => ?_⟩
    have kH2 := kH1.trans k3
    have ha2 := kH2 _ _ nax ha
    refine ⟨rfl, _, rfl, ite2 (fun c0 => ?_) (fun c0 => ?_)⟩
    · refine ⟨_, rfl, x, 3, rfl, b3, by decide, by decide, fun r2 H3 hr3 k4 b4 => ?_⟩
      have kH3 := kH2.trans k4
      have ha3 := kH3 _ _ nax ha
      refine ⟨_, _, rfl, rfl, _, rfl, ite2 (fun c1 => ?_) (fun c1 => ?_)⟩
      · obtain ⟨m, hm, em⟩ := mod_nat ((at_ : Int) + 1) n0
        have hg : names[m]? = some (names[m]'hm) := List.getElem?_eq_getElem hm
        have hg2 : (names.map V.str)[m]? = some (V.str (names[m]'hm)) := by rw [List.getElem?_map, hg]; rfl
        refine ⟨_, rfl, _, rfl, _, _, rfl, rfl, .inl ⟨_, rfl, _, rfl, a, _, rfl, .inl (sqL_new ha3), _, _, rfl, rfl, (by rw [List.length_map]; omega), a, _, _, V.str (names[m]'hm), rfl, rfl, sqL_new ha3, (by rw [List.length_map, em]; exact atI_nat hg2), ?_⟩⟩
        refine ⟨_, _, rfl, ?_⟩
        refine ⟨_, rfl, _, rfl, _, rfl, _, rfl, x, 4, rfl, b4, by decide, by decide, fun r9 H9 hr9 k9 b9 => ?_⟩
        have kH9 := kH3.trans k9
        refine ⟨_, _, rfl, rfl, _, rfl, ite2 (fun c9 => ?_) (fun c9 => ?_)⟩
        · obtain ⟨o, ho, eo⟩ := mod_nat ((b : Int) + 1) n2
          refine ⟨_, rfl, _, _, rfl, rfl, .inl ⟨_, rfl, _, rfl, _, _, rfl, rfl, (by omega), smallE (by show 4 ≤ 1000000; decide), fun qq nqq => ?_⟩⟩
          have sq := same_new (o := .tup [V.int (b : Int), V.str (kindS true), V.str (names[m]'hm), V.int (((b : Int) + 1) % (n : Int))]) nqq
          refine q _ qq ⟨b, true, (names[m]'hm), o⟩ (kH9.trans (But.of sq)) (Box.upd b9 (Box.ne b9 nqq)) (kH9.free b9 nqq) ?_ ⟨rfl, ho, (fun _ => List.mem_of_getElem? hg), (fun z => nomatch z)⟩
          refine upd_same.trans ?_
          show some (HO.tup [V.int (b : Int), V.str (kindS true), V.str (names[m]'hm), V.int (((b : Int) + 1) % (n : Int))]) = _
          rw [eo]
          rfl
        · refine ⟨_, rfl, _, rfl, x, n, rfl, b9, n2, by omega, fun o H10 ho k10 b10 => ⟨smallE (by show 4 ≤ 1000000; decide), fun qq nqq => ?_⟩⟩
          have sq := same_new (o := .tup [V.int (b : Int), V.str (kindS true), V.str (names[m]'hm), V.int (o : Int)]) nqq
          have kH10 := kH9.trans k10
          exact q _ qq ⟨b, true, (names[m]'hm), o⟩ (kH10.trans (But.of sq)) (Box.upd b10 (Box.ne b10 nqq)) (kH10.free b10 nqq) upd_same ⟨rfl, ho, (fun _ => List.mem_of_getElem? hg), (fun z => nomatch z)⟩
      · refine ⟨_, rfl, _, rfl, x, a, names.map V.str, rfl, b4, nax, .inl ha3, by rw [List.length_map]; exact n0, by rw [List.length_map]; omega, fun m v H4 hv k5 b5 => ?_⟩
        obtain ⟨nm, hnm, rfl⟩ := get_map hv
        have kH4 := kH3.trans k5
        refine ⟨_, _, rfl, ?_⟩
        refine ⟨_, rfl, _, rfl, _, rfl, _, rfl, x, 4, rfl, b5, by decide, by decide, fun r9 H9 hr9 k9 b9 => ?_⟩
        have kH9 := kH4.trans k9
        refine ⟨_, _, rfl, rfl, _, rfl, ite2 (fun c9 => ?_) (fun c9 => ?_)⟩
        · obtain ⟨o, ho, eo⟩ := mod_nat ((b : Int) + 1) n2
          refine ⟨_, rfl, _, _, rfl, rfl, .inl ⟨_, rfl, _, rfl, _, _, rfl, rfl, (by omega), smallE (by show 4 ≤ 1000000; decide), fun qq nqq => ?_⟩⟩
          have sq := same_new (o := .tup [V.int (b : Int), V.str (kindS true), V.str nm, V.int (((b : Int) + 1) % (n : Int))]) nqq
          refine q _ qq ⟨b, true, nm, o⟩ (kH9.trans (But.of sq)) (Box.upd b9 (Box.ne b9 nqq)) (kH9.free b9 nqq) ?_ ⟨rfl, ho, (fun _ => List.mem_of_getElem? hnm), (fun z => nomatch z)⟩
          refine upd_same.trans ?_
          show some (HO.tup [V.int (b : Int), V.str (kindS true), V.str nm, V.int (((b : Int) + 1) % (n : Int))]) = _
          rw [eo]
          rfl
        · refine ⟨_, rfl, _, rfl, x, n, rfl, b9, n2, by omega, fun o H10 ho k10 b10 => ⟨smallE (by show 4 ≤ 1000000; decide), fun qq nqq => ?_⟩⟩
          have sq := same_new (o := .tup [V.int (b : Int), V.str (kindS true), V.str nm, V.int (o : Int)]) nqq
          have kH10 := kH9.trans k10
          exact q _ qq ⟨b, true, nm, o⟩ (kH10.trans (But.of sq)) (Box.upd b10 (Box.ne b10 nqq)) (kH10.free b10 nqq) upd_same ⟨rfl, ho, (fun _ => List.mem_of_getElem? hnm), (fun z => nomatch z)⟩
    · have H2' := H2
      refine ⟨_, rfl, _, rfl, _, rfl, _, rfl, x, 4, rfl, b3, by decide, by decide, fun r9 H9 hr9 k9 b9 => ?_⟩
      have kH9 := kH2.trans k9
      refine ⟨_, _, rfl, rfl, _, rfl, ite2 (fun c9 => ?_) (fun c9 => ?_)⟩
      · obtain ⟨o, ho, eo⟩ := mod_nat ((b : Int) + 1) n2
        refine ⟨_, rfl, _, _, rfl, rfl, .inl ⟨_, rfl, _, rfl, _, _, rfl, rfl, (by omega), smallE (by show 4 ≤ 1000000; decide), fun qq nqq => ?_⟩⟩
        have sq := same_new (o := .tup [V.int (b : Int), V.str (kindS false), V.str dd, V.int (((b : Int) + 1) % (n : Int))]) nqq
        refine q _ qq ⟨b, false, dd, o⟩ (kH9.trans (But.of sq)) (Box.upd b9 (Box.ne b9 nqq)) (kH9.free b9 nqq) ?_ ⟨rfl, ho, (fun z => nomatch z), (fun _ => List.mem_of_getElem? hdd)⟩
        refine upd_same.trans ?_
        show some (HO.tup [V.int (b : Int), V.str (kindS false), V.str dd, V.int (((b : Int) + 1) % (n : Int))]) = _
        rw [eo]
        rfl
      · refine ⟨_, rfl, _, rfl, x, n, rfl, b9, n2, by omega, fun o H10 ho k10 b10 => ⟨smallE (by show 4 ≤ 1000000; decide), fun qq nqq => ?_⟩⟩
        have sq := same_new (o := .tup [V.int (b : Int), V.str (kindS false), V.str dd, V.int (o : Int)]) nqq
        have kH10 := kH9.trans k10
        exact q _ qq ⟨b, false, dd, o⟩ (kH10.trans (But.of sq)) (Box.upd b10 (Box.ne b10 nqq)) (kH10.free b10 nqq) upd_same ⟨rfl, ho, (fun z => nomatch z), (fun _ => List.mem_of_getElem? hdd)⟩
end
end Kb
namespace Kb
open PySem PySem.Spec PyProof.Rows L2
/-! ### drawn courses -/
/-- a body in two parts: what the first gives, the rest takes -/
theorem split_tail {X : Cx} {st : Stmt} {rest : List Stmt} {D : Ends} {σ : L2.St} {H : Hp} (R : L2.St → Hp → Prop) (T : ∃ u, PSs X rest u ∧ ∀ σ' H', R σ' H' → u D σ' H') (h : ∃ t, PS X st t ∧ ∀ N : L2.St → Hp → Prop, (∀ σ' H', R σ' H' → N σ' H') → t { D with nx := N } σ H) : ∃ t, PSs X (st :: rest) t ∧ t D σ H := by
  obtain ⟨u, pu, hu⟩ := T
  obtain ⟨t, pt, ht⟩ := h
  exact ⟨_, pss_cons pt pu, ht _ hu⟩
theorem split_next {X : Cx} {st : Stmt} {rest : List Stmt} {D : Ends} (R0 R : L2.St → Hp → Prop) (T : ∃ u, PSs X rest u ∧ ∀ σ' H', R σ' H' → u D σ' H') (h : ∃ t, PS X st t ∧ ∀ N : L2.St → Hp → Prop, (∀ σ' H', R σ' H' → N σ' H') → ∀ σ H, R0 σ H → t { D with nx := N } σ H) : ∃ t, PSs X (st :: rest) t ∧ ∀ σ H, R0 σ H → t D σ H := by
  obtain ⟨u, pu, hu⟩ := T
  obtain ⟨t, pt, ht⟩ := h
  exact ⟨_, pss_cons pt pu, fun σ H h0 => ht _ hu σ H h0⟩
theorem room65 {k : Nat} {A : Around} (r : Room k A) : A.units + 65 < cLine := by
  have := r.un
  omega
/-- a course of tuples alone -/
structure DrawC (H : Hp) (c : CA) : Prop where
  t : H c.a = some (.tup (crsV c))
  e : H c.ea = some (.tup (natV c.es))
  s : H c.sa = some (.tup (c.ss.map fun p => V.ref p.1))
  p : ∀ p ∈ c.ss, H p.1 = some (.tup (stpV p.2))
theorem DrawC.ts {H H' : Hp} {c : CA} (s : TS H H') (h : DrawC H c) : DrawC H' c := ⟨s _ _ h.t, s _ _ h.e, s _ _ h.s, fun p hp => s _ _ (h.p p hp)⟩
theorem DrawC.at (K : PySem.W.Frag) {H : Hp} {c : CA} (h : DrawC H c) : CrsAt K H c := ⟨sqT_new h.t, sqT_new h.e, sqT_new h.s, h.p⟩
def stpD (s : Stp) : PyData := .tuple [.int (s.n : Int), .str (kindS s.call), .str s.nm, .int (s.o : Int)]
theorem eqKind (a b : Bool) : decide (kindS a = kindS b) = decide (a = b) := by
  cases a <;> cases b <;> decide +kernel
theorem eqStp (a b : Stp) : PyData.eqv (stpD a) (stpD b) = decide (a = b) := by
  unfold stpD
  simp only [PyData.eqv, PyData.eqvAll, str_beq, eqKind, Bool.and_true]
  cases a with | mk a1 a2 a3 a4 => cases b with | mk b1 b2 b3 b4 =>
  by_cases h1 : a1 = b1 <;> by_cases h2 : a2 = b2 <;> by_cases h3 : a3 = b3 <;> by_cases h4 : a4 = b4 <;> simp [h1, h2, h3, h4] <;> omega
theorem kind_ok (c : Bool) : PyData.strOk (kindS c) = true := by cases c <;> decide +kernel
theorem stp_shaped {s : Stp} (h : isName s.nm = true) : SeqAt.shaped (stpD s) = true := by
  unfold SeqAt.shaped stpD
  simp [PyData.canLay0, PyData.canLayAll0, PyData.depth, PyData.depthAll, kind_ok, name_ok h]
theorem stp_all {ss : List Stp} (h : ∀ s ∈ ss, isName s.nm = true) : SeqAt.shaped (.list (ss.map stpD)) = true := by
  have d : PyData.depthAll (ss.map stpD) ≤ 1 := dep_le (fun a => by simp [stpD, PyData.depth, PyData.depthAll]) ss
  have l : PyData.canLayAll0 (ss.map stpD) = true := lay_all ss fun s hs => SeqAt.canLay_of_shaped (stp_shaped (h s hs))
  unfold SeqAt.shaped
  simp only [PyData.canLay0, PyData.depth, l, Bool.true_and]
  exact decide_eq_true (by omega)
theorem dp_stp {K : PySem.W.Frag} {H : Hp} {a : Addr} {s : Stp} (h : H a = some (.tup (stpV s))) : Dp K H (.ref a) (stpD s) := .tup (sqT_new h) (.cons (.int _) (.cons (.str _) (.cons (.str _) (.cons (.int _) .nil))))
theorem dp_stps {K : PySem.W.Frag} {H : Hp} : ∀ {L : List (Addr × Stp)}, (∀ p ∈ L, H p.1 = some (.tup (stpV p.2))) → DpAll K H (L.map fun p => V.ref p.1) ((L.map (·.2)).map stpD)
  | [], _ => .nil
  | p :: L, h => .cons (dp_stp (h p List.mem_cons_self)) (dp_stps fun q hq => h q (List.mem_cons_of_mem _ hq))
theorem DV.stp {K : PySem.W.Frag} {H : Hp} {a : Addr} {s : Stp} (h : H a = some (.tup (stpV s))) (hn : isName s.nm = true) : DV K H (.ref a) := ⟨stpD s, fun H' t => dp_stp (t _ _ h), SeqAt.canLay_of_shaped (stp_shaped hn), by simp [stpD, PyData.depth, PyData.depthAll]⟩
theorem deeds_name : ∀ d ∈ deedsL, isName d = true := by decide +kernel
theorem StpDraw.name {names : List Str} {n b : Nat} {s : Stp} (h : StpDraw names n b s) (hn : ∀ x ∈ names, isName x = true) : isName s.nm = true := by
  cases e : s.call with
  | true => exact hn _ (h.c e)
  | false => exact deeds_name _ (h.d e)
theorem asc_len : ∀ {l : List Nat} {n : Nat}, l.Pairwise (· < ·) → (∀ e ∈ l, e < n) → l.length ≤ n := fun {l n} asc lt => by
  have nd : l.Nodup := List.Pairwise.imp (fun {a b} (h : a < b) (e : a = b) => by omega) asc
  have := nd_le nd (m := List.range n) fun x hx => List.mem_range.mpr (lt x hx)
  rwa [List.length_range] at this
theorem inV_nat (k : Nat) : ∀ es : List Nat, inV (.int (k : Int)) (natV es) = decide (k ∈ es)
  | [] => by simp [inV, natV]
  | y :: es => by
    have ih := inV_nat k es
    unfold inV natV at ih ⊢
    rw [List.map_cons, List.any_cons, ih]
    show (((y : Int) == (k : Int)) || _) = _
    by_cases h1 : y = k
    · subst h1
      simp
    · have h2 : ¬ k = y := fun e => h1 e.symm
      have h3 : ¬ (y : Int) = (k : Int) := fun e => h1 (by omega)
      simp [h1, h2, h3]
/-- what is drawn -/
structure CrsDraw (names : List Str) (nm : Str) (c : CA) : Prop where
  nm : c.nm = nm
  n0 : 1 ≤ c.n
  n4 : c.n ≤ 3
  el : ∀ e ∈ c.es, e < c.n
  asc : c.es.Pairwise (· < ·)
  st : ∀ p ∈ c.ss, ∃ b, b < c.n ∧ StpDraw names c.n b p.2
  nd : (c.ss.map (·.2)).Nodup
  sz : c.ss.length ≤ 6
section
variable {P : Program} {w : World} {K : PySem.W.Frag} {mg : Str → Option Value} {base : Heap}
def spLawCourse : Sp := fun vs H Q _ => ∃ (x a : Addr) (names : List Str) (i : Nat) (nm : Str), vs = [.ref x, .ref a, .int (i : Int)] ∧ Box H x ∧ a ≠ x ∧ H a = some (.lst (names.map V.str)) ∧ names[i]? = some nm ∧ names.length ≤ 1000 ∧ (∀ n ∈ names, isName n = true) ∧ ∀ H' q c, But x H H' → Box H' x → H q = none → c.a = q → DrawC H' c → CrsDraw names nm c → Q (.ref q) H'
abbrev nLc : List Str := ["box", "names", "at", "stages", "ends", "steps", "turn", "step", "number"]
theorem scLc : FnScope nLc ["box", "names", "at"] (defScope sLawCourse) := ⟨rfl, rfl, rfl, by decide +kernel, rfl, by decide +kernel, by decide +kernel⟩
theorem ok_lawcourse {f fT fS fM : Addr} {fd fdT fdS fdM : FuncData} (F : Fun K "_law_course" "_law_course" sLawCourse f fd) (N : Nones mg) (G__law_take : FnOk P w K mg base CX0 1 fT fdT ["box", "many"] spTake) (C__law_take : CallC K mg "_law_take" ["box", "many"] fT fdT) (G__law_step : FnOk P w K mg base CX0 3 fS fdS ["box", "names", "at", "stages", "begin"] spLawStep) (C__law_step : CallC K mg "_law_step" ["box", "names", "at", "stages", "begin"] fS fdS)
    (G__law_mixed : FnOk P w K mg base CX0 2 fM fdM ["box", "some"] (spLawMixed K)) (C__law_mixed : CallC K mg "_law_mixed" ["box", "some"] fM fdM) : FnOk P w K mg base CX0 4 f fd ["box", "names", "at"] spLawCourse := by
  refine F.ok scLc (fun vs H Q E h => ?_) (fun cdv A outer s0 H vs Q E hr h => ?_)
  · obtain ⟨x, a, names, i, nm, rfl, _⟩ := h
    rfl
  · obtain ⟨x, a, names, i, nm, rfl, bx, nax, ha, hnm, nl, hn, q⟩ := h
    have n0 : 0 < names.length := Nat.lt_of_le_of_lt (Nat.zero_le _) (lt_of_get hnm)
    refine split_tail (fun σ Z => ∃ n : Nat, σ = [some (.ref x), some (.ref a), some (.int (i : Int)), some (.int (n : Int)), none, none, none, none, none] ∧ 1 ≤ n ∧ n ≤ 3 ∧ But x H Z ∧ Box Z x) ?_ ?_
    · refine split_next _ (fun σ Z => ∃ (n : Nat) (q4 : Addr) (es : List Nat), σ = [some (.ref x), some (.ref a), some (.int (i : Int)), some (.int (n : Int)), some (.ref q4), none, none, none, none] ∧ 1 ≤ n ∧ n ≤ 3 ∧ But x H Z ∧ Box Z x ∧ q4 ≠ x ∧ H q4 = none ∧ Z q4 = some (.lst (natV es)) ∧ (∀ e ∈ es, e < n) ∧ es.Pairwise (· < ·) ∧ es.length ≤ 4) ?_ ?_
      · refine split_next _ (fun σ Z => ∃ (n : Nat) (q4 : Addr) (es : List Nat), σ = [some (.ref x), some (.ref a), some (.int (i : Int)), some (.int (n : Int)), some (.ref q4), none, none, none, none] ∧ 1 ≤ n ∧ n ≤ 3 ∧ But x H Z ∧ Box Z x ∧ q4 ≠ x ∧ H q4 = none ∧ Z q4 = some (.lst (natV es)) ∧ (∀ e ∈ es, e < n) ∧ es.Pairwise (· < ·) ∧ es.length ≤ 4) ?_ ?_
        · refine ⟨_, pss_cons (ps_set (i := 5) scLc.nd rfl (Or.inl rfl) (pe_lst pa_nil))
        (pss_cons (ps_for PassesOwn.never rfl (pi_range1 (by rfl) N.range (pa_cons (pe_op op_add (pv 3) (pe_call G__law_take (hr.mono (by decide)) (by rfl) C__law_take.g C__law_take.kp C__law_take.b .nil pass0 (pa_cons (pv 0) (pa_cons pe_int pa_nil)))) pa_nil)) (pg_name (i := 6) scLc.nd rfl (Or.inl rfl))
          (pss_cons (ps_set (i := 7) scLc.nd rfl (Or.inl rfl) (pe_call G__law_step (hr.mono (by decide)) (by rfl) C__law_step.g C__law_step.kp C__law_step.b .nil pass0 (pa_cons (pv 0) (pa_cons (pv 1) (pa_cons (pv 2) (pa_cons (pv 3) (pa_cons (pe_op op_mod (pe_callTy call_int1 (by rfl) N.int (by decide +kernel) (pa_cons (pv 6) pa_nil)) (pv 3)) pa_nil)))))))
          (pss_one (ps_if (pt_cmpR (op_notInD (room65 hr)) (pv 7) (pv 5) (by rfl)) (pss_one (ps_expr (pe_bm PySem.F.plainAttrs_list PySem.F.slot_list_append PySem.F.type_list_append mt_append (pv 5) (pa_cons (pv 7) pa_nil)))) pss_nil))))
        (pss_one (ps_ret (pe_tup (pa_cons (pe_ix ix_list (pv 1) (pv 2) (fun _ _ => rfl)) (pa_cons (pv 3) (pa_cons (pe_callTy call_tuple_of (by rfl) N.tuple (by decide +kernel) (pa_cons (pv 4) pa_nil)) (pa_cons (pe_callTy call_tuple_of (by rfl) N.tuple (by decide +kernel) (pa_cons (pe_call G__law_mixed (hr.mono (by decide)) (by rfl) C__law_mixed.g C__law_mixed.kp C__law_mixed.b .nil pass0 (pa_cons (pv 0) (pa_cons (pv 5) pa_nil))) pa_nil)) pa_nil)))))))), fun σ Z h => ?_⟩
          obtain ⟨n, q4, es, rfl, n1, n4, kZ, bZ, nq4x, nq4, e4, lt, asc, ln⟩ := h
          refine ⟨smallE (by show 0 ≤ 1000000; decide), fun q5 n5 => ?_⟩
          have s5 := same_new (o := .lst []) n5
          have e5 : upd Z q5 (.lst []) q5 = some (.lst []) := upd_same
          have n5x := Box.ne bZ n5
          have n5H := kZ.free bZ n5
          have b5 := Box.upd (o := .lst []) bZ n5x
          have k5 := kZ.trans (But.of s5)
          have ne45 : q4 ≠ q5 := ne_of_none e4 n5
          have e4 := s5 _ _ e4
          generalize upd Z q5 (.lst []) = Z5 at s5 e5 b5 k5 e4
          refine ⟨_, rfl, _, rfl, x, 3, rfl, b5, by decide, by decide, fun r Z6 hr6 k6 b6 => ?_⟩
          have e5 := k6 _ _ n5x e5
          have e4 := k6 _ _ nq4x e4
          have k6 := k5.trans k6
          refine ⟨_, _, rfl, rfl, _, rfl, by omega, by omega, ?_⟩
          have en : ((n : Int) + (r : Int)).toNat = n + r := by omega
          rw [en]
          refine for_it (walk_r0 (n := n + r)) (fun j σ Y => ∃ (x6 x7 x8 : Option V) (L : List (Addr × Stp)), σ = [some (.ref x), some (.ref a), some (.int (i : Int)), some (.int (n : Int)), some (.ref q4), some (.ref q5), x6, x7, x8] ∧ But x H Y ∧ Box Y x ∧ Y q4 = some (.lst (natV es)) ∧ Y q5 = some (.lst (L.map fun p => V.ref p.1)) ∧ (∀ p ∈ L, Y p.1 = some (.tup (stpV p.2)) ∧ ∃ b, b < n ∧ StpDraw names n b p.2) ∧ (L.map (·.2)).Nodup ∧ L.length ≤ j) ⟨none, none, none, [], rfl, k6, b6, e4, e5, (fun p hp => nomatch hp), List.nodup_nil, Nat.le_refl _⟩ (fun _ _ _ _ _ => True.intro) (fun j z σ Y Y' hj h yy => ?_) (fun σ Y h => ?_)
          · obtain ⟨rfl, rfl⟩ := yy
            obtain ⟨x6, x7, x8, L, rfl, kY, bY, f4, f5, at5, nd5, ln5⟩ := h
            obtain ⟨bg, hbg, ebg⟩ := mod_nat (j : Int) (n := n) (by omega)
            refine ⟨_, rfl, _, rfl, _, rfl, _, rfl, _, rfl, .inl ⟨_, rfl, _, rfl, _, _, rfl, rfl, (by omega), x, a, names, i, n, bg, ?_, bY, nax, kY _ _ nax ha, n0, nl, by omega, by omega, fun Y1 qs sp k1 b1 nqs eqs dr => ?_⟩⟩
            · show [V.ref x, V.ref a, V.int (i : Int), V.int (n : Int), V.int ((j : Int) % (n : Int))] = _
              rw [ebg]
            have f4 := k1 _ _ nq4x f4
            have f5 := k1 _ _ n5x f5
            have ts1 := TS.but bY k1
            have at6 : ∀ p ∈ L, Y1 p.1 = some (.tup (stpV p.2)) ∧ ∃ b, b < n ∧ StpDraw names n b p.2 := fun p hp => ⟨ts1 _ _ (at5 p hp).1, (at5 p hp).2⟩
            have nmL : ∀ s ∈ L.map (·.2), isName s.nm = true := fun s hs => by
              obtain ⟨p, hp, rfl⟩ := List.mem_map.mp hs
              obtain ⟨_, b, _, d⟩ := at5 p hp
              exact d.name hn
            refine ⟨_, rfl, _, rfl, stpD sp, _, dp_stp eqs, .lst (sqL_new f5) (dp_stps fun p hp => (at6 p hp).1), stp_shaped (dr.name hn), stp_all nmL, ?_⟩
            have hany : (((L.map (·.2)).map stpD).any fun z => PyData.eqv z (stpD sp)) = decide (sp ∈ L.map (·.2)) := by
              rw [List.any_map, Bool.eq_iff_iff, List.any_eq_true, decide_eq_true_iff]
              constructor
              · rintro ⟨z, hz, e⟩
                have e : PyData.eqv (stpD z) (stpD sp) = true := e
                rw [eqStp] at e
                rw [← of_decide_eq_true e]
                exact hz
              · intro hz
                refine ⟨sp, hz, ?_⟩
                show PyData.eqv (stpD sp) (stpD sp) = true
                rw [eqStp]
                exact decide_eq_true rfl
            rw [hany]
            by_cases hin : sp ∈ L.map (·.2)
            · rw [decide_eq_true hin]
              refine ⟨_, rfl, iteNo rfl ?_⟩
              exact ⟨_, _, _, L, rfl, kY.trans k1, b1, f4, f5, at6, nd5, by omega⟩
            · rw [decide_eq_false hin]
              refine ⟨_, rfl, iteYes rfl ?_⟩
              refine ⟨_, rfl, Or.inl ⟨rfl, _, sqL_new f5⟩, _, rfl, q5, _, _, rfl, rfl, f5, by rw [List.length_map]; exact small (by omega), ?_⟩
              have tk : TS Y1 (upd Y1 q5 (.lst ((L.map fun p => V.ref p.1) ++ [.ref qs]))) := fun c xs e => by
                rw [upd_ne]
                · exact e
                · intro z
                  rw [z, f5] at e
                  cases e
              refine ⟨_, _, _, L ++ [(qs, sp)], rfl, fun c o hc e => ?_, Box.upd b1 n5x, ?_, ?_, fun p hp => ?_, ?_, ?_⟩
              · rw [upd_ne (ne_of_none e n5H)]
                exact k1 _ _ hc (kY _ _ hc e)
              · rw [upd_ne ne45]
                exact f4
              · rw [upd_same, List.map_append]
                rfl
              · rcases List.mem_append.mp hp with z | z
                · exact ⟨tk _ _ (at6 p z).1, (at6 p z).2⟩
                · rw [List.mem_singleton.mp z]
                  exact ⟨tk _ _ eqs, bg, hbg, dr⟩
              · rw [List.map_append, List.nodup_append]
                refine ⟨nd5, by simp, fun y hy z hz e => ?_⟩
                have hz : z ∈ [sp] := hz
                rw [List.mem_singleton] at hz
                exact hin (by rw [← hz, ← e]; exact hy)
              · rw [List.length_append, List.length_singleton]
                omega
          · obtain ⟨x6, x7, x8, L, rfl, kY, bY, f4, f5, at5, nd5, ln5⟩ := h
            have hnm2 : (names.map V.str)[i]? = some (V.str nm) := by rw [List.getElem?_map, hnm]; rfl
            refine ⟨_, rfl, _, rfl, a, _, _, V.str nm, rfl, rfl, sqL_new (kY _ _ nax ha), atI_nat hnm2, _, rfl, _, rfl, q4, _, rfl, .inl ⟨sqL_new f4, fun qe nqe => ?_⟩⟩
            have se := same_new (o := .tup (natV es)) nqe
            have ee : upd Y qe (.tup (natV es)) qe = some (.tup (natV es)) := upd_same
            have f5 := se _ _ f5
            have be := Box.upd (o := .tup (natV es)) bY (Box.ne bY nqe)
            have ke := kY.trans (But.of se)
            have at6 : ∀ p ∈ L, upd Y qe (.tup (natV es)) p.1 = some (.tup (stpV p.2)) ∧ ∃ b, b < n ∧ StpDraw names n b p.2 := fun p hp => ⟨se _ _ (at5 p hp).1, (at5 p hp).2⟩
            generalize upd Y qe (.tup (natV es)) = Y2 at se ee f5 be ke at6
            refine ⟨_, rfl, _, rfl, x, q5, _, rfl, be, n5x, f5, by rw [List.length_map]; omega, fun y hy => ?_, fun Y3 qm ys k3 b3 nqm em pm => ?_⟩
            · obtain ⟨p, hp, rfl⟩ := List.mem_map.mp hy
              obtain ⟨e, b, _, d⟩ := at6 p hp
              exact DV.stp e (d.name hn)
            obtain ⟨L2, pm2, rfl⟩ := perm_of_map pm L rfl
            refine ⟨qm, _, rfl, .inl ⟨sqL_new em, fun qs nqs => ?_⟩⟩
            have ss := same_new (o := .tup (L2.map fun p => V.ref p.1)) nqs
            have es2 : upd Y3 qs (.tup (L2.map fun p => V.ref p.1)) qs = some (.tup (L2.map fun p => V.ref p.1)) := upd_same
            have bs := Box.upd (o := .tup (L2.map fun p => V.ref p.1)) b3 (Box.ne b3 nqs)
            have ts3 : TS Y2 (upd Y3 qs (.tup (L2.map fun p => V.ref p.1))) := (TS.but be k3).trans (TS.of ss)
            have ks := (ke.trans k3).trans (But.of ss)
            generalize upd Y3 qs (.tup (L2.map fun p => V.ref p.1)) = Y4 at ss es2 bs ts3 ks
            refine ⟨smallE (by show 4 ≤ 1000000; decide), fun qq nqq => ?_⟩
            have sq := same_new (o := .tup [V.str nm, V.int (n : Int), V.ref qe, V.ref qs]) nqq
            refine q _ qq ⟨qq, nm, n, qe, es, qs, L2⟩ (ks.trans (But.of sq)) (Box.upd bs (Box.ne bs nqq)) (ks.free bs nqq) rfl ⟨upd_same, sq _ _ (ts3 _ _ ee), sq _ _ es2, fun p hp => sq _ _ (ts3 _ _ (at6 p (pm2.mem_iff.mp hp)).1)⟩ ⟨rfl, n1, n4, lt, asc, fun p hp => (at6 p (pm2.mem_iff.mp hp)).2, (pm2.map (·.2)).nodup_iff.mpr nd5, ?_⟩
            show L2.length ≤ 6
            have := pm2.length_eq
            omega
        · refine ⟨_, ps_if (PW.pt (pw_and (pt_cmpR op_notIn_seq (pe_op op_sub (pv 3) pe_int) (pv 4) (by rfl)) (pw_and1 (pt_cmpR op_gt (pe_call G__law_take (hr.mono (by decide)) (by rfl) C__law_take.g C__law_take.kp C__law_take.b .nil pass0 (pa_cons (pv 0) (pa_cons pe_int pa_nil))) pe_int (nomark _))))) (pss_one (ps_expr (pe_bm PySem.F.plainAttrs_list PySem.F.slot_list_append PySem.F.type_list_append mt_append (pv 4) (pa_cons (pe_op op_sub (pv 3) pe_int) pa_nil)))) pss_nil, fun N' hN σ Z h => ?_⟩
          obtain ⟨n, q4, es, rfl, n1, n4, kZ, bZ, nq4x, nq4, e4, lt, asc, ln⟩ := h
          have flat : (natV es).all flatV = true := by
            unfold natV
            rw [List.all_map]
            exact List.all_eq_true.mpr fun _ _ => rfl
          have hin : inV (V.int ((n : Int) - 1)) (natV es) = decide ((n - 1) ∈ es) := by
            have : (n : Int) - 1 = ((n - 1 : Nat) : Int) := by omega
            rw [this, inV_nat]
          refine ⟨_, rfl, _, _, rfl, rfl, _, rfl, q4, _, rfl, .inl (sqL_new e4), rfl, flat, ?_⟩
          rw [hin]
          by_cases hm : (n - 1) ∈ es
          · rw [decide_eq_true hm]
            refine ⟨_, rfl, iteNo rfl (iteNo rfl ?_)⟩
            exact hN _ _ ⟨n, q4, es, rfl, n1, n4, kZ, bZ, nq4x, nq4, e4, lt, asc, ln⟩
          · rw [decide_eq_false hm]
            refine ⟨_, rfl, iteYes rfl ?_⟩
            refine ⟨_, rfl, x, 6, rfl, bZ, by decide, by decide, fun r Z6 hr6 k6 b6 => ?_⟩
            have e4 := k6 _ _ nq4x e4
            have k6 := kZ.trans k6
            refine ⟨_, _, rfl, rfl, _, rfl, ite2 (fun c0 => ?_) (fun c0 => ?_)⟩
            · refine ⟨_, rfl, Or.inl ⟨rfl, _, sqL_new e4⟩, _, rfl, _, _, rfl, rfl, q4, _, _, rfl, rfl, e4, by rw [natV_len]; exact small (by omega), ?_⟩
              have lt' : ∀ e ∈ es, e < n - 1 := fun e he => by
                have := lt e he
                have : e ≠ n - 1 := fun z => hm (z ▸ he)
                omega
              refine hN _ _ ⟨n, q4, es ++ [n - 1], rfl, n1, n4, fun c o hc e => ?_, Box.upd b6 nq4x, nq4x, nq4, ?_, fun e he => ?_, ?_, ?_⟩
              · rw [upd_ne (ne_of_none e nq4)]
                exact k6 _ _ hc e
              · rw [upd_same]
                unfold natV
                rw [List.map_append, List.map_singleton]
                dsimp only
                have : (n : Int) - 1 = ((n - 1 : Nat) : Int) := by omega
                rw [this]
              · rcases List.mem_append.mp he with z | z
                · exact lt e z
                · rw [List.mem_singleton.mp z]
                  omega
              · rw [List.pairwise_append]
                exact ⟨asc, List.pairwise_singleton _ _, fun e he y hy => by rw [List.mem_singleton.mp hy]; exact lt' e he⟩
              · rw [List.length_append, List.length_singleton]
                have := asc_len asc lt'
                omega
            · exact hN _ _ ⟨n, q4, es, rfl, n1, n4, k6, b6, nq4x, nq4, e4, lt, asc, ln⟩
      · refine ⟨_, ps_setLc (i := 4) (own := [("number", 8)]) (g := gName 8) rfl scLc.nd rfl rfl (sw_true rfl rfl rfl rfl) (pi_range1 (by rfl) N.range (pa_cons (pv 3) pa_nil)) (blkOk_by (own := [("number", 8)]) (N := nLc) (sc := defScope sLawCourse) (by decide +kernel)) (fun _ _ _ _ _ => (pg_name (i := 8) scLc.nd rfl (Or.inl rfl))) (fun _ _ _ _ _ => pts_one (pt_cmpR op_eq (pe_call G__law_take (hr.mono (by decide)) (by rfl) C__law_take.g C__law_take.kp C__law_take.b .nil pass0 (pa_cons (pv 0) (pa_cons (pe_ix (ixL_at (K := K) rfl) (pe_lst (pa_cons pe_int (pa_cons pe_int pa_nil))) (pe_callTy call_int1 (by rfl) N.int (by decide +kernel) (pa_cons (pe_cmpR op_gt (pv 8) pe_int (nomark _)) pa_nil)) (fun _ _ => rfl)) pa_nil))) pe_int (nomark _))) (fun _ _ _ _ _ => (pv 8)), fun N' hN σ Z h => ?_⟩
        obtain ⟨n, rfl, n1, n4, kZ, bZ⟩ := h
        refine ⟨_, rfl, _, rfl, by omega, by omega, fun D nD => ?_⟩
        have nDx := Box.ne bZ nD
        have nDH := kZ.free bZ nD
        have en : ((n : Int)).toNat = n := by omega
        rw [en]
        refine lc_it (walk_r0 (n := n)) (fun j G => ∃ es : List Nat, But x H G ∧ Box G x ∧ G D = some (.lst (natV es)) ∧ (∀ e ∈ es, e < j) ∧ es.Pairwise (· < ·) ∧ es.length ≤ j) ⟨[], kZ.trans (But.of (same_new nD)), Box.upd bZ nDx, upd_same, (fun e he => nomatch he), List.Pairwise.nil, Nat.le_refl _⟩ (fun _ _ _ _ => True.intro) (fun j z G G' hj h y => ?_) (fun G h => ?_)
        · obtain ⟨rfl, rfl⟩ := y
          obtain ⟨es, kG, bG, eG, lt, asc, ln⟩ := h
          refine ⟨rfl, _, rfl, smallE (by show 2 ≤ 1000000; decide), fun l nl2 => ?_⟩
          have sl := same_new (o := .lst [V.int 7, V.int 4]) nl2
          have el : upd G' l (.lst [V.int 7, V.int 4]) l = some (.lst [V.int 7, V.int 4]) := upd_same
          have kG := kG.trans (But.of sl)
          have bG2 := Box.upd (o := .lst [V.int 7, V.int 4]) bG (Box.ne bG nl2)
          have eG := sl _ _ eG
          generalize upd G' l (.lst [V.int 7, V.int 4]) = G2 at sl el kG bG2 eG
          have hat : ∃ m : Nat, 0 < m ∧ m ≤ 7 ∧ atI [V.int 7, V.int 4] (if decide ((0 : Int) < ((j : Nat) : Int)) = true then 1 else 0) = some (.int (m : Int)) := by
            by_cases h : decide ((0 : Int) < ((j : Nat) : Int)) = true
            · rw [if_pos h]
              exact ⟨4, by decide, by decide, rfl⟩
            · rw [if_neg h]
              exact ⟨7, by decide, by decide, rfl⟩
          obtain ⟨m, m0, m7, hm⟩ := hat
          refine ⟨_, rfl, _, _, rfl, rfl, .inr ⟨_, rfl, l, _, _, .int (m : Int), rfl, rfl, sqL_new el, hm, x, m, rfl, bG2, m0, by omega, fun r G3 hr3 k3 b3 => ?_⟩⟩
          have kG3 := kG.trans k3
          have eG3 := k3 _ _ nDx eG
          refine ⟨rfl, _, rfl, ite2 (fun c0 => ?_) (fun c0 => ?_)⟩
          · refine ⟨_, rfl, _, eG3, by rw [natV_len]; exact small (by omega), es ++ [j], fun c o hc e => ?_, Box.upd b3 nDx, ?_, fun e he => ?_, ?_, ?_⟩
            · rw [upd_ne (ne_of_none e nDH)]
              exact kG3 _ _ hc e
            · rw [upd_same]
              unfold natV
              rw [List.map_append]
              rfl
            · rcases List.mem_append.mp he with z | z
              · exact Nat.lt_succ_of_lt (lt e z)
              · rw [List.mem_singleton.mp z]
                exact Nat.lt_succ_self _
            · rw [List.pairwise_append]
              exact ⟨asc, List.pairwise_singleton _ _, fun e he y hy => by rw [List.mem_singleton.mp hy]; exact lt e he⟩
            · rw [List.length_append, List.length_singleton]
              omega
          · exact ⟨es, kG3, b3, eG3, fun e he => Nat.lt_succ_of_lt (lt e he), asc, by omega⟩
        · obtain ⟨es, kG, bG, eG, lt, asc, ln⟩ := h
          have flat : (natV es).all flatV = true := by
            unfold natV
            rw [List.all_map]
            exact List.all_eq_true.mpr fun _ _ => rfl
          exact hN _ _ ⟨n, D, es, rfl, n1, n4, kG, bG, nDx, nDH, eG, lt, asc, by omega⟩
    · refine ⟨_, ps_set (i := 3) scLc.nd rfl (Or.inl rfl) (pe_ifExp (pt_cmpR op_eq (pe_call G__law_take (hr.mono (by decide)) (by rfl) C__law_take.g C__law_take.kp C__law_take.b .nil pass0 (pa_cons (pv 0) (pa_cons pe_int pa_nil))) pe_int (nomark _)) pe_int (pe_op op_add pe_int (pe_call G__law_take (hr.mono (by decide)) (by rfl) C__law_take.g C__law_take.kp C__law_take.b .nil pass0 (pa_cons (pv 0) (pa_cons pe_int pa_nil))))), fun N' hN => ?_⟩
      refine ⟨_, rfl, x, 8, rfl, bx, by decide, by decide, fun r H1 hr1 k1 b1 => ⟨rfl, _, rfl, ite2 (fun c0 => ?_) (fun c0 => ?_)⟩⟩
      · exact hN _ _ ⟨1, rfl, Nat.le_refl _, by decide, k1, b1⟩
      · refine ⟨_, rfl, x, 2, rfl, b1, by decide, by decide, fun r2 H2 hr2 k2 b2 => ⟨_, _, rfl, rfl, hN _ _ ⟨2 + r2, rfl, by omega, by omega, k1.trans k2, b2⟩⟩⟩
end
end Kb
namespace Kb
open PySem PySem.Spec PyProof.Rows L2
/-! ### drawn books -/
def fiveL : List Str := ["main", "b", "order", "ab", "z"]
theorem five_names : ∀ d ∈ fiveL, isName d = true := by decide +kernel
theorem five_nd : fiveL.Nodup := by decide +kernel
theorem nStages_small : ∀ {cs : List CA} {m : Nat}, (∀ c ∈ cs, c.n ≤ m) → nStages cs ≤ m * cs.length
  | [], _, _ => Nat.zero_le _
  | c :: cs, m, h => by
    have ih := nStages_small (m := m) fun d hd => h d (List.mem_cons_of_mem _ hd)
    have h1 := h c List.mem_cons_self
    have e : nStages (c :: cs) = c.n + nStages cs := rfl
    rw [e, List.length_cons, Nat.mul_succ]
    omega
theorem dns_small : ∀ {cs : List CA} {m : Nat}, (∀ c ∈ cs, c.ss.length ≤ m) → (dns cs).length ≤ m * cs.length
  | [], _, _ => Nat.zero_le _
  | c :: cs, m, h => by
    have ih := dns_small (m := m) fun d hd => h d (List.mem_cons_of_mem _ hd)
    have h1 := h c List.mem_cons_self
    have h2 := dn_len c.ss
    have e : dns (c :: cs) = dn c.ss ++ dns cs := by unfold dns; rw [List.flatMap_cons]
    rw [e, List.length_append, List.length_cons, Nat.mul_succ]
    omega
/-- drawn courses make a book -/
theorem csOk_draw {names : List Str} {cs : List CA} (n0 : cs ≠ []) (n3 : cs.length ≤ 3) (e : cs.map (·.nm) = names) (nn : ∀ n ∈ names, isName n = true) (nd : names.Nodup) (h : ∀ c ∈ cs, CrsDraw names c.nm c) : CsOk cs where
  n8 := by omega
  n1 := n0
  ok := fun c hc => by
    have d := h c hc
    have mn : c.nm ∈ names := by
      rw [← e]
      exact List.mem_map.mpr ⟨c, hc, rfl⟩
    have n4 := d.n4
    refine ⟨nn _ mn, d.n0, by omega, d.el, d.asc, fun p hp => ?_, d.nd, by have := d.sz; omega, by have := asc_len d.asc d.el; omega⟩
    obtain ⟨b, hb, s⟩ := d.st p hp
    exact ⟨by rw [s.sn]; exact hb, s.so, s.name nn⟩
  nd := by rw [e]; exact nd
  cl := fun c hc x hx => by
    obtain ⟨p, hp, rfl⟩ := List.mem_map.mp hx
    obtain ⟨hp, hcall⟩ := List.mem_filter.mp hp
    obtain ⟨b, hb, s⟩ := (h c hc).st p hp
    rw [e]
    exact s.c hcall
  st := by
    have := nStages_small (m := 3) fun c hc => (h c hc).n4
    omega
  dz := by
    have := dns_small (m := 6) fun c hc => (h c hc).sz
    omega
  d12 := by
    have : (uniq (dns cs)).length ≤ deedsL.length := nd_le (uniq_nd _) fun x hx => by
      obtain ⟨c, hc, hx⟩ := List.mem_flatMap.mp ((mem_uniq _ _).mp hx)
      obtain ⟨p, hp, rfl⟩ := List.mem_map.mp hx
      obtain ⟨hp, hcall⟩ := List.mem_filter.mp hp
      obtain ⟨b, hb, s⟩ := (h c hc).st p hp
      exact s.d (by simpa using hcall)
    have h4 : deedsL.length = 3 := rfl
    omega
section
variable {P : Program} {w : World} {K : PySem.W.Frag} {mg : Str → Option Value} {base : Heap}
/-- a drawn book's courses -/
structure CsDraw (H : Hp) (a : Addr) (cs : List CA) : Prop where
  t : H a = some (.tup (cs.map fun c => V.ref c.a))
  c : ∀ c ∈ cs, DrawC H c
  ok : CsOk cs
  n2 : 2 ≤ cs.length
  n3 : cs.length ≤ 3
  n4 : ∀ c ∈ cs, c.n ≤ 3
  sz : ∀ c ∈ cs, c.ss.length ≤ 6
  nm : ∀ c ∈ cs, c.nm ∈ fiveL
  dd : ∀ d ∈ dns cs, d ∈ deedsL
theorem CsDraw.ts {H H' : Hp} {a : Addr} {cs : List CA} (s : TS H H') (h : CsDraw H a cs) : CsDraw H' a cs := ⟨s _ _ h.t, fun c hc => (h.c c hc).ts s, h.ok, h.n2, h.n3, h.n4, h.sz, h.nm, h.dd⟩
theorem CsDraw.at (K : PySem.W.Frag) {H : Hp} {a : Addr} {cs : List CA} (h : CsDraw H a cs) : CsAt K H a cs := ⟨sqT_new h.t, fun c hc => (h.c c hc).at K⟩
def spLawCourses : Sp := fun vs H Q _ => ∃ (x : Addr), vs = [.ref x] ∧ Box H x ∧ ∀ H' q cs, But x H H' → Box H' x → H q = none → CsDraw H' q cs → Q (.ref q) H'
abbrev nLx : List Str := ["box", "many", "names", "at"]
theorem scLx : FnScope nLx ["box"] (defScope sLawCourses) := ⟨rfl, rfl, rfl, by decide +kernel, rfl, by decide +kernel, by decide +kernel⟩
theorem ok_lawcourses {f fT fM fC : Addr} {fd fdT fdM fdC : FuncData} (F : Fun K "_law_courses" "_law_courses" sLawCourses f fd) (N : Nones mg) (G__law_take : FnOk P w K mg base CX0 1 fT fdT ["box", "many"] spTake) (C__law_take : CallC K mg "_law_take" ["box", "many"] fT fdT) (G__law_mixed : FnOk P w K mg base CX0 2 fM fdM ["box", "some"] (spLawMixed K)) (C__law_mixed : CallC K mg "_law_mixed" ["box", "some"] fM fdM)
    (G__law_course : FnOk P w K mg base CX0 4 fC fdC ["box", "names", "at"] spLawCourse) (C__law_course : CallC K mg "_law_course" ["box", "names", "at"] fC fdC) : FnOk P w K mg base CX0 5 f fd ["box"] spLawCourses := by
  refine F.ok scLx (fun vs H Q E h => ?_) (fun cdv A outer s0 H vs Q E hr h => ?_)
  · obtain ⟨x, rfl, _⟩ := h
    rfl
  · obtain ⟨x, rfl, bx, q⟩ := h
    refine ⟨_, pss_cons (ps_set (i := 1) scLx.nd rfl (Or.inl rfl) (pe_op op_sub pe_int (pe_op op_fdivN (pe_call G__law_take (hr.mono (by decide)) (by rfl) C__law_take.g C__law_take.kp C__law_take.b .nil pass0 (pa_cons (pv 0) (pa_cons pe_int pa_nil))) pe_int)))
      (pss_cons (ps_set (i := 2) scLx.nd rfl (Or.inr rfl) (pe_slice sl_list (pe_call G__law_mixed (hr.mono (by decide)) (by rfl) C__law_mixed.g C__law_mixed.kp C__law_mixed.b .nil pass0 (pa_cons (pv 0) (pa_cons (pe_lst (pa_cons pe_str (pa_cons pe_str (pa_cons pe_str (pa_cons pe_str (pa_cons pe_str pa_nil)))))) pa_nil))) po_none (po_some (pv 1))))
      (pss_one (ps_ret (pe_callTy call_tuple_of (by rfl) N.tuple (by decide +kernel) (pa_cons (pe_lc (own := [("at", 3)]) (g := gName 3) (tt := tYes) rfl scLx.nd (pi_range1 (by rfl) N.range (pa_cons (pv 1) pa_nil)) (blkOk_by (own := [("at", 3)]) (N := nLx) (sc := defScope sLawCourses) (by decide +kernel)) (fun _ _ _ _ _ => (pg_name (i := 3) scLx.nd rfl (Or.inl rfl))) (fun _ _ _ _ _ => pts_nil) (fun _ _ _ _ _ => (pe_call G__law_course (hr.mono (by decide)) (by rfl) C__law_course.g C__law_course.kp C__law_course.b .nil pass0 (pa_cons (pv 0) (pa_cons (pv 2) (pa_cons (pv 3) pa_nil)))))) pa_nil))))), ?_⟩
    refine ⟨_, rfl, x, 4, rfl, bx, by decide, by decide, fun r H1 hr1 k1 b1 => ?_⟩
    refine ⟨_, 2, rfl, rfl, ⟨by decide, by decide⟩, _, _, rfl, rfl, ?_⟩
    have em : ∃ m : Nat, 2 ≤ m ∧ m ≤ 3 ∧ (3 : Int) - (Int.fdiv (r : Int) 2) = (m : Int) := by
      have : r = 0 ∨ r = 1 ∨ r = 2 ∨ r = 3 := by omega
      rcases this with h | h | h | h <;> subst h
      · exact ⟨3, by decide, by decide, by decide⟩
      · exact ⟨3, by decide, by decide, by decide⟩
      · exact ⟨2, by decide, by decide, by decide⟩
      · exact ⟨2, by decide, by decide, by decide⟩
    obtain ⟨m, m2, m3, em⟩ := em
    dsimp only
    rw [em]
    refine ⟨_, rfl, smallE (by show 5 ≤ 1000000; decide), fun l nl => ?_⟩
    have sl := same_new (o := .lst (fiveL.map V.str)) nl
    have el : upd H1 l (.lst (fiveL.map V.str)) l = some (.lst (fiveL.map V.str)) := upd_same
    have b2 := Box.upd (o := .lst (fiveL.map V.str)) b1 (Box.ne b1 nl)
    have k2 := k1.trans (But.of sl)
    have nlx := Box.ne b1 nl
    refine ⟨x, l, fiveL.map V.str, rfl, b2, nlx, el, by decide, fun y hy => ?_, fun H3 qm ys k3 b3 nqm em3 pm => ?_⟩
    · obtain ⟨z, hz, rfl⟩ := List.mem_map.mp hy
      exact DV.str z (name_ok (five_names z hz))
    obtain ⟨ns, pns, rfl⟩ := perm_of_map pm fiveL rfl
    have kH3 := k2.trans k3
    dsimp only [tNoPart]
    refine ⟨_, rfl, (m : Int), rfl, qm, _, rfl, sqL_new em3, fun q2 nq2 => ?_⟩
    have l5 : ns.length = 5 := pns.length_eq
    have ecut : cutV (ns.map V.str) none (some (m : Int)) = (ns.take m).map V.str := by
      unfold cutV
      rw [HT.sIx_nat, HT.sIx_none, List.drop_zero, Nat.sub_zero, List.length_map, Nat.min_eq_left (by omega), List.map_take]
    rw [ecut]
    have s2 := same_new (o := .lst ((ns.take m).map V.str)) nq2
    have e2 : upd H3 q2 (.lst ((ns.take m).map V.str)) q2 = some (.lst ((ns.take m).map V.str)) := upd_same
    have b4 := Box.upd (o := .lst ((ns.take m).map V.str)) b3 (Box.ne b3 nq2)
    have n2x := Box.ne b3 nq2
    have k4 := kH3.trans (But.of s2)
    generalize upd H3 q2 (.lst ((ns.take m).map V.str)) = H4 at s2 e2 b4 k4
    have lt5 : (ns.take m).length = m := by rw [List.length_take]; omega
    have nmT : ∀ n ∈ ns.take m, n ∈ fiveL := fun n hn => pns.mem_iff.mp (List.mem_of_mem_take hn)
    have ndT : (ns.take m).Nodup := (pns.nodup_iff.mpr five_nd).sublist (List.take_sublist m ns)
    refine ⟨_, rfl, _, rfl, by omega, by omega, fun D nD => ?_⟩
    have nDx := Box.ne b4 nD
    have nDH := k4.free b4 nD
    have emt : ((m : Int)).toNat = m := by omega
    rw [emt]
    refine lc_it (walk_r0 (n := m)) (fun i G => ∃ L : List CA, But x H G ∧ Box G x ∧ G q2 = some (.lst ((ns.take m).map V.str)) ∧ G D = some (.lst (L.map fun c => V.ref c.a)) ∧ L.map (·.nm) = (ns.take m).take i ∧ ∀ c ∈ L, DrawC G c ∧ CrsDraw (ns.take m) c.nm c) ⟨[], k4.trans (But.of (same_new nD)), Box.upd b4 nDx, same_new nD _ _ e2, upd_same, rfl, fun c hc => nomatch hc⟩ (fun _ _ _ _ => True.intro) (fun i z G G' hi h y => ?_) (fun G h => ?_)
    · obtain ⟨rfl, rfl⟩ := y
      obtain ⟨L, kG, bG, eG2, eGD, kL, dL⟩ := h
      have hg : (ns.take m)[i]? = some ((ns.take m)[i]'(by omega)) := List.getElem?_eq_getElem _
      have lL : L.length ≤ 3 := by
        have := congrArg List.length kL
        rw [List.length_map, List.length_take] at this
        omega
      refine ⟨rfl, _, rfl, _, rfl, _, rfl, x, q2, ns.take m, i, _, rfl, bG, n2x, eG2, hg, by omega, fun n hn => five_names n (nmT n hn), fun H5 qc c k5 b5 nqc ec dr cd => ?_⟩
      have eD5 := k5 _ _ nDx eGD
      have ts5 := TS.but bG k5
      have tk : TS H5 (upd H5 D (.lst ((L.map fun c => V.ref c.a) ++ [.ref qc]))) := fun c xs e => by
        rw [upd_ne]
        · exact e
        · intro z
          rw [z, eD5] at e
          cases e
      have nD2 : D ≠ q2 := fun z => by
        rw [z, e2] at nD
        cases nD
      refine ⟨_, eD5, by rw [List.length_map]; exact small (by omega), L ++ [c], fun b o hb e => ?_, Box.upd b5 nDx, ?_, ?_, ?_, fun c' hc' => ?_⟩
      · rw [upd_ne (ne_of_none e nDH)]
        exact k5 _ _ hb (kG _ _ hb e)
      · rw [upd_ne nD2.symm]
        exact k5 _ _ n2x eG2
      · rw [upd_same, List.map_append, ← ec]
        rfl
      · rw [List.map_append, kL, take_of_get hg]
        congr 1
        show [c.nm] = _
        rw [cd.nm]
      · rcases List.mem_append.mp hc' with z | z
        · exact ⟨((dL c' z).1.ts ts5).ts tk, (dL c' z).2⟩
        · rw [List.mem_singleton.mp z]
          refine ⟨dr.ts tk, ?_⟩
          rw [cd.nm]
          exact cd
    · obtain ⟨L, kG, bG, eG2, eGD, kL, dL⟩ := h
      rw [List.take_of_length_le (by omega)] at kL
      have lL : L.length = m := by
        have := congrArg List.length kL
        rw [List.length_map] at this
        omega
      refine ⟨D, _, rfl, .inl ⟨sqL_new eGD, fun t nt => ?_⟩⟩
      have st := same_new (o := .tup (L.map fun c => V.ref c.a)) nt
      refine q _ t L (kG.trans (But.of st)) (Box.upd bG (Box.ne bG nt)) (kG.free bG nt) ⟨upd_same, fun c hc => (dL c hc).1.ts (TS.of st), csOk_draw (fun z => by rw [z] at lL; have : (0:Nat) = m := lL; omega) (by omega) kL (fun n hn => five_names n (nmT n hn)) ndT fun c hc => (dL c hc).2, by omega, by omega, fun c hc => (dL c hc).2.n4, fun c hc => (dL c hc).2.sz, fun c hc => ?_, fun d hd => ?_⟩
      · have : c.nm ∈ ns.take m := by
          rw [← kL]
          exact List.mem_map.mpr ⟨c, hc, rfl⟩
        exact nmT _ this
      · obtain ⟨c, hc, hx⟩ := List.mem_flatMap.mp hd
        obtain ⟨p, hp, rfl⟩ := List.mem_map.mp hx
        obtain ⟨hp, hcall⟩ := List.mem_filter.mp hp
        obtain ⟨b, hb, s⟩ := (dL c hc).2.st p hp
        exact s.d (by simpa using hcall)
end
end Kb
namespace Kb
open PySem PySem.Spec PyProof.Rows L2
/-! data of stages -/
def stgD (x : Stg) : PyData := .tuple [.str x.1, .int (x.2 : Int)]
theorem eqStg (a b : Stg) : PyData.eqv (stgD a) (stgD b) = decide (a = b) := by
  unfold stgD
  simp only [PyData.eqv, PyData.eqvAll, str_beq, Bool.and_true]
  cases a with | mk a1 a2 => cases b with | mk b1 b2 =>
  by_cases h1 : a1 = b1 <;> by_cases h2 : a2 = b2 <;> simp [h1, h2]
  omega
theorem stg_shaped {x : Stg} (h : isName x.1 = true) : SeqAt.shaped (stgD x) = true := by
  unfold SeqAt.shaped stgD
  simp [PyData.canLay0, PyData.canLayAll0, PyData.depth, PyData.depthAll, name_ok h]
theorem stg_depth (xs : List Stg) : PyData.depthAll (xs.map stgD) ≤ 1 := dep_le (fun a => by simp [stgD, PyData.depth, PyData.depthAll]) xs
theorem stg_lay {xs : List Stg} (h : ∀ x ∈ xs, isName x.1 = true) : PyData.canLayAll0 (xs.map stgD) = true := lay_all xs fun x hx => SeqAt.canLay_of_shaped (stg_shaped (h x hx))
theorem stg_all {xs : List Stg} (h : ∀ x ∈ xs, isName x.1 = true) : SeqAt.shaped (.list (xs.map stgD)) = true := by
  have d := stg_depth xs
  have l := stg_lay h
  unfold SeqAt.shaped
  simp only [PyData.canLay0, PyData.depth, l, Bool.true_and]
  exact decide_eq_true (by omega)
theorem stg_allT {xs : List Stg} (h : ∀ x ∈ xs, isName x.1 = true) : SeqAt.shaped (.tuple (xs.map stgD)) = true := by
  have d := stg_depth xs
  have l := stg_lay h
  unfold SeqAt.shaped
  simp only [PyData.canLay0, PyData.depth, l, Bool.true_and]
  exact decide_eq_true (by omega)
theorem dp_stg {K : PySem.W.Frag} {H : Hp} {a : Addr} {x : Stg} (h : H a = some (.tup (stV x))) : Dp K H (.ref a) (stgD x) := .tup (sqT_new h) (.cons (.str _) (.cons (.int _) .nil))
theorem dp_stgs {K : PySem.W.Frag} {H : Hp} : ∀ {L : List (Addr × Stg)}, (∀ p ∈ L, H p.1 = some (.tup (stV p.2))) → DpAll K H (L.map fun p => V.ref p.1) ((L.map (·.2)).map stgD)
  | [], _ => .nil
  | p :: L, h => .cons (dp_stg (h p List.mem_cons_self)) (dp_stgs fun q hq => h q (List.mem_cons_of_mem _ hq))
theorem any_stg (xs : List Stg) (x : Stg) : ((xs.map stgD).any fun z => PyData.eqv z (stgD x)) = decide (x ∈ xs) := by
  rw [List.any_map, Bool.eq_iff_iff, List.any_eq_true, decide_eq_true_iff]
  constructor
  · rintro ⟨z, hz, e⟩
    have e : PyData.eqv (stgD z) (stgD x) = true := e
    rw [eqStg] at e
    rw [← of_decide_eq_true e]
    exact hz
  · intro hz
    refine ⟨x, hz, ?_⟩
    show PyData.eqv (stgD x) (stgD x) = true
    rw [eqStg]
    exact decide_eq_true rfl
/-- an entry of the law's table as data -/
def elD (nm : Str) (x : EL) : PyData := .tuple [.tuple [.str (kindS x.s.call), .int (x.k : Int)], .tuple ((partsS nm x.s).map stgD), if x.s.call = true then .none else .str x.s.nm]
theorem dp_el {K : PySem.W.Frag} {H : Hp} {nm : Str} {x : EL} (h : ELAt H nm x) : Dp K H (.ref x.e) (elD nm x) := by
  obtain ⟨h1, h2, L, h3, h4, h5⟩ := h
  refine .tup (sqT_new h1) (.cons (.tup (sqT_new h2) (.cons (.str _) (.cons (.int _) .nil))) (.cons (.tup (sqT_new h3) ?_) (.cons ?_ .nil)))
  · rw [← h4]
    exact dp_stgs h5
  · unfold labV
    split
    · exact .non
    · exact .str _
theorem el_lay {nm : Str} {x : EL} (hn : isName nm = true) (hs : isName x.s.nm = true) : (elD nm x).canLay0 = true ∧ (elD nm x).depth ≤ 5 := by
  have hp : ∀ y ∈ partsS nm x.s, isName y.1 = true := fun y hy => by
    unfold partsS at hy
    split at hy
    · rcases List.mem_cons.mp hy with z | z
      · rw [z]; exact hs
      · rw [List.mem_singleton.mp z]; exact hn
    · rw [List.mem_singleton.mp hy]; exact hn
  have h1 := stg_lay hp
  have h2 := stg_depth (partsS nm x.s)
  unfold elD
  split
  · simp [PyData.canLay0, PyData.canLayAll0, PyData.depth, PyData.depthAll, kind_ok, h1]
    omega
  · simp [PyData.canLay0, PyData.canLayAll0, PyData.depth, PyData.depthAll, kind_ok, h1, name_ok hs]
    omega
theorem dp_els {K : PySem.W.Frag} {H : Hp} {nm : Str} : ∀ {L : List EL}, (∀ x ∈ L, ELAt H nm x) → DpAll K H (L.map fun x => V.ref x.e) (L.map (elD nm))
  | [], _ => .nil
  | x :: L, h => .cons (dp_el (h x List.mem_cons_self)) (dp_els fun y hy => h y (List.mem_cons_of_mem _ hy))
theorem el_all {nm : Str} {L : List EL} (hn : isName nm = true) (h : ∀ x ∈ L, isName x.s.nm = true) : SeqAt.shaped (.list (L.map (elD nm))) = true := by
  have l : PyData.canLayAll0 (L.map (elD nm)) = true := lay_all L fun x hx => (el_lay hn (h x hx)).1
  have d : PyData.depthAll (L.map (elD nm)) ≤ 5 := by
    clear l
    induction L with
    | nil => simp [PyData.depthAll]
    | cons x L ih =>
      have h1 := (el_lay hn (h x List.mem_cons_self)).2
      have h2 := ih fun y hy => h y (List.mem_cons_of_mem _ hy)
      rw [List.map_cons]
      simp only [PyData.depthAll]
      omega
  unfold SeqAt.shaped
  simp only [PyData.canLay0, PyData.depth, l, Bool.true_and]
  exact decide_eq_true (by omega)
/-! a pile: a tuple of stages, new or the frame's -/
def PtS (K : PySem.W.Frag) (H : Hp) (q : Addr) (xs : List Stg) : Prop := ∃ L : List (Addr × Stg), SqT K H q (L.map fun t => V.ref t.1) ∧ L.map (·.2) = xs ∧ ∀ t ∈ L, H t.1 = some (.tup (stV t.2))
theorem PtS.mono {K : PySem.W.Frag} {H H' : Hp} {q : Addr} {xs : List Stg} (s : Same H H') (h : PtS K H q xs) : PtS K H' q xs := let ⟨L, h1, h2, h3⟩ := h; ⟨L, Same.sqT s h1, h2, fun t ht => s _ _ (h3 t ht)⟩
theorem sqT_but {K : PySem.W.Frag} {H H' : Hp} {x q : Addr} {xs zs : List V} (hx : H x = some (.lst zs)) (k : But x H H') (h : SqT K H q xs) : SqT K H' q xs := by
  rcases h with (h | ⟨o, h⟩) | h
  · exact .inl (.inl (k _ _ (fun z => by rw [z, hx] at h; cases h) h))
  · exact .inl (.inr ⟨o, k _ _ (fun z => by rw [z, hx] at h; cases h) h⟩)
  · exact .inr h
theorem PtS.but {K : PySem.W.Frag} {H H' : Hp} {x q : Addr} {xs : List Stg} {zs : List V} (hx : H x = some (.lst zs)) (s : But x H H') (h : PtS K H q xs) : PtS K H' q xs := let ⟨L, h1, h2, h3⟩ := h; ⟨L, sqT_but hx s h1, h2, fun t ht => s _ _ (fun z => by have := h3 t ht; rw [z, hx] at this; cases this) (h3 t ht)⟩
theorem PtsAt.pts {K : PySem.W.Frag} {H : Hp} {q : Addr} {xs : List Stg} (h : PtsAt H q xs) : PtS K H q xs := let ⟨L, h1, h2, h3⟩ := h; ⟨L, sqT_new h1, h2, h3⟩
theorem PtS.cat {K : PySem.W.Frag} {H : Hp} {a b : Addr} {xs ys : List Stg} {Q : VK} (hx : PtS K H a xs) (hy : PtS K H b ys) (hl : xs.length + ys.length ≤ 100000) (q : ∀ H' p, Same H H' → PtS K H' p (xs ++ ys) → Q (.ref p) H') : rCatA K (.ref a) (.ref b) H Q := by
  obtain ⟨L, h1, rfl, h3⟩ := hx
  obtain ⟨M, g1, rfl, g3⟩ := hy
  refine catR h1 g1 (by rw [List.length_map, List.length_map]; rw [List.length_map, List.length_map] at hl; exact hl) fun H' p s hp => q H' p s ⟨L ++ M, ?_, by rw [List.map_append], fun t ht => ?_⟩
  · rw [List.map_append]
    exact hp
  · rcases List.mem_append.mp ht with z | z
    · exact s _ _ (h3 t z)
    · exact s _ _ (g3 t z)
theorem PtS.drop {K : PySem.W.Frag} {H : Hp} {a : Addr} {xs : List Stg} {Q : VK} (hx : PtS K H a xs) (q : ∀ H' p, Same H H' → PtS K H' p (xs.drop 1) → Q (.ref p) H') : rSlA K (.ref a) (some 1) none H Q := by
  obtain ⟨L, h1, rfl, h3⟩ := hx
  refine slR_drop (j := 1) h1 fun H' p s hp => q H' p s ⟨L.drop 1, ?_, by rw [List.map_drop], fun t ht => s _ _ (h3 t (List.mem_of_mem_drop ht))⟩
  rw [List.map_drop]
  exact hp
theorem PtS.dp {K : PySem.W.Frag} {H : Hp} {a : Addr} {xs : List Stg} (h : PtS K H a xs) : Dp K H (.ref a) (.tuple (xs.map stgD)) := by
  obtain ⟨L, h1, rfl, h3⟩ := h
  exact .tup h1 (dp_stgs h3)
theorem eqv_nil (xs : List Stg) : PyData.eqv (.tuple (xs.map stgD)) (.tuple []) = decide (xs = []) := by
  cases xs with
  | nil => decide +kernel
  | cons x xs => simp [PyData.eqv, PyData.eqvAll]
/-! the law's table -/
theorem leavTo_mem {ss : List (Addr × Stp)} {j : Nat} : ∀ {m k : Nat} {s : Stp}, (k, s) ∈ leavTo ss m j ↔ k < m ∧ ∃ a, ss[k]? = some (a, s) ∧ s.n = j
  | 0, k, s => ⟨fun h => (nomatch h), fun h => absurd h.1 (Nat.not_lt_zero _)⟩
  | m + 1, k, s => by
    have ih := leavTo_mem (ss := ss) (j := j) (m := m) (k := k) (s := s)
    cases e : ss[m]? with
    | none =>
      have e2 : leavTo ss (m + 1) j = leavTo ss m j := by rw [leavTo, e]; exact List.append_nil _
      rw [e2, ih]
      refine ⟨fun h => ⟨by omega, h.2⟩, fun h => ⟨?_, h.2⟩⟩
      obtain ⟨h1, a, h2, _⟩ := h
      by_cases z : k = m
      · rw [z, e] at h2
        cases h2
      · omega
    | some p =>
      rw [leavTo_succ e, List.mem_append, ih]
      constructor
      · rintro (h | h)
        · exact ⟨by omega, h.2⟩
        · split at h
          · rename_i hn
            have h := List.mem_singleton.mp h
            cases h
            exact ⟨by omega, p.1, e, hn⟩
          · exact nomatch h
      · rintro ⟨h1, a, h2, h3⟩
        by_cases z : k = m
        · subst z
          rw [e] at h2
          cases h2
          refine .inr ?_
          have h3 : s.n = j := h3
          rw [if_pos h3]
          exact List.mem_singleton.mpr rfl
        · exact .inl ⟨by omega, a, h2, h3⟩
theorem leavTo_nd {ss : List (Addr × Stp)} {j : Nat} : ∀ m, ((leavTo ss m j).map (·.1)).Nodup
  | 0 => List.nodup_nil
  | m + 1 => by
    have ih := leavTo_nd (ss := ss) (j := j) m
    cases e : ss[m]? with
    | none =>
      have e2 : leavTo ss (m + 1) j = leavTo ss m j := by rw [leavTo, e]; exact List.append_nil _
      rw [e2]
      exact ih
    | some p =>
      rw [leavTo_succ e, List.map_append]
      split
      · refine List.nodup_append.mpr ⟨ih, List.pairwise_singleton _ _, fun a ha b hb ee => ?_⟩
        have hb : b = m := List.mem_singleton.mp hb
        obtain ⟨y, hy, ey⟩ := List.mem_map.mp ha
        have hy : (y.1, y.2) ∈ leavTo ss m j := hy
        have := (leavTo_mem.mp hy).1
        have ey : y.1 = a := ey
        omega
      · rw [List.map_nil, List.append_nil]
        exact ih
/-- the row of a stage in the law's table -/
theorem leav_row {H : Hp} {q : Addr} {cs : List CA} (ok : CsOk cs) (h : LeavAt H q cs) {x : Stg} (hx : x ∈ stagesS cs) : ∃ (kvs : List (List L2.Key × V)) (l : Addr) (E : List EL), H q = some (.dT kvs) ∧ valV kvs (stK x) = some (.ref l) ∧ H l = some (.lst (E.map fun y => V.ref y.e)) ∧ (∀ y ∈ E, ELAt H x.1 y) ∧ (E.map (·.k)).Nodup ∧ E.length ≤ 1000 ∧
    (∀ y ∈ E, y.s.n = x.2 ∧ (x.1, y.s) ∈ linesS cs ∧ ∃ c ∈ cs, x.1 = c.nm ∧ ∃ a, c.ss[y.k]? = some (a, y.s)) ∧ ∀ c ∈ cs, x.1 = c.nm → ∀ (k : Nat) a s, c.ss[k]? = some (a, s) → s.n = x.2 → ∃ y ∈ E, y.k = k ∧ y.s = s := by
  obtain ⟨M, m1, m2, m3, m4⟩ := h
  obtain ⟨c, mc, n1, n2⟩ := mem_stagesS.mp hx
  have mst : x ∈ M.map (·.1) := by
    rw [m2]
    unfold stagesOf
    exact List.mem_flatMap.mpr ⟨c, mc, List.mem_map.mpr ⟨x.2, List.mem_range.mpr n2, by rw [← n1]⟩⟩
  obtain ⟨u, hu, eu⟩ := List.mem_map.mp mst
  have eu : u.1 = x := eu
  have kn : ((trL M).map (·.1)).Nodup := by
    rw [trL_keys, m2]
    exact stK_nd (stagesOf_nd ok.nd)
  have hv : valV (kvT (trL M)) (stK x) = some (.ref u.2.1) := valV_mem (by rw [kvT_keys]; exact kn) (List.mem_map.mpr ⟨(stK u.1, u.2.1, u.2.2.map fun x => V.ref x.e), List.mem_map.mpr ⟨u, hu, rfl⟩, by rw [eu]⟩)
  obtain ⟨i, hi⟩ := List.getElem?_of_mem mc
  have eks := m4.full u hu i c hi (by rw [eu, n1])
  rw [if_pos (lt_of_get hi), eu] at eks
  have snd := m4.sound u hu
  rw [eu] at snd
  have nd := leavTo_nd (ss := c.ss) (j := x.2) c.ss.length
  rw [← eks] at nd
  unfold ksL at nd eks
  rw [List.map_map] at nd
  have at_ : ∀ y ∈ u.2.2, (y.k, y.s) ∈ leavTo c.ss c.ss.length x.2 := fun y hy => by
    rw [← eks]
    exact List.mem_map.mpr ⟨y, hy, rfl⟩
  refine ⟨_, u.2.1, u.2.2, m1, hv, m3 u hu, snd, nd, ?_, fun y hy => ?_, fun c' mc' n' k a s hs hn => ?_⟩
  · have h1 := nd_le (m := List.range c.ss.length) nd fun k hk => by
      obtain ⟨y, hy, ey⟩ := List.mem_map.mp hk
      have ey : y.k = k := ey
      rw [← ey]
      exact List.mem_range.mpr (leavTo_mem.mp (at_ y hy)).1
    have h2 := (ok.ok c mc).sz
    rw [List.length_map, List.length_range] at h1
    omega
  · obtain ⟨_, a, h2, h3⟩ := leavTo_mem.mp (at_ y hy)
    exact ⟨h3, mem_linesS.mpr ⟨c, mc, (a, y.s), List.mem_of_getElem? h2, by rw [n1]⟩, c, mc, n1, a, h2⟩
  · have := same_course ok.nd mc' mc (n'.symm.trans n1)
    subst this
    have h1 : (k, s) ∈ leavTo c'.ss c'.ss.length x.2 := leavTo_mem.mpr ⟨lt_of_get hs, a, hs, hn⟩
    rw [← eks] at h1
    obtain ⟨y, hy, ey⟩ := List.mem_map.mp h1
    exact ⟨y, hy, congrArg Prod.fst ey, congrArg Prod.snd ey⟩
/-! ways and moves as data -/
def wyD : Option Nat → PyData
  | none => .tuple [.str "end"]
  | some k => .tuple [.str "step", .int (k : Int)]
theorem dp_wy {K : PySem.W.Frag} {H : Hp} {a : Addr} {W : Option Nat} (h : H a = some (.tup (wayV W))) : Dp K H (.ref a) (wyD W) := by
  cases W with
  | none => exact .tup (sqT_new h) (.cons (.str _) .nil)
  | some k => exact .tup (sqT_new h) (.cons (.str _) (.cons (.int _) .nil))
theorem wyD_shaped (W : Option Nat) : SeqAt.shaped (wyD W) = true := by
  cases W with
  | none => decide +kernel
  | some k =>
    have h : PyData.strOk "step" = true := by decide +kernel
    unfold SeqAt.shaped wyD
    simp [PyData.canLay0, PyData.canLayAll0, PyData.depth, PyData.depthAll, h]
theorem eqv_wy (W : Option Nat) (k : Nat) : PyData.eqv (wyD W) (wyD (some k)) = decide (W = some k) := by
  cases W with
  | none => simp [wyD, PyData.eqv, PyData.eqvAll]
  | some j =>
    by_cases h : j = k
    · subst h
      simp [wyD, PyData.eqv, PyData.eqvAll]
    · have h2 : ¬ (j : Int) = (k : Int) := by omega
      simp [wyD, PyData.eqv, PyData.eqvAll, h]
      exact h2
end Kb
/-! sorted(t), t a tuple of texts. -/
namespace Ka
open PySem PySem.Spec PyProof.Rows L2
section
variable {prog : Program} {w : World} {A : Around} {E : Value → Shared → Prop} {s : Shared}
theorem sorted_tupS {a : Addr} {vs : List Value} {ss : List Str} {Q : Value → Shared → Prop} {o : Obj} {n : Nat} (ho : s.heap.get? a = some o) (hc : o.cls = .type "tuple") (hd : o.data = .seq vs.toArray n) (hS : StrsAre vs ss) (h64 : vs.length < 64)
    (h : ∀ (h1 h2 : Heap) (out : Array Value) (ss' : List Str) (e : Nat), (∀ b o, s.heap.get? b = some o → h1.get? b = some o) → (∀ b o, h1.get? b = some o → h2.get? b = some o) → h2.get? h1.objs.size = some (seqObj "list" out e) → StrsAre out.toList ss' → ss'.Perm ss → sortedS ss' = true →
      Q (.ref h1.objs.size) { s with heap := h2 }) : wpAny (model prog w) A (call (.builtin "sorted") [.ref a]) Q E s := by
  have hsz : vs.toArray.size ≤ sizeLine := by
    rw [List.size_toArray]
    exact small64 h64
  refine Calls.call_function_entry kind_sorted plain_sorted entry_sorted (args_sorted1 _) ?_
  unfold Builtin.«sorted»
  refine wpAny_bind (m := checkCount "sorted" 1 1 _) (wpAny_pure ?_)
  refine wpAny_bind (wpAny_collect_seq a (.inr rfl) ho hc hd (fun h1 k1 => ?_) hsz)
  refine wpAny_bind (wpAny_newList ?_ (by simpa using hsz))
  have hoL : (h1.push (seqObj "list" vs.toArray 0)).get? h1.objs.size = some (seqObj "list" vs.toArray 0) := Heap.get?_push_size _ rfl
  show wpAny _ _ _ _ _ { s with heap := h1.push (seqObj "list" vs.toArray 0) }
  refine wpAny_bind (wpAny_holding (wpAny_call_entry slot_list_sort ⟨_, hoL, rfl⟩ entry_list_sort (list_sort_treeK strKind_oneLt hoL hS.keysOf (fun v₁ v₂ rest e => keyKind_strs (by rw [← e]; exact hS)) h64 fun st' hp hs => ⟨_, rfl, ?_⟩) (args_list_sort _)))
  obtain ⟨ss', e1, e2, e3⟩ := sorted_out_str hS hp hs
  obtain ⟨e, he⟩ := sortedHeap_at (out := (arrOf st').map (·.2)) hoL
  refine wpAny_pure ⟨_, rfl, h h1 _ _ ss' e k1 (fun b o hb => ?_) he e1 e2 e3⟩
  have hlt := Heap.lt_size hb
  rw [sortedHeap_old (Nat.ne_of_lt hlt) (by rw [size_push']; exact Nat.lt_succ_of_lt hlt)]
  exact Heap.get?_push_of_some _ hb
end
def rSortedT (K : PySem.W.Frag) : List V → Hp → VK → Prop := fun vs H Q => ∃ (a : Addr) (xs : List Str), vs = [V.ref a] ∧ SqT K H a (xs.map V.str) ∧ xs.length < 64 ∧
  ∀ (ys : List Str) (p : Addr), ys.Perm xs → sortedS ys = true → H p = none → Q (.ref p) (upd H p (.lst (ys.map V.str)))
theorem cr_sortedT {X : Cx} : CallR X (.builtin "sorted") (rSortedT X.K) := by
  intro pins s σ H vs us Q I r h
  obtain ⟨a, xs, rfl, hs, h64, q⟩ := h
  obtain ⟨its, rv, ht, _⟩ := I.tuple hs
  rw [Vals.ref1 r]
  have hlen0 := rv.length
  rw [List.length_map] at hlen0
  obtain ⟨o, ho, hc, n, hd⟩ := ht
  refine sorted_tupS ho hc hd rv.strs (by rw [← hlen0]; exact h64) fun h1 h2 out ys e k1 k2 he e1 e2 e3 => ?_
  have hlen : (ys.map V.str).length ≤ sizeLine := by rw [List.length_map, e2.length_eq]; exact small64 h64
  have I1 : Inv X pins σ H { s with heap := h1, toks := s.toks } := I.kept k1
  exact ⟨.ref h1.objs.size, upd H h1.objs.size (.lst (ys.map V.str)), I1.laid (t' := s.toks) k2 (Nat.le_refl _) ⟨hlen, out.toList, e, vals_of_strs e1, he⟩, rfl, q ys _ e2 e3 (I1.hok.fresh (Nat.le_refl _))⟩
end Ka
/-! sorted(set(t)), t a tuple of texts. -/
namespace Ka
open PySem PySem.Spec PyProof.Rows L2
/-- just the texts of L, each once -/
def Of (es : List (Int × Value)) (L : List Str) : Prop := (∀ x : Str, x ∈ L ↔ ∃ e ∈ es, ∃ t, e.2 = .str x t) ∧ es.Pairwise (fun e f => ∀ x t u, e.2 = .str x t → f.2 = .str x u → False) ∧ es.length ≤ L.length
theorem Of.perm {es fs : List (Int × Value)} {L : List Str} (h : Of es L) (p : fs.Perm es) : Of fs L := by
  refine ⟨fun x => (h.1 x).trans ⟨fun ⟨e, he, t⟩ => ⟨e, p.mem_iff.mpr he, t⟩, fun ⟨e, he, t⟩ => ⟨e, p.mem_iff.mp he, t⟩⟩, ?_, by rw [p.length_eq]; exact h.2.2⟩
  exact (p.pairwise_iff fun {a b} hab x t u e1 e2 => hab x u t e2 e1).mpr h.2.1
theorem Of.there {es : List (Int × Value)} {L : List Str} (h : Of es L) {x : Str} {e : Int × Value} {t : Tok} (he : e ∈ es) (ee : e.2 = .str x t) : Of es (L ++ [x]) := by
  refine ⟨fun y => ?_, h.2.1, by rw [List.length_append]; exact Nat.le_trans h.2.2 (Nat.le_add_right _ _)⟩
  rw [List.mem_append, List.mem_singleton]
  refine ⟨fun z => z.elim (fun z => (h.1 y).mp z) fun z => ⟨e, he, t, by rw [z]; exact ee⟩, fun z => .inl ((h.1 y).mpr z)⟩
theorem Of.add {es : List (Int × Value)} {L : List Str} (h : Of es L) {x : Str} {k : Int} {t : Tok} (no : ∀ e ∈ es, ∀ u, e.2 ≠ .str x u) : Of (es ++ [(k, .str x t)]) (L ++ [x]) := by
  refine ⟨fun y => ?_, ?_, by rw [List.length_append, List.length_append]; exact Nat.add_le_add_right h.2.2 _⟩
  · rw [List.mem_append, List.mem_singleton]
    constructor
    · rintro (z | rfl)
      · obtain ⟨e, he, u, hu⟩ := (h.1 y).mp z
        exact ⟨e, List.mem_append_left _ he, u, hu⟩
      · exact ⟨_, List.mem_append_right _ List.mem_cons_self, t, rfl⟩
    · rintro ⟨e, he, u, hu⟩
      rcases List.mem_append.mp he with z | z
      · exact .inl ((h.1 y).mpr ⟨e, z, u, hu⟩)
      · rw [List.mem_singleton.mp z] at hu
        cases hu
        exact .inr rfl
  · rw [List.pairwise_append]
    refine ⟨h.2.1, List.pairwise_singleton _ _, fun e he f hf y t' u e1 e2 => ?_⟩
    rw [List.mem_singleton.mp hf] at e2
    cases e2
    exact no e he _ e1
/-- a set of just the texts of L at a; its table rises -/
def SetM (P : Program) (w : World) (h : Heap) (a : Addr) (L : List Str) : Prop :=
  ∃ ob es ep tb, h.get? a = some ob ∧ ob.ExactSet ∧ ob.data = .set es ep tb ∧ ElemsOf (strKind P w) es.toList ∧ Of es.toList L ∧ es.size < scanBound ∧ tb.fits es.size = true ∧ Ris tb.place.toList ∧ (w.params.followText "set-order" = true ∨ tb.led = true)
theorem SetM.up {P : Program} {w : World} {h h' : Heap} {a : Addr} {m : List Str} (S : SetM P w h a m) (k : ∀ o, h.get? a = some o → h'.get? a = some o) : SetM P w h' a m := by
  obtain ⟨ob, es, ep, tb, z, rest⟩ := S
  exact ⟨ob, es, ep, tb, k _ z, rest⟩
section
variable {P : Program} {w : World} {A : Around} {E : Value → Shared → Prop} {s : Shared} {a : Addr} {m : List Str}
theorem setM_tail {gv : Bool → Sem Unit} (hgv : ∀ (b : Bool) (s1 : Shared) (Z : Unit → Shared → Prop), Z () s1 → wpAny (model P w) A (gv b) Z E s1) {ob : Obj} {es : Array (Int × Value)} {ep : Nat} {tb : SetTable} (z0 : s.heap.get? a = some ob) (zx : ob.ExactSet) (zd : ob.data = .set es ep tb)
    {es1 : Array (Int × Value)} {tb2 : SetTable} (el1 : ElemsOf (strKind P w) es1.toList) (m1 : Of es1.toList m) (b1 : es1.size < scanBound) (f2 : tb2.fits es1.size = true) (r2 : Ris tb2.place.toList) (l2 : w.params.followText "set-order" = true ∨ tb2.led = true) {was : Bool} {R : Option Bool → Shared → Prop}
    (fin : ∀ h2, Heap.SameBut a s.heap h2 → SetM P w h2 a m → R (some true) { s with heap := h2 }) :
    wpAny (model P w) A (do
        storeSet a es1 tb2
        if (!was && tb2.tooFull) = true then do
            gv (relayAll tb2 es1 (SetTable.grown es1.size)).2.2
            storeSet a (relayAll tb2 es1 (SetTable.grown es1.size)).1 (relayAll tb2 es1 (SetTable.grown es1.size)).2.1
            pure (some true)
          else pure (some true)) R E s := by
  refine wpAny_bind (wpAny_storeSet_of z0 zd ?_ (fits_of_scanBound b1))
  have z1 := store_at (es' := es1) (t' := tb2) z0 zd
  have same1 := Heap.SameBut.update s.heap a (Obj.putSet es1 tb2)
  split
  · have q1 := relayAll_perm tb2 es1 (SetTable.grown es1.size)
    have q2 := relayAll_fits tb2 es1 (SetTable.grown es1.size)
    have q3 := relayAll_ris tb2 es1 (SetTable.grown es1.size)
    have q4 := relayAll_led tb2 es1 (SetTable.grown es1.size)
    generalize relayAll tb2 es1 (SetTable.grown es1.size) = Y at q1 q2 q3 q4 ⊢
    obtain ⟨es2, tb3, gave⟩ := Y
    dsimp only at q1 q2 q3 q4 ⊢
    have size2 : es2.size = es1.size := by rw [← Array.length_toList, q1.length_eq, Array.length_toList]
    refine wpAny_bind (hgv _ _ _ ?_)
    refine wpAny_bind (wpAny_storeSet_of z1 rfl ?_ (fits_of_scanBound (by rw [size2]; exact b1)))
    have z2 := store_at (es' := es2) (t' := tb3) z1 rfl
    refine wpAny_pure (fin _ (same1.trans (Heap.SameBut.update _ a _)) ⟨_, es2, _, tb3, z2, zx, rfl, el1.perm q1, m1.perm q1, by rw [size2]; exact b1, q2, q3, l2.imp id fun y => by rw [q4]; exact y⟩)
  · exact wpAny_pure (fin _ same1 ⟨_, es1, _, tb2, z1, zx, rfl, el1, m1, b1, f2, r2, l2⟩)
theorem setM_add {x : Str} {tk : Tok} {Q : Bool → Shared → Prop} (S : SetM P w s.heap a m) (room : m.length + 1 < scanBound) (fin : ∀ (b : Bool) (h2 : Heap), Heap.SameBut a s.heap h2 → SetM P w h2 a (m ++ [x]) → Q b { s with heap := h2 }) :
    wpAny (model P w) A (setAddHashed a (.str x tk) ((strKind P w).hash x)) Q E s := by
  obtain ⟨ob, es, ep, tb, z0, zx, zd, el, me, bo, fi, ri, le⟩ := S
  have ky : (strKind P w).is x (.str x tk) = true := strKind_is P w x tk
  have scn : (Value.str x tk).scannable = true := rfl
  unfold setAddHashed setAddHashedIn
  refine wpAny_holding (wpAny_bind (wpAny_setState_of z0 zd fi ?_))
  dsimp only
  rw [byScan_of scn bo el]
  simp only [↓reduceIte]
  unfold setAddByScan
  refine wpAny_bind (wpAny_bind (wpAny_rule (wpAny_bind (wpAny_setScan_of ky z0 zd fi el ?_))))
  cases found : List.findIdx? (fun e => (strKind P w).is x e.2) es.toList with
  | some j =>
    dsimp only
    obtain ⟨hj, hx, _⟩ := List.findIdx?_eq_some_iff_getElem.mp found
    obtain ⟨t, ht⟩ := Value.isStrOf_shape hx
    exact wpAny_pure (wpAny_pure (fin _ s.heap (Heap.SameBut.refl a s.heap) ⟨ob, es, ep, tb, z0, zx, zd, el, me.there (List.getElem_mem hj) ht, bo, fi, ri, le⟩))
  | none =>
    dsimp only
    have told : ∀ (b : Bool) {s1 : Shared} {Z : Unit → Shared → Prop}, Z () s1 → wpAny (model P w) A (match b with | true => rule "set.scan.the-table-gave-way" | false => pure ()) Z E s1 := fun b s1 Z y => by
      cases b
      · exact wpAny_pure y
      · exact wpAny_rule y
    have q1 := layNew_perm tb es ((strKind P w).hash x) (.str x tk)
    have q2 := layNew_fits tb es ((strKind P w).hash x) (.str x tk)
    have q3 := layNew_ris tb es ((strKind P w).hash x) (.str x tk) ri
    have q4 := layNew_led tb es ((strKind P w).hash x) (.str x tk)
    generalize layNew tb es ((strKind P w).hash x) (.str x tk) = Y at q1 q2 q3 q4 ⊢
    obtain ⟨es1, tb1, was, gave⟩ := Y
    dsimp only at q1 q2 q3 q4 ⊢
    rw [Array.toList_push] at q1
    have el1 : ElemsOf (strKind P w) es1.toList := (el.push ky scn).perm q1
    have size1 : es1.size = es.size + 1 := by rw [← Array.length_toList, q1.length_eq, List.length_append, Array.length_toList]; rfl
    have no : ∀ e ∈ es.toList, ∀ u, e.2 ≠ .str x u := fun e he u ee => by
      have := List.findIdx?_eq_none_iff.mp found e he
      rw [ee, strKind_is] at this
      cases this
    have m1 : Of es1.toList (m ++ [x]) := (me.add no).perm q1
    have few := me.2.2
    rw [Array.length_toList] at few
    have b1 : es1.size < scanBound := by omega
    have le1 : w.params.followText "set-order" = true ∨ tb1.led = true := le.imp id fun y => by rw [q4]; exact y
    refine wpAny_bind (told _ ?_)
    split
    · refine wpAny_bind ?_
      rw [hashByValue_scannable 8 scn]
      refine wpAny_pure ?_
      refine setM_tail (m := m ++ [x]) ?_ z0 zx zd el1 m1 b1 ?_ ?_ ?_ ?_
      · intro b s1 Z y
        cases b
        · exact wpAny_pure y
        · exact wpAny_rule y
      · split
        · exact q2
        · exact SetTable.fits_plain_off q2
      · split <;> exact q3
      · split <;> exact le1
      · intro h2 sb S2
        dsimp only
        exact wpAny_pure (fin _ h2 sb S2)
    · refine wpAny_bind (wpAny_pure ?_)
      simp only [↓reduceIte]
      refine setM_tail (m := m ++ [x]) ?_ z0 zx zd el1 m1 b1 q2 q3 le1 ?_
      · intro b s1 Z y
        cases b
        · exact wpAny_pure y
        · exact wpAny_rule y
      · intro h2 sb S2
        dsimp only
        exact wpAny_pure (fin _ h2 sb S2)
theorem setM_new {h : Heap} (z : h.get? a = some { cls := .type "set", dict := none, data := .set #[] 0 (.fresh 0 0 (!w.params.followText "set-order")) }) : SetM P w h a [] := by
  refine ⟨_, #[], 0, _, z, ⟨rfl, rfl, rfl⟩, rfl, (fun e he => by simp at he), ⟨fun x => ⟨(fun q => nomatch q), (fun ⟨e, he, _⟩ => by simp at he)⟩, List.Pairwise.nil, Nat.le_refl _⟩, (by decide), (by rfl), List.Pairwise.nil, ?_⟩
  show _ ∨ (!w.params.followText "set-order") = true
  cases w.params.followText "set-order"
  · exact .inr rfl
  · exact .inl rfl
theorem setM_loop {I : Addr} {fp wr : List Addr} {G : Array GenState → Array GenState → Prop} {n : Nat} {Pv : Nat → Value → Prop} {St : Nat → Shared → Prop} {R : Result → Shared → Prop} (W : WalksS P w A.in1 I fp wr G n Pv St) (D : Addr) (hD : D ∉ fp) (hb : n + 1 < scanBound) (xs : List Str) (hn : xs.length = n) (txt : ∀ i v, Pv i v → ∃ x tk, v = .str x tk ∧ xs[i]? = some x)
    (out : ∀ s2, Moved (D :: wr) G s s2 → SetM P w s2.heap D xs → R (.ok (.ret .none)) s2) (st0 : St 0 s) (S0 : SetM P w s.heap D []) : codeAny (model P w) A (.builtin "set.update.loop" ⟨[.ref D, .ref I], []⟩) R s := by
  have hDw : D ∉ wr := fun z => hD (W.sub _ z)
  have more : ∀ b ∈ wr, b ∈ D :: wr := fun b z => List.mem_cons_of_mem _ z
  suffices H : ∀ (k i : Nat) (s1 : Shared), n - i = k → i ≤ n → Moved (D :: wr) G s s1 → St i s1 → SetM P w s1.heap D (xs.take i) → codeAny (model P w) A (.builtin "set.update.loop" ⟨[.ref D, .ref I], []⟩) R s1 from H (n - 0) 0 s rfl (Nat.zero_le _) (Moved.refl W.grefl) st0 S0
  intro k
  induction k with
  | zero =>
    intro i s1 hk hi mv st S1
    obtain rfl : i = n := by omega
    rw [← hn, List.take_length] at S1
    refine codeAny_builtin F.entry_set_update_loop ?_
    rw [Around.under_plainId F.plain_set_update_loop _]
    show wpAny _ A.in1 (pyNext (.ref I) >>= _) _ _ s1
    refine wpAny_bind (W.done s1 _ _ st fun s2 m2 => ?_)
    show wpAny _ A.in1 (ret Value.none) _ _ s2
    exact wpAny_pure (out s2 (Moved.trans W.gtrans mv (m2.mono more)) (S1.up fun o e => m2.heap D o hDw e))
  | succ k ih =>
    intro i s1 hk hi mv st S1
    have lt : i < n := by omega
    refine codeAny_builtin F.entry_set_update_loop ?_
    rw [Around.under_plainId F.plain_set_update_loop _]
    show wpAny _ A.in1 (pyNext (.ref I) >>= _) _ _ s1
    refine wpAny_bind (W.item i s1 _ _ lt st fun v s2 pv st2 m2 => ?_)
    obtain ⟨x, tk, rfl, hx⟩ := txt i v pv
    have S2 : SetM P w s2.heap D (xs.take i) := S1.up fun o e => m2.heap D o hDw e
    show wpAny _ A.in1 (holding [Value.str x tk] (setAdd D (.str x tk)) >>= _) _ _ s2
    refine wpAny_bind (wpAny_holding ?_)
    unfold setAdd
    refine wpAny_holding (wpAny_bind ((strKind P w).pyHash (k := x) (strKind_is _ _ _ _) ?_))
    refine setM_add (s := { s2 with toks := s2.toks + 1 }) S2 (by rw [List.length_take]; omega) fun b h2 sb S3 => ?_
    have S3 : SetM P w h2 D (xs.take (i + 1)) := by
      rw [List.take_add_one, hx]
      exact S3
    refine wpAny_pure ⟨plainId_quiet F.plain_set_update_loop _, ih (i + 1) _ (by omega) lt ?_ (W.frame _ s2 _ _ st2 (Nat.le_succ _) fun c hc o e => ?_) S3⟩
    · refine Moved.trans W.gtrans mv ((m2.mono more).then_heap (Nat.le_succ _) fun c o hc e => ?_)
      rw [sb.2 c (fun z => hc (by rw [z]; exact List.mem_cons_self))]
      exact e
    · rw [sb.2 c (fun z => hD (by rw [← z]; exact hc))]
      exact e
/-- what set() makes first -/
def bareM (w : World) : Obj := { cls := .type "set", dict := none, data := .set #[] 0 (.fresh 0 0 (!w.params.followText "set-order")) }
theorem strsAtM {vs : List Value} {xs : List Str} (h : StrsAre vs xs) : ∀ (i : Nat) (v : Value), vs[i]? = some v → ∃ x tk, v = .str x tk ∧ xs[i]? = some x := fun i v e => by
  obtain ⟨tk, z⟩ := SS.strs_at h i v e
  have hl := PyProof.Rows.StrsAre.length h
  obtain ⟨hi, _⟩ := List.getElem?_eq_some_iff.mp e
  refine ⟨_, tk, z, ?_⟩
  first
    | (rw [List.getD_eq_getElem?_getD, List.getElem?_eq_getElem (by omega)]; rfl)
    | (rw [List.getElem?_eq_getElem (by omega)]; simp)
set_option maxHeartbeats 6400000 in
theorem set_tupM {l : Addr} {its : Array Value} {xs : List Str} {Q : Value → Shared → Prop} (cold : A.handled = none) (tl : s.heap.IsTuple l its) (txt : StrsAre its.toList xs) (few : its.size + 1 < scanBound)
    (fin : ∀ (h2 : Heap) (tk : Nat), SetM P w h2 s.heap.objs.size xs → (∀ b o, s.heap.get? b = some o → h2.get? b = some o) → Q (.ref s.heap.objs.size) { s with heap := h2, toks := tk }) :
    wpAny (model P w) A (call (.type "set") [.ref l]) Q E s := by
  obtain ⟨c, rest, hmro⟩ := F.called_set.mro
  have hmade := F.called_set.made
  have hsub := F.called_set.sub
  refine wpAny_call (codeAny_of_tree ?_)
  show wpAny _ _ (callAny (.type "set") _) _ _ _
  refine wpAny_pure ⟨Code.quiet_builtin _ (by decide +kernel), codeAny_builtin F.entry_type_call ?_⟩
  rw [Around.under_plain (weight_type_call_type "set" [.ref l] []) rfl]
  have h1 := F.called_set.notType
  have h2 := F.called_set.canCreate
  have hct := F.typeCall_set_1 (.ref l)
  repeat (any_goals (first | assumption | wp_step))
  refine codeAny_mono (code_set_led1 (.ref l) (E := E) (Q₁ := fun ob s1 => ob = .ref s.heap.objs.size ∧ s1 = { s with heap := s.heap.push (bareM w) }) ⟨rfl, rfl⟩) fun r s1 hr => ?_
  cases r with
  | error e => exact hr
  | ok fl =>
    cases fl with
    | ret ob =>
      obtain ⟨rfl, rfl⟩ := hr
      have z0 : (s.heap.push (bareM w)).get? s.heap.objs.size = some (bareM w) := Heap.get?_push_size _ rfl
      have hT : Shared.TypeIs { s with heap := s.heap.push (bareM w) } (.ref s.heap.objs.size) "set" := ⟨_, z0, rfl⟩
      have hli := F.called_set.init.lookup
      have hbi := F.called_set.init.bind (.ref s.heap.objs.size)
      repeat (any_goals (first | assumption | wp_step))
      refine codeAny_mono (codeAny_call_builtin (R := wants (fun r s2 => r = .none ∧ ∃ h2 tk, s2 = { s with heap := h2, toks := tk } ∧ SetM P w h2 s.heap.objs.size xs ∧ ∀ b o, s.heap.get? b = some o → h2.get? b = some o) E) F.called_set.init.plain F.entry_set_init (check_set_init_1 hT ?_)) fun r2 s2 hr2 => ?_
      · obtain ⟨⟨cls, dict, data, slots⟩, gl, cl, nl, dl⟩ := tl
        simp only at cl dl
        subst cl dl
        have gl1 : (s.heap.push (bareM w)).get? l = some { cls := .type "tuple", dict := dict, data := .seq its nl, slots := slots } := Heap.get?_push_of_some _ gl
        have hsls := F.sub_tuple_set
        have hslf := F.sub_tuple_frozenset
        have hne : (Value.type "tuple" == Value.type "dict") = false := by decide
        have tl1 : (s.heap.push (bareM w)).IsTuple l its := ⟨_, gl1, rfl, nl, rfl⟩
        unfold Builtin.«set.__init__» noKeywords Builtin.Frozenset.updateFrom
        generalize walkP : pyIter = Pit
        wp_walk
        subst walkP
        refine wpAny_pyIter_tuple tl1 ?_
        refine wpAny_bind (wpAny_runValue ?_)
        have lt0 : l < s.heap.objs.size := Heap.lt_size gl
        have cold3 : A.in1.in1.in1.handled = none := by simp [cold]
        have lt1 : l ≠ (s.heap.push (bareM w)).objs.size := by
          rw [Heap.size_push]
          exact Nat.ne_of_lt (Nat.lt_succ_of_lt lt0)
        have hD : s.heap.objs.size ∉ [(s.heap.push (bareM w)).objs.size, l] := by
          rw [Heap.size_push]
          simp only [List.mem_cons, List.mem_singleton, List.not_mem_nil, or_false, not_or]
          exact ⟨Nat.ne_of_lt (Nat.lt_succ_self _), Nat.ne_of_gt lt0⟩
        refine setM_loop ((Walks.tuple cold3 _ l lt1 its).toS) s.heap.objs.size hD few xs (by have := PyProof.Rows.StrsAre.length txt; rw [Array.length_toList] at this; omega) (fun i v e => strsAtM txt i v (by rw [Array.getElem?_toList]; exact e)) ?_ ⟨⟨_, Heap.get?_push_size _ rfl, rfl, rfl⟩, tl1.push _⟩ (setM_new (Heap.get?_push_of_some _ z0))
        intro s2 mv S2
        obtain ⟨h2, g2, d2, tk2, o2⟩ := s2
        obtain rfl : g2 = s.gens := mv.gens
        obtain rfl : d2 = s.drawn := mv.drawn
        obtain rfl : o2 = s.os := mv.os
        show wpAny _ _ _ _ _ _
        refine wpAny_pure ?_
        show wpAny _ _ (ret Value.none) _ _ _
        refine wpAny_pure ⟨rfl, h2, tk2, rfl, S2, fun b o e => ?_⟩
        have lb : b < s.heap.objs.size := Heap.lt_size e
        have nb : b ≠ (s.heap.push (bareM w)).objs.size := by
          rw [Heap.size_push]
          exact Nat.ne_of_lt (Nat.lt_succ_of_lt lb)
        exact mv.heap b o (by simp only [List.mem_cons, List.mem_singleton, List.not_mem_nil, or_false, not_or]; exact ⟨Nat.ne_of_lt lb, nb⟩) (Heap.get?_push_of_some _ (Heap.get?_push_of_some _ e))
      · cases r2 with
        | error e => exact hr2
        | ok fl2 =>
          cases fl2 with
          | ret r =>
            obtain ⟨rfl, h2, tk, rfl, S2, k2⟩ := hr2
            repeat (any_goals (first | assumption | wp_step))
            exact fin _ _ S2 k2
          | _ => exact hr2.elim
    | _ => exact hr.elim
theorem strsOfM : ∀ vs : List Value, (∀ v ∈ vs, ∃ x tk, v = .str x tk) → ∃ xs : List Str, StrsAre vs xs
  | [], _ => ⟨[], .nil⟩
  | v :: vs, h => by
    obtain ⟨x, tk, rfl⟩ := h v List.mem_cons_self
    obtain ⟨xs, hx⟩ := strsOfM vs fun u hu => h u (List.mem_cons_of_mem _ hu)
    exact ⟨x :: xs, .cons x tk hx⟩
theorem strs_mem {x : Str} : ∀ {vs : List Value} {xs : List Str}, StrsAre vs xs → (x ∈ xs ↔ ∃ t, Value.str x t ∈ vs) := by
  intro vs xs h
  induction h with
  | nil => simp
  | cons y tk h ih =>
    rw [List.mem_cons, ih]
    constructor
    · rintro (rfl | ⟨t, ht⟩)
      · exact ⟨tk, List.mem_cons_self⟩
      · exact ⟨t, List.mem_cons_of_mem _ ht⟩
    · rintro ⟨t, ht⟩
      rcases List.mem_cons.mp ht with z | z
      · cases z
        exact .inl rfl
      · exact .inr ⟨t, z⟩
theorem strs_nodup : ∀ {vs : List Value} {xs : List Str}, StrsAre vs xs → vs.Pairwise (fun e f => ∀ x t u, e = Value.str x t → f = .str x u → False) → xs.Nodup := by
  intro vs xs h
  induction h with
  | nil => exact fun _ => List.nodup_nil
  | cons y tk h ih =>
    intro p
    obtain ⟨p1, p2⟩ := List.pairwise_cons.mp p
    refine List.nodup_cons.mpr ⟨fun z => ?_, ih p2⟩
    obtain ⟨t, ht⟩ := (strs_mem h).mp z
    exact p1 _ ht y tk t rfl rfl
theorem sorted_setM {Q : Value → Shared → Prop} (S : SetM P w s.heap a m) (cold : A.handled = none) (few : m.length < 64)
    (fin : ∀ (s2 : Shared) (p : Addr) (out : Array Value) (c : Nat) (ys : List Str), (∀ b o, s.heap.get? b = some o → s2.heap.get? b = some o) → s2.gens = s.gens → s2.os = s.os → s.heap.objs.size ≤ p → s2.heap.get? p = some (seqObj "list" out c) → StrsAre out.toList ys → sortedS ys = true → ys.Nodup → (∀ x, x ∈ ys ↔ x ∈ m) → Q (.ref p) s2) :
    wpAny (model P w) A (call (.builtin "sorted") [.ref a]) Q E s := by
  obtain ⟨ob, es, ep, tb, z0, zx, zd, el, me, bo, fi, ri, le⟩ := S
  refine Calls.call_function_entry kind_sorted plain_sorted entry_sorted (args_sorted1 _) ?_
  unfold Builtin.«sorted»
  refine wpAny_bind (m := checkCount "sorted" 1 1 _) (wpAny_pure ?_)
  refine wpAny_bind (collect_set (A := A.in1) cold ⟨ob, z0, zx.1, zd⟩ fi bo ri le fun s1 vs k1 hz g1 o1 pm => ?_)
  have vl : vs.length ≤ m.length := by rw [pm.length_eq, List.length_map]; exact me.2.2
  obtain ⟨xs, hS⟩ := strsOfM vs fun v hv => by
    obtain ⟨e, he, rfl⟩ := List.mem_map.mp (pm.mem_iff.mp hv)
    obtain ⟨⟨k, hk, _⟩, _⟩ := el e he
    obtain ⟨tk, z⟩ := Value.isStrOf_shape hk
    exact ⟨k, tk, z⟩
  have memX : ∀ x, x ∈ xs ↔ x ∈ m := fun x => by
    rw [me.1 x, strs_mem hS]
    constructor
    · rintro ⟨t, ht⟩
      obtain ⟨e, he, ee⟩ := List.mem_map.mp (pm.mem_iff.mp ht)
      exact ⟨e, he, t, ee⟩
    · rintro ⟨e, he, t, ee⟩
      exact ⟨t, pm.mem_iff.mpr (List.mem_map.mpr ⟨e, he, ee⟩)⟩
  have ndX : xs.Nodup := strs_nodup hS ((pm.pairwise_iff fun {a b} hab x t u e1 e2 => hab x u t e2 e1).mpr (List.pairwise_map.mpr me.2.1))
  refine wpAny_bind (wpAny_newList ?_ (by rw [sizeLine_eq]; omega))
  have hoL : (s1.heap.push (seqObj "list" vs.toArray 0)).get? s1.heap.objs.size = some (seqObj "list" vs.toArray 0) := Heap.get?_push_size _ rfl
  refine wpAny_bind (wpAny_holding (wpAny_call_entry slot_list_sort ⟨_, hoL, rfl⟩ entry_list_sort (list_sort_treeK strKind_oneLt hoL hS.keysOf (fun v₁ v₂ rest e => keyKind_strs (by rw [← e]; exact hS)) (by omega) fun st' hp hs => ⟨_, rfl, ?_⟩) (args_list_sort _)))
  obtain ⟨ys, e1, e2, e3⟩ := sorted_out_str hS hp hs
  obtain ⟨c, hc⟩ := sortedHeap_at (out := (arrOf st').map (·.2)) hoL
  have hxl := PyProof.Rows.StrsAre.length hS
  refine wpAny_pure ⟨_, rfl, fin _ s1.heap.objs.size _ c ys (fun b o hb => ?_) g1 o1 hz hc e1 e3 (e2.nodup_iff.mpr ndX) (fun x => e2.mem_iff.trans (memX x))⟩
  have y := k1 b o hb
  have hlt := Heap.lt_size y
  show (sortedHeap (s1.heap.push (seqObj "list" vs.toArray 0)) s1.heap.objs.size vs _).get? b = some o
  rw [sortedHeap_old (Nat.ne_of_lt hlt) (by rw [size_push']; exact Nat.lt_succ_of_lt hlt)]
  exact Heap.get?_push_of_some _ y
end
theorem sub_len {α : Type} [DecidableEq α] : ∀ {ys zs : List α}, ys.Nodup → (∀ x ∈ ys, x ∈ zs) → ys.length ≤ zs.length
  | [], _, _, _ => Nat.zero_le _
  | y :: ys, zs, nd, h => by
    have nd := List.nodup_cons.mp nd
    have hy := h y List.mem_cons_self
    have := sub_len (zs := zs.erase y) nd.2 fun x hx => (List.mem_erase_of_ne fun (e : x = y) => nd.1 (by rw [← e]; exact hx)).mpr (h x (List.mem_cons_of_mem _ hx))
    rw [List.length_erase_of_mem hy] at this
    have hp : 0 < zs.length := List.length_pos_of_mem hy
    rw [List.length_cons]
    omega
/-- the set's place in H -/
def SetMO (P : Program) (w : World) (a : Addr) (m : List Str) : HO := .ext fun h => SetM P w h a m
theorem setMO_ok {P : Program} {w : World} {H : Hp} {h : Heap} {a : Addr} {m : List Str} (S : SetM P w h a m) : ObjOk P w H h a (SetMO P w a m) := by
  have ⟨ob, _, _, _, z, _⟩ := S
  exact ⟨S, ⟨ob, z⟩, fun h1 h2 p k => SetM.up p k⟩
def rSetM (K : PySem.W.Frag) (P : Program) (w : World) : List V → Hp → VK → Prop := fun vs H Q => ∃ (l : Addr) (xs : List Str), vs = [.ref l] ∧ SqT K H l (xs.map V.str) ∧ xs.length < 64 ∧ ∀ a, H a = none → Q (.ref a) (upd H a (SetMO P w a xs))
theorem cr_setM {X : Cx} (hc : X.calm = true) : CallR X (.type "set") (rSetM X.K X.prog X.w) := by
  intro pins s σ H vs us Q I r h
  obtain ⟨l, xs, rfl, ht, few, q⟩ := h
  rw [Vals.ref1 r]
  obtain ⟨its, rv, tl, hz⟩ := I.tuple ht
  have ln := rv.length
  rw [List.length_map] at ln
  have hn : H s.heap.objs.size = none := I.hok.fresh (Nat.le_refl _)
  refine set_tupM (P := X.prog) (w := X.w) (I.ok.hd hc) tl rv.strs (by rw [List.size_toArray, ← ln]; show _ < 4096; omega) fun h2 tk S k => ?_
  exact ⟨.ref s.heap.objs.size, _, I.laid (t' := tk) k (Nat.le_refl _) (setMO_ok S), rfl, q _ hn⟩
def rSortM (P : Program) (w : World) : List V → Hp → VK → Prop := fun vs H Q => ∃ (a : Addr) (m : List Str), vs = [.ref a] ∧ H a = some (SetMO P w a m) ∧ m.length < 64 ∧ ∀ (ys : List Str) (p : Addr), sortedS ys = true → ys.Nodup → (∀ x, x ∈ ys ↔ x ∈ m) → H p = none → Q (.ref p) (upd H p (.lst (ys.map V.str)))
theorem cr_sortM {X : Cx} (hc : X.calm = true) : CallR X (.builtin "sorted") (rSortM X.prog X.w) := by
  intro pins s σ H vs us Q I r h
  obtain ⟨a, m, rfl, ha, few, q⟩ := h
  have S : SetM X.prog X.w s.heap a m := (I.hok a _ ha).1
  rw [Vals.ref1 r]
  refine sorted_setM S (I.ok.hd hc) few fun s2 p out c ys k g o hp hg e1 e2 e3 e4 => ?_
  have hn : H p = none := I.hok.fresh hp
  have len : (ys.map V.str).length ≤ sizeLine := by
    rw [List.length_map, sizeLine_eq]
    have := sub_len (zs := m) e3 fun x hx => (e4 x).mp hx
    omega
  have J : Inv X pins σ (upd H p (.lst (ys.map V.str))) { s with heap := s2.heap, gens := s2.gens, drawn := s2.drawn, toks := s2.toks } :=
    I.call (ch := []) (Un.laid k hp hn) (I.hok.laid k hp ⟨len, out.toList, c, vals_of_strs e1, hg⟩) (by rw [g]; exact I.bare) (fun _ z => nomatch z)
  have e : s2 = { s with heap := s2.heap, gens := s2.gens, drawn := s2.drawn, toks := s2.toks } := by
    cases s2
    cases s
    cases o
    rfl
  rw [e]
  exact ⟨.ref p, _, J, rfl, q ys p e2 e3 e4 hn⟩
end Ka
/-! sorted(d.items()) of a dict with texts as keys and rows of texts as values. -/
namespace Ka
open PySem PySem.Spec PyProof.Rows L2 PySem.W PySem.SeqAt
abbrev IE := Str × Addr
def itKV (es : List IE) : List (L2.Key × V) := es.map fun e => (Sum.inr e.1, V.ref e.2)
section
variable {X : Cx}
def rItemsK : V → List V → Hp → VK → Prop := fun x xs H Q => ∃ (a : Addr) (kvs : List (L2.Key × V)), x = .ref a ∧ xs = [] ∧ H a = some (.dK kvs) ∧ ∀ p, H p = none → Q (.ref p) (upd H p (L2.DX.itemsO p a))
theorem mt_itemsK : MtR X "dict.items" rItemsK := by
  intro pins s σ H x xs v us Q I rx rxs h
  obtain ⟨a, kvs, rfl, rfl, ha, q⟩ := h
  cases rx
  cases rxs
  obtain ⟨z, hs0, vs, kv, hdo⟩ := I.hok a _ ha
  refine call_meetsIn PySem.F.slot_dict_items hdo.typeIs PySem.F.entry_dict_items (PySem.F.args_dict_items_1 _) (meets_dict_items (mixKind X.prog X.w) a hs0) ⟨⟨vs, hdo⟩, ?_⟩
  have hf : H s.heap.objs.size = none := I.hok.fresh (Nat.le_refl _)
  exact ⟨.ref s.heap.objs.size, upd H s.heap.objs.size (L2.DX.itemsO s.heap.objs.size a), I.laid (t' := s.toks) (fun b u e => Heap.get?_push_of_some _ e) (Nat.le_refl _) (L2.DX.itemsO_ok (Heap.get?_push_size _ rfl)), rfl, q _ hf⟩
end
theorem alike_strsI : ∀ xs ys : List Str, alikeAll (xs.map PyData.str) (ys.map PyData.str) = true
  | [], _ => by simp [alikeAll]
  | _ :: _, [] => by simp [alikeAll]
  | x :: xs, y :: ys => by
    show alikeAll (.str x :: xs.map .str) (.str y :: ys.map .str) = true
    rw [alikeAll, alike_strsI xs ys]
    simp [alike]
theorem depth_strsI : ∀ xs : List Str, PyData.depthAll (xs.map PyData.str) = 0
  | [] => by simp [PyData.depthAll]
  | x :: xs => by
    show PyData.depthAll (.str x :: xs.map .str) = 0
    rw [PyData.depthAll, depth_strsI xs]
    simp [PyData.depth]
theorem reads_strsI {h : Heap} : ∀ {k : List Str} {us : List Value}, Vals (k.map V.str) us → ReadsAll h us (k.map PyData.str) []
  | [], _, r => by
    cases r
    exact .nil
  | x :: k, _, r => by
    rw [List.map_cons] at r
    cases r with
    | cons a b =>
      obtain ⟨t, rfl⟩ := a
      exact .cons (as := []) (bs := []) (.str x t) (reads_strsI b)
/-- a pair at its place -/
abbrev IP := Addr × IE
def itD (M : IE → List Str) (z : IP) : PyData := .tuple [.str z.2.1, .tuple ((M z.2).map PyData.str)]
def leKI (a b : Str) : Bool := !ltCps b.cps.toList a.cps.toList
theorem leKI_iff {a b : Str} : leKI a b = true ↔ a.cps.toList ≤ b.cps.toList := by
  unfold leKI
  rw [ltCps_eq, Bool.not_eq_true', decide_eq_false_iff_not]
  exact Iff.rfl
theorem leKI_sorted (l : List Str) : sortedS (l.mergeSort leKI) = true := by
  refine sortedS_of_pairwise _ ((List.pairwise_mergeSort (fun a b c h1 h2 => ?_) (fun a b => ?_) l).imp fun {a b} h => ?_)
  · rw [leKI_iff] at h1 h2 ⊢
    exact List.le_trans h1 h2
  · rw [Bool.or_eq_true, leKI_iff, leKI_iff]
    exact List.le_total _ _
  · have h : (!ltCps b.cps.toList a.cps.toList) = true := h
    simpa using h
theorem itD_le {M : IE → List Str} {zs : List IP} (nd : (zs.map (·.2.1)).Nodup) : ∀ a ∈ zs, ∀ b ∈ zs, dataLe false (itD M) a b = leKI a.2.1 b.2.1 := by
  intro a ha b hb
  show (!dataLt (itD M b) (itD M a)) = _
  by_cases e : a = b
  · subst e
    have e1 : dataLt (itD M a) (itD M a) = false := lex_irrefl _
    rw [e1]
    symm
    exact leKI_iff.mpr (List.le_refl _)
  · have ne : ¬ b.2.1 = a.2.1 := fun z => e (by
      obtain ⟨i, hi⟩ := List.getElem?_of_mem ha
      obtain ⟨j, hj⟩ := List.getElem?_of_mem hb
      have e1 : (zs.map (·.2.1))[i]? = some a.2.1 := by rw [List.getElem?_map, hi]; rfl
      have e2 : (zs.map (·.2.1))[j]? = some a.2.1 := by rw [List.getElem?_map, hj, ← z]; rfl
      have := (List.getElem?_inj (List.getElem?_eq_some_iff.mp e1).1 nd).mp (e1.trans e2.symm)
      subst this
      exact Option.some.inj (hi.symm.trans hj))
    have e1 : dataLt (itD M b) (itD M a) = ltCps b.2.1.cps.toList a.2.1.cps.toList := by
      unfold itD
      rw [dataLt_pair (by simp [alike]) (by simp [alike, alike_strsI]), dataLt_str, ltCps_eq]
      have : ¬ PyData.eqv (.str b.2.1) (.str a.2.1) = true := by
        simp only [PyData.eqv, beq_iff_eq]
        exact ne
      rw [if_neg this]
    rw [e1]
    rfl
theorem ip_each : ∀ {zs : List IP}, EachIs (fun v (b : IP) => v = Value.ref b.1) (zs.map fun z => Value.ref z.1) zs
  | [] => .nil
  | z :: zs => .cons rfl ip_each
theorem ip_vals {zs : List IP} {us : List Value} (e : EachIs (fun v (b : IP) => v = Value.ref b.1) us zs) : Vals (zs.map fun r => V.ref r.1) us := by
  induction e with
  | nil => exact .nil
  | cons h t ih =>
    subst h
    exact .cons rfl ih
def rSortItK : List V → Hp → VK → Prop := fun vs H Q => ∃ (p a : Addr) (es : List IE) (M : IE → List Str), vs = [.ref p] ∧ H p = some (L2.DX.itemsO p a) ∧ H a = some (.dK (itKV es)) ∧ (es.map (·.1)).Nodup ∧ (∀ e ∈ es, H e.2 = some (.tup ((M e).map V.str))) ∧
  ∀ (H' : Hp) (l : Addr) (ps : List IP), (∀ b o, H b = some o → H' b = some o) → H l = none → (ps.map (·.2)).Perm es → sortedS (ps.map (·.2.1)) = true → H' l = some (.lst (ps.map fun z => V.ref z.1)) → (∀ z ∈ ps, H' z.1 = some (.tup [.str z.2.1, .ref z.2.2])) → Q (.ref l) H'
theorem cr_sortItK {X : Cx} (hc : X.calm = true) (hu : X.A.units + 64 < cLine) : CallR X (.builtin "sorted") rSortItK := by
  intro pins s σ H vs us Q I r h
  obtain ⟨p, a, es, M, rfl, hp, ha, nd, hM, q⟩ := h
  obtain rfl := Vals.ref1 r
  have view : s.heap.IsItemsView p a := (show ObjOk X.prog X.w H s.heap p (L2.DX.itemsO p a) from I.hok p _ hp).1
  obtain ⟨hz, hs0, kvs, kv, hdo⟩ := I.hok a _ ha
  obtain ⟨ep, hat⟩ := hdo.dictAt
  have lk : (itKV es).length = kvs.length := Paired.length kv
  have le : (itKV es).length = es.length := List.length_map _
  refine Calls.call_function_entry PyProof.Rows.kind_sorted PyProof.Rows.plain_sorted PyProof.Rows.entry_sorted (PyProof.Rows.args_sorted1 _) ?_
  unfold Builtin.«sorted»
  refine wpAny_bind (m := checkCount "sorted" 1 1 _) (wpAny_pure ?_)
  refine wpAny_bind (kdx_collect (A := X.A.in1) (I.ok.hd hc) view hat (by omega) fun h' tk as hk hl hG => ?_)
  have las : as.length = es.length := by omega
  have nda : as.Nodup := List.Pairwise.imp (fun {a b} (h : a < b) => Nat.ne_of_lt h) hG.rise
  have I1 : Inv X pins σ H { s with heap := h', toks := tk } := I.kept (t' := tk) hk
  obtain ⟨H2, I2, g, qt⟩ := L2.DX.takeT (P := fun b vs => ∀ e, (b, e) ∈ as.zip es → vs = [.str e.1, .ref e.2]) I as _ I1 nda fun b hb => by
    obtain ⟨j, hj⟩ := List.mem_iff_getElem?.mp hb
    obtain ⟨key, k, x, f1, f2, f3⟩ := hG.pairs j b hj
    have hjl := (List.getElem?_eq_some_iff.mp hj).1
    have hes : es[j]? = some (es[j]'(by omega)) := List.getElem?_eq_getElem (by omega)
    generalize es[j]'(by omega) = e at hes
    have hit : (itKV es)[j]? = some (Sum.inr e.1, V.ref e.2) := by
      unfold itKV
      rw [List.getElem?_map, hes]
      rfl
    obtain ⟨qv, g1, g2, g3⟩ := LiI.paired_get kv hit
    rw [f1] at g1
    cases g1
    refine ⟨Nat.le_of_lt (hG.above b hb), I.hok.fresh (Nat.le_of_lt (hG.above b hb)), [.str e.1, .ref e.2], fun e2 h2 => ?_, fun H3 => ⟨(by show 2 ≤ sizeLine; decide), [key, x], .cons ?_ (.cons g3 .nil), ⟨_, f3, rfl, _, rfl⟩⟩⟩
    · obtain ⟨i, hi⟩ := List.getElem?_of_mem h2
      rw [List.getElem?_zip_eq_some] at hi
      have := (List.getElem?_inj hjl nda).mp (hj.trans hi.1.symm)
      subst this
      have := Option.some.inj (hes.symm.trans hi.2)
      rw [this]
    · have g2 : (Sum.inr e.1 : L2.Key) = k := g2
      have rk : RelV (kV (Sum.inr e.1 : L2.Key)) key := by
        rw [g2]
        exact relV_key (show keyIs k key = true from f2)
      exact rk
  have tups : ∀ z ∈ as.zip es, H2 z.1 = some (.tup [.str z.2.1, .ref z.2.2]) := fun z hz => by
    obtain ⟨vs, h1, h2⟩ := qt z.1 (List.of_mem_zip hz).1
    rw [h2, h1 z.2 hz]
  have zas : (as.zip es).map (fun z => Value.ref z.1) = as.map Value.ref := by
    have : (as.zip es).map (·.1) = as := List.map_fst_zip (by omega)
    conv => rhs; rw [← this]
    rw [List.map_map]
    rfl
  have zes : (as.zip es).map (·.2) = es := List.map_snd_zip (by omega)
  have znd : ((as.zip es).map (·.2.1)).Nodup := by
    have : (as.zip es).map (·.2.1) = es.map (·.1) := by
      conv => rhs; rw [← zes]
      rw [List.map_map]
      rfl
    rw [this]
    exact nd
  have hMz : ∀ z ∈ as.zip es, H2 z.2.2 = some (.tup ((M z.2).map V.str)) := fun z hz => g _ _ (hM z.2 (List.of_mem_zip hz).2)
  have zlen : (as.zip es).length ≤ sizeLine := by
    rw [List.length_zip]
    omega
  generalize as.zip es = zs at tups zas zes znd hMz zlen
  rw [← zas]
  refine wpAny_bind (wpAny_newList ?_ (by rw [List.length_map]; exact zlen))
  have hoL : (h'.push (seqObj "list" (zs.map fun z => Value.ref z.1).toArray 0)).get? h'.objs.size = some (seqObj "list" (zs.map fun z => Value.ref z.1).toArray 0) := Heap.get?_push_size _ rfl
  refine wpAny_bind (wpAny_holding ?_)
  show wpAny (model X.prog X.w) X.A.in1 (call (.builtin "list.sort") [.ref h'.objs.size]) _ _ { s with heap := h'.push (seqObj "list" (zs.map fun z => Value.ref z.1).toArray 0), toks := tk }
  have er : EachIs (fun v (b : IP) => ∃ as, Reads (h'.push (seqObj "list" (zs.map fun z => Value.ref z.1).toArray 0)) v (itD M b) as ∧ h'.objs.size ∉ as) (zs.map fun z => Value.ref z.1) zs := (each_mem ip_each).mono fun v b ⟨ev, hm⟩ => by
    subst ev
    obtain ⟨its, rv, ht, _⟩ := I2.tuple (.inl (.inl (tups b hm)))
    obtain ⟨o2, ho2, hc2, n2, hd2⟩ := ht
    obtain ⟨its3, rv3, ht3, _⟩ := I2.tuple (.inl (.inl (hMz b hm)))
    obtain ⟨o3, ho3, hc3, n3, hd3⟩ := ht3
    cases rv with
    | cons r1 r2 =>
      cases r2 with
      | cons r3 r4 =>
        cases r4
        obtain ⟨t, rfl⟩ := r1
        cases r3
        refine ⟨[], Reads.tuple (Heap.get?_push_of_some _ ho2) hc2 hd2 (.cons (as := []) (bs := []) (.str _ t) (.cons (as := []) (bs := []) (Reads.tuple (Heap.get?_push_of_some _ ho3) hc3 hd3 (reads_strsI rv3)) .nil)), fun hmm => by cases hmm⟩
  refine list_sort_data (s := { s with heap := h'.push (seqObj "list" (zs.map fun z => Value.ref z.1).toArray 0), toks := tk }) (enc := itD M) hoL ip_each er (AllAlike.of fun b b' => ?_) (Sortable.tuples fun b => ⟨_, _, rfl⟩) zlen (fun r _ => ?_) fun out ho2 eo => ?_
  · unfold itD
    simp [alike, alikeAll, alike_strsI]
  · have hdep : (itD M r).depth ≤ 3 := by
      unfold itD
      simp [PyData.depth, PyData.depthAll, depth_strsI]
    show X.A.units + 1 + 1 + (itD M r).depth < cLine
    omega
  · obtain ⟨e', he'⟩ := PyProof.Rows.sortedHeap_at (vs := zs.map fun z => Value.ref z.1) (out := out.toArray) hoL
    have hle2 : ((zs.mergeSort (dataLe false (itD M))).map fun r => V.ref r.1).length ≤ sizeLine := by
      rw [List.length_map, List.length_mergeSort]
      exact zlen
    have up : ∀ b o, h'.get? b = some o → (sortedHeap (h'.push (seqObj "list" (zs.map fun z => Value.ref z.1).toArray 0)) h'.objs.size (zs.map fun z => Value.ref z.1) out.toArray).get? b = some o := fun b u e => by
      have hb : b < h'.objs.size := Heap.lt_size e
      rw [PyProof.Rows.sortedHeap_old (Nat.ne_of_lt hb) (by rw [size_push']; exact Nat.lt_succ_of_lt hb)]
      exact Heap.get?_push_of_some _ e
    have lf : H2 h'.objs.size = none := I2.hok.fresh (Nat.le_refl _)
    have lf0 : H h'.objs.size = none := I1.hok.fresh (Nat.le_refl _)
    have kS : (zs.mergeSort (dataLe false (itD M))).map (fun z : IP => z.2.1) = (zs.map fun z : IP => z.2.1).mergeSort leKI := sort_maps (fun z : IP => z.2.1) (itD_le znd)
    have pm := List.mergeSort_perm zs (dataLe false (itD M))
    refine wpAny_pure ⟨_, rfl, .ref h'.objs.size, _, I2.laid (t' := tk) (o := .lst ((zs.mergeSort (dataLe false (itD M))).map fun r => V.ref r.1)) up (Nat.le_refl _) ⟨hle2, out, e', ip_vals eo, he'⟩, rfl, q _ _ (zs.mergeSort (dataLe false (itD M))) (fun b o e => ?_) lf0 ?_ ?_ upd_same (fun z hz => ?_)⟩
    · have e := g _ _ e
      rw [upd_ne (ne_of_none e lf)]
      exact e
    · have := pm.map (fun z : IP => z.2)
      rw [zes] at this
      exact this
    · rw [kS]
      exact leKI_sorted _
    · have e := tups z (pm.mem_iff.mp hz)
      rw [upd_ne (ne_of_none e lf)]
      exact e
end Ka
/-! set(l) of a list of texts; list(d.values()). -/
namespace Ka
open PySem PySem.Spec PyProof.Rows L2
section
variable {P : Program} {w : World} {A : Around} {E : Value → Shared → Prop} {s : Shared} {a : Addr} {m : List Str}
set_option maxHeartbeats 6400000 in
theorem set_lisM {l : Addr} {its : Array Value} {xs : List Str} {Q : Value → Shared → Prop} (cold : A.handled = none) (tl : s.heap.IsList l its) (txt : StrsAre its.toList xs) (few : its.size + 1 < scanBound)
    (fin : ∀ (h2 : Heap) (tk : Nat), SetM P w h2 s.heap.objs.size xs → (∀ b o, s.heap.get? b = some o → h2.get? b = some o) → Q (.ref s.heap.objs.size) { s with heap := h2, toks := tk }) :
    wpAny (model P w) A (call (.type "set") [.ref l]) Q E s := by
  obtain ⟨c, rest, hmro⟩ := F.called_set.mro
  have hmade := F.called_set.made
  have hsub := F.called_set.sub
  refine wpAny_call (codeAny_of_tree ?_)
  show wpAny _ _ (callAny (.type "set") _) _ _ _
  refine wpAny_pure ⟨Code.quiet_builtin _ (by decide +kernel), codeAny_builtin F.entry_type_call ?_⟩
  rw [Around.under_plain (weight_type_call_type "set" [.ref l] []) rfl]
  have h1 := F.called_set.notType
  have h2 := F.called_set.canCreate
  have hct := F.typeCall_set_1 (.ref l)
  repeat (any_goals (first | assumption | wp_step))
  refine codeAny_mono (code_set_led1 (.ref l) (E := E) (Q₁ := fun ob s1 => ob = .ref s.heap.objs.size ∧ s1 = { s with heap := s.heap.push (bareM w) }) ⟨rfl, rfl⟩) fun r s1 hr => ?_
  cases r with
  | error e => exact hr
  | ok fl =>
    cases fl with
    | ret ob =>
      obtain ⟨rfl, rfl⟩ := hr
      have z0 : (s.heap.push (bareM w)).get? s.heap.objs.size = some (bareM w) := Heap.get?_push_size _ rfl
      have hT : Shared.TypeIs { s with heap := s.heap.push (bareM w) } (.ref s.heap.objs.size) "set" := ⟨_, z0, rfl⟩
      have hli := F.called_set.init.lookup
      have hbi := F.called_set.init.bind (.ref s.heap.objs.size)
      repeat (any_goals (first | assumption | wp_step))
      refine codeAny_mono (codeAny_call_builtin (R := wants (fun r s2 => r = .none ∧ ∃ h2 tk, s2 = { s with heap := h2, toks := tk } ∧ SetM P w h2 s.heap.objs.size xs ∧ ∀ b o, s.heap.get? b = some o → h2.get? b = some o) E) F.called_set.init.plain F.entry_set_init (check_set_init_1 hT ?_)) fun r2 s2 hr2 => ?_
      · obtain ⟨⟨cls, dict, data, slots⟩, gl, cl, nl, dl⟩ := tl
        simp only at cl dl
        subst cl dl
        have gl1 : (s.heap.push (bareM w)).get? l = some { cls := .type "list", dict := dict, data := .seq its nl, slots := slots } := Heap.get?_push_of_some _ gl
        have hsls := F.sub_list_set
        have hslf := F.sub_list_frozenset
        have hne : (Value.type "list" == Value.type "dict") = false := by decide
        have tl1 : (s.heap.push (bareM w)).IsList l its := ⟨_, gl1, rfl, nl, rfl⟩
        unfold Builtin.«set.__init__» noKeywords Builtin.Frozenset.updateFrom
        generalize walkP : pyIter = Pit
        wp_walk
        subst walkP
        refine wpAny_pyIter_list tl1 ?_
        refine wpAny_bind (wpAny_runValue ?_)
        have lt0 : l < s.heap.objs.size := Heap.lt_size gl
        have cold3 : A.in1.in1.in1.handled = none := by simp [cold]
        have lt1 : l ≠ (s.heap.push (bareM w)).objs.size := by
          rw [Heap.size_push]
          exact Nat.ne_of_lt (Nat.lt_succ_of_lt lt0)
        have hD : s.heap.objs.size ∉ [(s.heap.push (bareM w)).objs.size, l] := by
          rw [Heap.size_push]
          simp only [List.mem_cons, List.mem_singleton, List.not_mem_nil, or_false, not_or]
          exact ⟨Nat.ne_of_lt (Nat.lt_succ_self _), Nat.ne_of_gt lt0⟩
        refine setM_loop ((Walks.list cold3 _ l lt1 its).toS) s.heap.objs.size hD few xs (by have := PyProof.Rows.StrsAre.length txt; rw [Array.length_toList] at this; omega) (fun i v e => strsAtM txt i v (by rw [Array.getElem?_toList]; exact e)) ?_ ⟨⟨_, Heap.get?_push_size _ rfl, rfl, rfl⟩, tl1.push _⟩ (setM_new (Heap.get?_push_of_some _ z0))
        intro s2 mv S2
        obtain ⟨h2, g2, d2, tk2, o2⟩ := s2
        obtain rfl : g2 = s.gens := mv.gens
        obtain rfl : d2 = s.drawn := mv.drawn
        obtain rfl : o2 = s.os := mv.os
        show wpAny _ _ _ _ _ _
        refine wpAny_pure ?_
        show wpAny _ _ (ret Value.none) _ _ _
        refine wpAny_pure ⟨rfl, h2, tk2, rfl, S2, fun b o e => ?_⟩
        have lb : b < s.heap.objs.size := Heap.lt_size e
        have nb : b ≠ (s.heap.push (bareM w)).objs.size := by
          rw [Heap.size_push]
          exact Nat.ne_of_lt (Nat.lt_succ_of_lt lb)
        exact mv.heap b o (by simp only [List.mem_cons, List.mem_singleton, List.not_mem_nil, or_false, not_or]; exact ⟨Nat.ne_of_lt lb, nb⟩) (Heap.get?_push_of_some _ (Heap.get?_push_of_some _ e))
      · cases r2 with
        | error e => exact hr2
        | ok fl2 =>
          cases fl2 with
          | ret r =>
            obtain ⟨rfl, h2, tk, rfl, S2, k2⟩ := hr2
            repeat (any_goals (first | assumption | wp_step))
            exact fin _ _ S2 k2
          | _ => exact hr2.elim
    | _ => exact hr.elim
end
def rSetL (K : PySem.W.Frag) (P : Program) (w : World) : List V → Hp → VK → Prop := fun vs H Q => ∃ (l : Addr) (xs : List Str), vs = [.ref l] ∧ SqL K H l (xs.map V.str) ∧ xs.length < 64 ∧ ∀ a, H a = none → Q (.ref a) (upd H a (SetMO P w a xs))
theorem cr_setL {X : Cx} (hc : X.calm = true) : CallR X (.type "set") (rSetL X.K X.prog X.w) := by
  intro pins s σ H vs us Q I r h
  obtain ⟨l, xs, rfl, ht, few, q⟩ := h
  rw [Vals.ref1 r]
  obtain ⟨its, rv, tl, hz⟩ := I.list ht
  have ln := rv.length
  rw [List.length_map] at ln
  have hn : H s.heap.objs.size = none := I.hok.fresh (Nat.le_refl _)
  refine set_lisM (P := X.prog) (w := X.w) (its := its.toArray) (I.ok.hd hc) tl.isList (by simpa using rv.strs) (by rw [List.size_toArray, ← ln]; show _ < 4096; omega) fun h2 tk S k => ?_
  exact ⟨.ref s.heap.objs.size, _, I.laid (t' := tk) k (Nat.le_refl _) (setMO_ok S), rfl, q _ hn⟩
/-! ### list(d.values()) -/
def valsO (p d : Addr) : HO := .ext fun h => h.IsValuesView p d
theorem valsO_ok {P : Program} {w : World} {H : Hp} {h : Heap} {p d : Addr} (e : h.get? p = some { cls := .type "dict_values", data := .fields #[.ref d] }) : ObjOk P w H h p (valsO p d) :=
  ⟨⟨_, e, rfl, rfl⟩, ⟨_, e⟩, fun h1 h2 x k => let ⟨o, ho, r⟩ := x; ⟨o, k o ho, r⟩⟩
section
variable {X : Cx}
def rValsK : V → List V → Hp → VK → Prop := fun x xs H Q => ∃ (a : Addr) (kvs : List (L2.Key × V)), x = .ref a ∧ xs = [] ∧ H a = some (.dK kvs) ∧ ∀ p, H p = none → Q (.ref p) (upd H p (valsO p a))
theorem mt_valuesK : MtR X "dict.values" rValsK := by
  intro pins s σ H x xs v us Q I rx rxs h
  obtain ⟨a, kvs, rfl, rfl, ha, q⟩ := h
  cases rx
  cases rxs
  obtain ⟨z, hs0, vs, kv, hdo⟩ := I.hok a _ ha
  refine call_meetsIn PySem.F.slot_dict_values hdo.typeIs PySem.F.entry_dict_values (PySem.F.args_dict_values_1 _) (meets_dict_values (mixKind X.prog X.w) a hs0) ⟨⟨vs, hdo⟩, ?_⟩
  have hf : H s.heap.objs.size = none := I.hok.fresh (Nat.le_refl _)
  exact ⟨.ref s.heap.objs.size, upd H s.heap.objs.size (valsO s.heap.objs.size a), I.laid (t' := s.toks) (fun b u e => Heap.get?_push_of_some _ e) (Nat.le_refl _) (valsO_ok (Heap.get?_push_size _ rfl)), rfl, q _ hf⟩
def rListV : List V → Hp → VK → Prop := fun xs H Q => ∃ (p a : Addr) (kvs : List (L2.Key × V)), xs = [.ref p] ∧ H p = some (valsO p a) ∧ H a = some (.dK kvs) ∧ ∀ q, H q = none → Q (.ref q) (upd H q (.lst (kvs.map (·.2))))
theorem call_list_vals (hc : X.calm = true) : CallR X (.type "list") rListV := by
  intro pins s σ H xs us Q I r h
  obtain ⟨p, a, kvs, rfl, hp, hk, q⟩ := h
  rw [Vals.ref1 r]
  have view : s.heap.IsValuesView p a := (show ObjOk X.prog X.w H s.heap p (valsO p a) from I.hok p _ hp).1
  obtain ⟨z, lo, vs, rk, hd⟩ := (show ObjOk X.prog X.w H s.heap a (.dK kvs) from I.hok a _ hk)
  obtain ⟨ep, hat⟩ := hd.dictAt
  have hl : kvs.length = vs.length := Paired.length rk
  refine PySem.W.kdl_call (PySem.W.kdl_values (knd := mixKind X.prog X.w) (kvs := vs) (ep := ep)) (I.ok.hd hc) ⟨view, hat⟩ (by rw [← hl]; exact z) fun h' tk acc' c' hkeep hS hacc => ?_
  refine ⟨.ref s.heap.objs.size, upd H s.heap.objs.size (.lst (kvs.map (·.2))), I.laid hkeep (Nat.le_refl _) (show ObjOk X.prog X.w _ _ _ (.lst (kvs.map (·.2))) from ⟨?_, acc'.toList, c', ?_, ?_⟩), rfl, q _ (I.hok.fresh (Nat.le_refl _))⟩
  · rw [List.length_map]; exact z
  · have el : acc'.toList.length = acc'.size := by simp
    refine vals_of_at (by rw [List.length_map, el, hacc.1, hl]) fun j x w h1 h2 => ?_
    obtain ⟨k, hky⟩ := hacc.2 j w (by rw [← Array.getElem?_toList]; exact h2)
    cases hkj : kvs[j]? with
    | none =>
      rw [List.getElem?_map, hkj] at h1
      cases h1
    | some kv =>
      rw [List.getElem?_map, hkj] at h1
      cases h1
      obtain ⟨y, g1, g2, g3⟩ := LiI.paired_get rk hkj
      rw [hky] at g1
      cases g1
      exact g3
  · rw [Array.toArray_toList]
    exact hS
end
end Ka
namespace Kb
open PySem PySem.Spec PyProof.Rows L2
/-! ### the law's sums: _law_sum, _law_all_in -/
section
variable {P : Program} {w : World} {K : PySem.W.Frag} {mg : Str → Option Value} {base : Heap}
def spLawSum (K : PySem.W.Frag) : Sp := fun vs H Q _ => ∃ (d q0 : Addr) (kvs : List (List L2.Key × V)) (xs : List Stg) (f : Stg → Int), vs = [.ref d, .ref q0] ∧ Rd H d (.dT kvs) ∧ PtS K H q0 xs ∧ xs.length ≤ 10000 ∧ (∀ x ∈ xs, valV kvs (stK x) = some (.int (f x))) ∧ ∀ H', Same H H' → Q (.int ((xs.map f).sum)) H'
abbrev nSu : List Str := ["table", "pile", "stage"]
theorem scSu : FnScope nSu ["table", "pile"] (defScope sLawSum) := ⟨rfl, rfl, rfl, by decide +kernel, rfl, by decide +kernel, by decide +kernel⟩
theorem ok_lawsum {f : Addr} {fd : FuncData} (F : Fun K "_law_sum" "_law_sum" sLawSum f fd) (N : Nones mg) : FnOk P w K mg base CX0 1 f fd ["table", "pile"] (spLawSum K) := by
  refine F.ok scSu (fun vs H Q E h => ?_) (fun cdv A outer s H vs Q E hr h => ?_)
  · obtain ⟨d, q0, kvs, xs, g, rfl, _⟩ := h
    rfl
  · obtain ⟨d, q0, kvs, xs, g, rfl, hd, ⟨PL, h1, rfl, h3⟩, hl, hv, q⟩ := h
    refine ⟨_, pss_one (ps_ret (pe_callB (cr_sum rfl) (by rfl) N.sum (by decide +kernel) (pa_cons (pe_lc (own := [("stage", 2)]) (g := gName 2) (tt := tYes) rfl scSu.nd (pi_tup (pv 1)) (blkOk_by (own := [("stage", 2)]) (N := nSu) (sc := defScope sLawSum) (by decide +kernel)) (fun _ _ _ _ _ => (pg_name (i := 2) scSu.nd rfl (Or.inl rfl))) (fun _ _ _ _ _ => pts_nil) (fun _ _ _ _ _ => (pe_dget (hu_of hr) (pv 0) (pv 2) (fun _ _ => rfl)))) pa_nil))), ?_⟩
    rw [List.length_map] at hl
    refine ⟨_, rfl, q0, rfl, ⟨_, h1⟩, fun D nD => ?_⟩
    refine lc_pure (walk_tup (K := K) (a := q0) (xs := PL.map fun t => V.ref t.1)) ((PL.map fun u => g u.2).map V.int) (by rw [List.length_map, List.length_map, List.length_map]) nD (fun _ s => Same.sqT s h1) (fun i x H0 H' hi h0 y => ?_) (fun H' s' e => ?_)
    · obtain ⟨rfl, hy⟩ := y
      obtain ⟨u, hu, rfl⟩ := get_map hy
      have mu := List.mem_of_getElem? hu
      have gg : DGet H' d (.ref u.1) (some (.int (g u.2))) := .inr ⟨kvs, stK u.2, u.1, Rd.mono hd (fun b o e => h0.1 _ _ e), rfl, h0.1 _ _ (h3 u mu), (hv u.2 (List.mem_map.mpr ⟨u, mu, rfl⟩)).symm⟩
      refine ⟨rfl, _, rfl, _, rfl, d, _, rfl, gg, ?_⟩
      refine h0.put nD (fun _ _ e => e) ?_ (by rw [List.length_map, List.length_map]; omega)
      rw [List.getElem?_map, List.getElem?_map, hu]
      rfl
    · refine ⟨D, _, rfl, sqL_new e, ?_⟩
      have : (PL.map fun u => g u.2) = (PL.map (·.2)).map g := by rw [List.map_map]; rfl
      rw [this]
      exact q H' s'
def spLawAllIn (K : PySem.W.Frag) : Sp := fun vs H Q _ => ∃ (q0 d : Addr) (kvs : List (List L2.Key × V)) (xs ks : List Stg), vs = [.ref q0, .ref d] ∧ PtS K H q0 xs ∧ xs.length ≤ 10000 ∧ Rd H d (.dT kvs) ∧ kvs.map (·.1) = ks.map stK ∧ ∀ H', Same H H' → Q (.bl (xs.all fun x => decide (x ∈ ks))) H'
abbrev nAl : List Str := ["some", "others", "one"]
theorem scAl : FnScope nAl ["some", "others"] (defScope sLawAllIn) := ⟨rfl, rfl, rfl, by decide +kernel, rfl, by decide +kernel, by decide +kernel⟩
theorem ok_lawallin {f : Addr} {fd : FuncData} (F : Fun K "_law_all_in" "_law_all_in" sLawAllIn f fd) (N : Nones mg) : FnOk P w K mg base CX0 1 f fd ["some", "others"] (spLawAllIn K) := by
  refine F.ok scAl (fun vs H Q E h => ?_) (fun cdv A outer s H vs Q E hr h => ?_)
  · obtain ⟨q0, d, kvs, xs, ks, rfl, _⟩ := h
    rfl
  · obtain ⟨q0, d, kvs, xs, ks, rfl, ⟨PL, h1, rfl, h3⟩, hl, hd, hks, q⟩ := h
    refine ⟨_, pss_one (ps_ret (pe_callB (cr_all rfl) (by rfl) N.all (by decide +kernel) (pa_cons (pe_lc (own := [("one", 2)]) (g := gName 2) (tt := tYes) rfl scAl.nd (pi_tup (pv 0)) (blkOk_by (own := [("one", 2)]) (N := nAl) (sc := defScope sLawAllIn) (by decide +kernel)) (fun _ _ _ _ _ => (pg_name (i := 2) scAl.nd rfl (Or.inl rfl))) (fun _ _ _ _ _ => pts_nil) (fun _ _ _ _ _ => (pe_cmp (pc_din (hu_of hr) (pv 2) (pv 1)) rfl))) pa_nil))), ?_⟩
    rw [List.length_map] at hl
    refine ⟨_, rfl, q0, rfl, ⟨_, h1⟩, fun D nD => ?_⟩
    refine lc_pure (walk_tup (K := K) (a := q0) (xs := PL.map fun t => V.ref t.1)) ((PL.map fun t => decide (t.2 ∈ ks)).map V.bl) (by rw [List.length_map, List.length_map, List.length_map]) nD (fun _ s => Same.sqT s h1) (fun i x H0 H' hi h0 y => ?_) (fun H' s' e => ?_)
    · obtain ⟨rfl, hy⟩ := y
      obtain ⟨t, ht, rfl⟩ := get_map hy
      have g : DGet H' d (.ref t.1) (valV kvs (stK t.2)) := .inr ⟨kvs, stK t.2, t.1, Rd.mono hd (fun b o e => h0.1 _ _ e), rfl, h0.1 _ _ (h3 t (List.mem_of_getElem? ht)), rfl⟩
      refine ⟨rfl, _, rfl, _, rfl, d, _, rfl, g, ?_⟩
      rw [val_in hks]
      refine h0.put nD (fun _ _ e => e) ?_ (by rw [List.length_map, List.length_map]; omega)
      rw [List.getElem?_map, List.getElem?_map, ht]
      rfl
    · refine ⟨D, _, rfl, sqL_new e, ?_⟩
      have : (PL.map fun t => decide (t.2 ∈ ks)).all id = (PL.map (·.2)).all fun x => decide (x ∈ ks) := by
        rw [List.all_map, List.all_map]
        rfl
      rw [this]
      exact q H' s'
/-! ### the law's deeds -/
theorem cr_setL2 {X : Cx} {P : Program} {w : World} (hp : X.prog = P) (hw : X.w = w) (hc : X.calm = true) : CallR X (.type "set") (Ka.rSetL X.K P w) := by
  subst hp hw
  exact Ka.cr_setL hc
theorem cr_sortM2 {X : Cx} {P : Program} {w : World} (hp : X.prog = P) (hw : X.w = w) (hc : X.calm = true) : CallR X (.builtin "sorted") (Ka.rSortM P w) := by
  subst hp hw
  exact Ka.cr_sortM hc
def spLawDeeds (K : PySem.W.Frag) : Sp := fun vs H Q _ => ∃ (a : Addr) (cs : List CA), vs = [.ref a] ∧ CsAt K H a cs ∧ (dns cs).length < 64 ∧ (∀ c ∈ cs, c.ss.length ≤ 10000) ∧ ∀ H' q ds, Same H H' → H q = none → H' q = some (.lst (ds.map V.str)) → DsOf cs ds → Q (.ref q) H'
abbrev nDes : List Str := ["courses", "found", "name", "stages", "ends", "steps", "step"]
theorem scDes : FnScope nDes ["courses"] (defScope sLawDeeds) := ⟨rfl, rfl, rfl, by decide +kernel, rfl, by decide +kernel, by decide +kernel⟩
theorem ok_lawdeeds {f : Addr} {fd : FuncData} (F : Fun K "_law_deeds" "_law_deeds" sLawDeeds f fd) (N : Nones mg) (nset : mg "set" = none) : FnOk P w K mg base CX0 1 f fd ["courses"] (spLawDeeds K) := by
  refine F.ok scDes (fun vs H Q E h => ?_) (fun cdv A outer s H vs Q E hr h => ?_)
  · obtain ⟨a, cs, rfl, _⟩ := h
    rfl
  · obtain ⟨a, cs, rfl, hC, lz, hsz, q⟩ := h
    refine ⟨_, pss_cons (ps_set (i := 1) scDes.nd rfl (Or.inl rfl) (pe_lst pa_nil))
      (pss_cons (ps_for PassesOwn.never rfl (pi_tup (pv 0)) (pg_tup rfl (pgs_cons (pg_name (i := 2) scDes.nd rfl (Or.inl rfl)) (pgs_cons (pg_name (i := 3) scDes.nd rfl (Or.inl rfl)) (pgs_cons (pg_name (i := 4) scDes.nd rfl (Or.inl rfl)) (pgs_cons (pg_name (i := 5) scDes.nd rfl (Or.inl rfl)) pgs_nil)))))
        (pss_one (ps_set (i := 1) scDes.nd rfl (Or.inl rfl) (pe_op op_cat (pv 1) (pe_lc (own := [("step", 6)]) (g := gName 6) rfl scDes.nd (pi_tup (pv 5)) (blkOk_by (own := [("step", 6)]) (N := nDes) (sc := defScope sLawDeeds) (by decide +kernel)) (fun _ _ _ _ _ => (pg_name (i := 6) scDes.nd rfl (Or.inl rfl))) (fun _ _ _ _ _ => pts_one (pt_cmpR op_eq (pe_ix (ixT_at (K := K) rfl) (pv 6) pe_int (fun _ _ => rfl)) pe_str (nomark _))) (fun _ _ _ _ _ => (pe_ix (ixT_at (K := K) rfl) (pv 6) pe_int (fun _ _ => rfl))))))))
      (pss_one (ps_ret (pe_callB (cr_sortM2 (P := P) (w := w) rfl rfl rfl) (by rfl) N.sorted (by decide +kernel) (pa_cons (pe_callTy (cr_setL2 (P := P) (w := w) rfl rfl rfl) (by rfl) nset (by decide +kernel) (pa_cons (pv 1) pa_nil)) pa_nil))))), ?_⟩
    refine ⟨smallE (by show 0 ≤ 1000000; decide), fun q0 n0 => ?_⟩
    have s0' := same_new (o := .lst []) n0
    refine ⟨_, rfl, a, rfl, ⟨_, Same.sqT s0' hC.1⟩, ?_⟩
    refine for_it (walk_tup (K := K) (a := a) (xs := cs.map fun c => V.ref c.a)) (fun i σ Z => ∃ (q1 : Addr) (x2 x3 x4 x5 x6 : Option V), σ = [some (.ref a), some (.ref q1), x2, x3, x4, x5, x6] ∧ Same H Z ∧ H q1 = none ∧ Z q1 = some (.lst ((dns (cs.take i)).map V.str))) ⟨q0, none, none, none, none, none, rfl, s0', n0, upd_same⟩ (fun i σ Z _ h => ?_) (fun i y σ Z Z' hi h yy => ?_) (fun σ Z h => ?_)
    · obtain ⟨_, _, _, _, _, _, _, sZ, _⟩ := h
      exact Same.sqT sZ hC.1
    · obtain ⟨rfl, hy⟩ := yy
      obtain ⟨c, hc, rfl⟩ := get_map hy
      obtain ⟨q1, x2, x3, x4, x5, x6, rfl, sZ, n1, eZ⟩ := h
      have mc := List.mem_of_getElem? hc
      have cc := (hC.2 c mc).mono sZ
      refine ⟨c.a, _, rfl, cc.t, rfl, _, _, rfl, _, _, rfl, _, _, rfl, _, _, rfl, rfl, ?_⟩
      refine ⟨_, rfl, _, rfl, c.sa, rfl, ⟨_, cc.s⟩, fun D nD => ?_⟩
      have lle := dns_le (j := c.ss.length) hc
      rw [List.take_length, List.length_append] at lle
      refine lc_it (walk_tup (K := K) (a := c.sa) (xs := c.ss.map fun p => V.ref p.1)) (fun j G => Same Z' G ∧ G D = some (.lst ((dn (c.ss.take j)).map V.str))) ⟨same_new nD, upd_same⟩ (fun _ _ _ h => Same.sqT h.1 cc.s) (fun j x G G' hj h y => ?_) (fun G h => ?_)
      · obtain ⟨rfl, hy⟩ := y
        obtain ⟨p, hp, rfl⟩ := get_map hy
        obtain ⟨sG, eG⟩ := h
        have hst := sG _ _ (cc.p p (List.mem_of_getElem? hp))
        refine ⟨rfl, .ref p.1, rfl, p.1, _, _, .str (kindS p.2.call), rfl, rfl, sqT_new hst, rfl, rfl, _, rfl, ?_⟩
        rw [kind_do]
        have hs := dn_snoc hp
        refine ite2 (fun e => ?_) (fun e => ?_)
        · have e : p.2.call = false := by simpa using e
          refine ⟨_, rfl, p.1, _, _, .str p.2.nm, rfl, rfl, sqT_new hst, rfl, _, eG, ?_, ?_, ?_⟩
          · have := dns_le (j := j) hc
            rw [List.length_append] at this
            rw [List.length_map]
            exact small (by omega)
          · intro b o eb
            rw [upd_ne (ne_of_none eb nD)]
            exact sG _ _ eb
          · rw [upd_same, hs, e, if_neg (by decide), List.map_append]
            rfl
        · have e : p.2.call = true := by simpa using e
          refine ⟨sG, ?_⟩
          rw [hs, e, if_pos rfl, List.append_nil]
          exact eG
      · obtain ⟨sG, eG⟩ := h
        rw [List.length_map, List.take_length] at eG
        refine ⟨q1, D, _, _, rfl, rfl, sG _ _ eZ, eG, by rw [List.length_map, List.length_map]; exact smallE (by omega), fun p np => ?_⟩
        refine ⟨p, _, _, _, _, _, rfl, (sZ.trans sG).trans (same_new np), (sZ.trans sG).free np, ?_⟩
        rw [upd_same, dns_snoc hc, List.map_append]
    · obtain ⟨q1, x2, x3, x4, x5, x6, rfl, sZ, n1, eZ⟩ := h
      rw [List.length_map, List.take_length] at eZ
      refine ⟨.ref q1, rfl, q1, dns cs, rfl, sqL_new eZ, lz, fun p1 np1 => ?_⟩
      refine ⟨p1, dns cs, rfl, upd_same, lz, fun ys p2 so nd me np2 => ?_⟩
      exact q _ p2 ys ((sZ.trans (same_new np1)).trans (same_new np2)) ((sZ.trans (same_new np1)).free np2) upd_same ⟨perm_of_mem nd (uniq_nd _) fun x => by rw [me, mem_uniq], so⟩
end
end Kb
namespace Kb
open PySem PySem.Spec PyProof.Rows L2
/-! ### _law_moves -/
theorem catA_at {X : Cx} {K : PySem.W.Frag} (h : X.K = K) : OpR X (binaryOp .Add) (rCatA K) := by
  subst h
  exact op_catA
structure MV where
  a : Addr
  m : Addr
  la : Addr
  mv : Option (Nat × Stp)
  lt : List Stg
def mvV : Option (Nat × Stp) → List V
  | none => [.str "leave"]
  | some e => [.str (kindS e.2.call), .int (e.1 : Int)]
def MvAt (K : PySem.W.Frag) (H : Hp) (t : MV) : Prop := H t.a = some (.tup [.ref t.m, .ref t.la]) ∧ H t.m = some (.tup (mvV t.mv)) ∧ PtS K H t.la t.lt
theorem MvAt.mono {K : PySem.W.Frag} {H H' : Hp} {t : MV} (s : Same H H') (h : MvAt K H t) : MvAt K H' t := ⟨s _ _ h.1, s _ _ h.2.1, h.2.2.mono s⟩
theorem MvAt.but {K : PySem.W.Frag} {H H' : Hp} {x : Addr} {t : MV} {zs : List V} (hx : H x = some (.lst zs)) (s : But x H H') (h : MvAt K H t) : MvAt K H' t := ⟨s _ _ (fun z => by have := h.1; rw [z, hx] at this; cases this) h.1, s _ _ (fun z => by have := h.2.1; rw [z, hx] at this; cases this) h.2.1, h.2.2.but hx s⟩
/-- what a move is -/
def MvOk (cs : List CA) (x : Stg) (rest : List Stg) (t : MV) : Prop := (t.mv = none ∧ x ∈ endsS cs ∧ t.lt = rest) ∨ ∃ k s, t.mv = some (k, s) ∧ s.n = x.2 ∧ (x.1, s) ∈ linesS cs ∧ (∃ c ∈ cs, x.1 = c.nm ∧ ∃ a, c.ss[k]? = some (a, s)) ∧ t.lt = partsS x.1 s ++ rest
section
variable {P : Program} {w : World} {K : PySem.W.Frag} {mg : Str → Option Value} {base : Heap}
def spLawMoves (K : PySem.W.Frag) : Sp := fun vs H Q _ => ∃ (q1 q2 pl : Addr) (cs : List CA) (xs : List Stg), vs = [.ref q1, .ref q2, .ref pl] ∧ CsOk cs ∧ LeavAt H q1 cs ∧ StLs H q2 (endsS cs) ∧ PtS K H pl xs ∧ xs.length ≤ 1000 ∧ (∀ x ∈ xs, x ∈ stagesS cs) ∧
  ∀ H' q L, Same H H' → H q = none → H' q = some (.lst ((L : List MV).map fun t => V.ref t.a)) → L.length ≤ 10000 → (∀ t ∈ L, MvAt K H' t) → (xs = [] → L = []) → (∀ x r, xs = x :: r → ∀ t ∈ L, MvOk cs x r t) → Q (.ref q) H'
abbrev nMo : List Str := ["leaving", "ends", "pile", "found", "step"]
theorem scMo : FnScope nMo ["leaving", "ends", "pile"] (defScope sLawMoves) := ⟨rfl, rfl, rfl, by decide +kernel, rfl, by decide +kernel, by decide +kernel⟩
theorem ok_lawmoves {f : Addr} {fd : FuncData} (F : Fun K "_law_moves" "_law_moves" sLawMoves f fd) (N : Nones mg) : FnOk P w K mg base CX0 1 f fd ["leaving", "ends", "pile"] (spLawMoves K) := by
  refine F.ok scMo (fun vs H Q E h => ?_) (fun cdv A outer s H vs Q E hr h => ?_)
  · obtain ⟨q1, q2, pl, cs, xs, rfl, _⟩ := h
    rfl
  · obtain ⟨q1, q2, pl, cs, xs, rfl, ok, hL, hE, hP, lx, hst, q⟩ := h
    have nmP : ∀ x ∈ xs, isName x.1 = true := fun x hx => by
      obtain ⟨c, mc, e1, _⟩ := mem_stagesS.mp (hst x hx)
      rw [e1]
      exact (ok.ok c mc).nm
    have nmE : ∀ z ∈ endsS cs, isName z.1 = true := fun z hz => by
      obtain ⟨c', hc', e1, _⟩ := mem_endsS.mp hz
      rw [e1]
      exact (ok.ok c' hc').nm
    refine split_tail (fun σ Z => σ = [some (.ref q1), some (.ref q2), some (.ref pl), none, none] ∧ Same H Z ∧ xs ≠ []) ?_ ?_
    · refine split_next _ (fun σ Z => ∃ (o : Addr) (F : List MV), σ = [some (.ref q1), some (.ref q2), some (.ref pl), some (.ref o), none] ∧ Same H Z ∧ xs ≠ [] ∧ Z o = some (.lst (F.map fun t => V.ref t.a)) ∧ F.length ≤ 1 ∧ (∀ t ∈ F, MvAt K Z t) ∧ ∀ x r, xs = x :: r → ∀ t ∈ F, MvOk cs x r t) ?_ ?_
      · refine ⟨_, (pss_one (ps_ret (pe_op op_cat (pv 3) (pe_lc (own := [("step", 4)]) (g := gName 4) (tt := tYes) rfl scMo.nd (pi_list (pe_dget (hu_of hr) (pv 0) (pe_ix ix_tup (pv 2) pe_int (fun _ _ => rfl)) (fun _ _ => rfl))) (blkOk_by (own := [("step", 4)]) (N := nMo) (sc := defScope sLawMoves) (by decide +kernel)) (fun _ _ _ _ _ => (pg_name (i := 4) scMo.nd rfl (Or.inl rfl))) (fun _ _ _ _ _ => pts_nil) (fun _ _ _ _ _ => (pe_tup (pa_cons (pe_ix (ixT_at (K := K) rfl) (pv 4) pe_int (fun _ _ => rfl)) (pa_cons (pe_op (catA_at (K := K) rfl) (pe_ix (ixT_at (K := K) rfl) (pv 4) pe_int (fun _ _ => rfl)) (pe_slice (slA_at (K := K) rfl) (pv 2) (po_some pe_int) po_none)) pa_nil)))))))), fun σ Z h => ?_⟩
        obtain ⟨o, F, rfl, sZ, hne, eo, lF, tF, oF⟩ := h
        have hL := hL.mono sZ
        have hP := hP.mono sZ
        cases xs with
        | nil => exact absurd rfl hne
        | cons x r =>
        have hx := hst x List.mem_cons_self
        obtain ⟨PL, p1, p2, p3⟩ := id hP
        cases PL with
        | nil => exact nomatch p2
        | cons t PL =>
        rw [List.map_cons] at p2
        injection p2 with p2 p2'
        subst p2
        have h1 := p3 t List.mem_cons_self
        have at0 : atI ((t :: PL).map fun t => V.ref t.1) 0 = some (.ref t.1) := atI_nat (j := 0) rfl
        obtain ⟨kvs, l, EE, e1, e2, e3, e4, e5, e6, e7, _⟩ := leav_row ok hL hx
        refine ⟨_, rfl, _, rfl, _, rfl, pl, _, _, .ref t.1, rfl, rfl, p1, at0, q1, .ref l, rfl, e2 ▸ DGet.t e1 (k := stK t.2) h1, l, rfl, ⟨_, sqL_new e3⟩, fun D nD => ?_⟩
        refine lc_it (walk_list (K := K) (a := l) (xs := EE.map fun y => V.ref y.e)) (fun j G => Same Z G ∧ ∃ L : List MV, G D = some (.lst (L.map fun t => V.ref t.a)) ∧ L.length = j ∧ (∀ t ∈ L, MvAt K G t) ∧ ∀ u ∈ L, MvOk cs t.2 r u) ⟨same_new nD, [], upd_same, rfl, (fun t ht => nomatch ht), (fun t ht => nomatch ht)⟩ (fun _ _ _ h => sqL_new (h.1 _ _ e3)) (fun j y G G' hj h yy => ?_) (fun G h => ?_)
        · obtain ⟨rfl, hy⟩ := yy
          obtain ⟨y, hy2, rfl⟩ := get_map hy
          obtain ⟨sG, L, eD, lL, tL, oL⟩ := h
          have my := List.mem_of_getElem? hy2
          have hyA := (e4 y my).ts (TS.of sG)
          obtain ⟨y1, y2, y3⟩ := id hyA
          refine ⟨rfl, _, rfl, y.e, _, _, .ref y.m, rfl, rfl, sqT_new y1, rfl, _, rfl, y.e, _, _, .ref y.pa, rfl, rfl, sqT_new y1, rfl, _, rfl, 1, rfl, ?_⟩
          dsimp only [tNoPart]
          refine (hP.mono sG).drop fun G1 p1 s1 hp1 => ?_
          refine (PtsAt.pts y3 |>.mono s1).cat hp1 ?_ fun G2 p2 s2 hp2 => ?_
          · have h1 := partsS_len t.2.1 y.s
            rw [List.length_drop]
            omega
          · refine ⟨smallE (by show 2 ≤ 1000000; decide), fun a na => ?_⟩
            have s3 := same_new (o := .tup [V.ref y.m, .ref p2]) na
            have ea : upd G2 a (.tup [V.ref y.m, .ref p2]) a = some (.tup [V.ref y.m, .ref p2]) := upd_same
            have s13 := (s1.trans s2).trans s3
            have eD := s13 _ _ eD
            have ey2 := s13 _ _ y2
            have hp3 := hp2.mono s3
            have tL : ∀ t ∈ L, MvAt K (upd G2 a (.tup [V.ref y.m, .ref p2])) t := fun t ht => (tL t ht).mono s13
            have sG3 := sG.trans s13
            generalize upd G2 a (.tup [V.ref y.m, .ref p2]) = G3 at ea eD ey2 hp3 tL sG3
            have kD : But D G3 (upd G3 D (.lst ((L.map fun t => V.ref t.a) ++ [.ref a]))) := But.upd
            refine ⟨_, eD, by rw [List.length_map]; rw [List.length_map] at hj; exact small (by omega), fun b o e => ?_, L ++ [⟨a, y.m, p2, some (y.k, y.s), partsS t.2.1 y.s ++ r⟩], ?_, ?_, fun u hu => ?_, fun u hu => ?_⟩
            · rw [upd_ne (ne_of_none e nD)]
              exact sG3 _ _ e
            · rw [upd_same, List.map_append]
              rfl
            · rw [List.length_append, lL]
              rfl
            · rcases List.mem_append.mp hu with z | z
              · exact (tL u z).but eD kD
              · rw [List.mem_singleton.mp z]
                exact MvAt.but eD kD ⟨ea, ey2, hp3⟩
            · rcases List.mem_append.mp hu with z | z
              · exact oL u z
              · rw [List.mem_singleton.mp z]
                obtain ⟨z1, z2, c, z3, z4, z5⟩ := e7 y my
                exact .inr ⟨y.k, y.s, rfl, z1, z2, ⟨c, z3, z4, z5⟩, rfl⟩
        · obtain ⟨sG, L, eD, lL, tL, oL⟩ := h
          rw [List.length_map] at lL
          refine ⟨o, D, _, _, rfl, rfl, sG _ _ eo, eD, by rw [List.length_map, List.length_map]; exact smallE (by omega), fun p np => ?_⟩
          have sp := same_new (o := .lst ((F.map fun t => V.ref t.a) ++ L.map fun t => V.ref t.a)) np
          refine q _ p (F ++ L) ((sZ.trans sG).trans sp) ((sZ.trans sG).free np) ?_ (by rw [List.length_append]; omega) (fun u hu => ?_) (fun z => (nomatch z)) fun x' r' e u hu => ?_
          · rw [upd_same, List.map_append]
          · rcases List.mem_append.mp hu with z | z
            · exact ((tF u z).mono sG).mono sp
            · exact (tL u z).mono sp
          · rcases List.mem_append.mp hu with z | z
            · exact oF _ _ e u z
            · cases e
              exact oL u z
      · refine ⟨_, (ps_set (i := 3) scMo.nd rfl (Or.inl rfl) (pe_ifExp (pt_cmpR (op_inD (room65 hr)) (pe_ix ix_tup (pv 2) pe_int (fun _ _ => rfl)) (pv 1) (by rfl)) (pe_lst (pa_cons (pe_tup (pa_cons (pe_tup (pa_cons pe_str pa_nil)) (pa_cons (pe_slice sl_tupA (pv 2) (po_some pe_int) po_none) pa_nil))) pa_nil)) (pe_lst pa_nil))), fun N hN σ Z h => ?_⟩
        obtain ⟨rfl, sZ, hne⟩ := h
        have hE := hE.mono sZ
        have hP := hP.mono sZ
        cases xs with
        | nil => exact absurd rfl hne
        | cons x r =>
        have hx := hst x List.mem_cons_self
        obtain ⟨PL, p1, p2, p3⟩ := id hP
        obtain ⟨EL0, g1, g2, g3⟩ := id hE
        cases PL with
        | nil => exact nomatch p2
        | cons t PL =>
        rw [List.map_cons] at p2
        injection p2 with p2 p2'
        subst p2
        have h1 := p3 t List.mem_cons_self
        have at0 : atI ((t :: PL).map fun t => V.ref t.1) 0 = some (.ref t.1) := atI_nat (j := 0) rfl
        have nmX := nmP _ List.mem_cons_self
        refine ⟨_, rfl, pl, _, _, .ref t.1, rfl, rfl, p1, at0, _, rfl, stgD t.2, (EL0.map (·.2)).map stgD, dp_stg h1, .lst (sqL_new g1) (dp_stgs g3), stg_shaped nmX, stg_all (by rw [g2]; exact nmE), ?_⟩
        rw [any_stg, g2]
        refine ⟨_, rfl, ite2 (fun c0 => ?_) (fun c0 => ?_)⟩
        · refine ⟨smallE (by show 1 ≤ 1000000; decide), fun m nm => ?_⟩
          have sm := same_new (o := .tup [V.str "leave"]) nm
          have em : upd Z m (.tup [V.str "leave"]) m = some (.tup [V.str "leave"]) := upd_same
          have hP := hP.mono sm
          have sZ := sZ.trans sm
          generalize upd Z m (.tup [V.str "leave"]) = Z1 at sm em hP sZ
          refine ⟨_, rfl, 1, rfl, ?_⟩
          dsimp only [tNoPart]
          refine hP.drop fun Z2 p2 s2 hp2 => ?_
          refine ⟨smallE (by show 2 ≤ 1000000; decide), fun a na => ⟨smallE (by show 1 ≤ 1000000; decide), fun o no => ?_⟩⟩
          have s3 := same_new (o := .tup [V.ref m, .ref p2]) na
          have s4 := same_new (o := .lst [V.ref a]) no
          refine hN _ _ ⟨o, [⟨a, m, p2, none, r⟩], rfl, ((sZ.trans s2).trans s3).trans s4, fun z => (nomatch z), upd_same, Nat.le_refl _, fun t ht => ?_, fun x' r' e t' ht' => ?_⟩
          · rw [List.mem_singleton.mp ht]
            exact ⟨s4 _ _ upd_same, s4 _ _ (s3 _ _ (s2 _ _ em)), (hp2.mono s3).mono s4⟩
          · rw [List.mem_singleton.mp ht']
            cases e
            exact .inl ⟨rfl, of_decide_eq_true c0, rfl⟩
        · refine ⟨Nat.zero_le _, fun o no => ?_⟩
          exact hN _ _ ⟨o, [], rfl, sZ.trans (same_new no), fun z => (nomatch z), upd_same, Nat.zero_le _, fun t ht => (nomatch ht), fun _ _ _ t ht => (nomatch ht)⟩
    · refine ⟨_, (ps_if (pt_cmpR (op_eqD hr.units) (pv 2) (pe_tup pa_nil) (nomark _)) (pss_one (ps_ret (pe_lst pa_nil))) pss_nil), fun N hN => ?_⟩
      refine ⟨_, rfl, Nat.zero_le _, fun e ne => ?_⟩
      have se := same_new (o := .tup []) ne
      have ee : upd H e (.tup []) e = some (.tup []) := upd_same
      have hP := hP.mono se
      generalize upd H e (.tup []) = Y at se ee hP
      refine ⟨_, .tuple [], hP.dp, .tup (sqT_new ee) .nil, stg_allT nmP, by decide +kernel, ?_⟩
      rw [eqv_nil]
      cases xs with
      | nil =>
        refine ⟨_, rfl, iteYes (by decide +kernel) ?_⟩
        refine ⟨Nat.zero_le _, fun o no => ?_⟩
        exact q _ o [] (se.trans (same_new no)) (se.free no) upd_same (Nat.zero_le _) (fun t ht => (nomatch ht)) (fun _ => rfl) fun x r h => (nomatch h)
      | cons x r =>
        refine ⟨_, rfl, iteNo rfl ?_⟩
        exact hN _ _ ⟨rfl, se, fun z => (nomatch z)⟩
end
end Kb
namespace Kb
open PySem PySem.Spec PyProof.Rows L2
/-! ### the trees of the chosen ways -/
theorem flt_le {α : Type} {p q : α → Bool} : ∀ {l : List α}, (∀ x ∈ l, p x = true → q x = true) → (l.filter p).length ≤ (l.filter q).length
  | [], _ => Nat.le_refl _
  | x :: l, h => by
    have ih := flt_le (l := l) fun y hy => h y (List.mem_cons_of_mem _ hy)
    have h1 := h x List.mem_cons_self
    rw [List.filter_cons, List.filter_cons]
    cases hp : p x with
    | true =>
      rw [h1 hp, if_pos rfl, if_pos rfl, List.length_cons, List.length_cons]
      omega
    | false =>
      rw [if_neg Bool.false_ne_true]
      cases hq : q x with
      | true => rw [if_pos rfl, List.length_cons]; omega
      | false => rw [if_neg Bool.false_ne_true]; exact ih
theorem flt_lt {α : Type} {p q : α → Bool} : ∀ {l : List α} {a : α}, (∀ x ∈ l, p x = true → q x = true) → a ∈ l → q a = true → p a = false → (l.filter p).length < (l.filter q).length
  | [], _, _, ha, _, _ => nomatch ha
  | x :: l, a, h, ha, hq, hp => by
    have le := flt_le (l := l) fun y hy => h y (List.mem_cons_of_mem _ hy)
    have h1 := h x List.mem_cons_self
    rcases List.mem_cons.mp ha with z | z
    · subst z
      rw [List.filter_cons, List.filter_cons, hq, hp, if_pos rfl, if_neg Bool.false_ne_true, List.length_cons]
      omega
    · have ih := flt_lt (fun y hy => h y (List.mem_cons_of_mem _ hy)) z hq hp
      rw [List.filter_cons, List.filter_cons]
      cases hpx : p x with
      | true =>
        rw [h1 hpx, if_pos rfl, if_pos rfl, List.length_cons, List.length_cons]
        omega
      | false =>
        rw [if_neg Bool.false_ne_true]
        cases hqx : q x with
        | true => rw [if_pos rfl, List.length_cons]; omega
        | false => rw [if_neg Bool.false_ne_true]; exact ih
def tsz (par : Stg → List Stg) : Nat → Stg → Nat
  | 0, _ => 0
  | n + 1, x => 1 + ((par x).map (tsz par n)).sum
theorem tsz_st {Ks : List Stg} {m : Stg → Nat} {par : Stg → List Stg} (dec : ∀ x ∈ Ks, ∀ p ∈ par x, p ∈ Ks ∧ m p < m x) : ∀ n k x, x ∈ Ks → m x < n → m x < k → tsz par n x = tsz par k x
  | 0, _, _, _, h, _ => absurd h (Nat.not_lt_zero _)
  | _ + 1, 0, _, _, _, h => absurd h (Nat.not_lt_zero _)
  | n + 1, k + 1, x, hx, h1, h2 => by
    have : (par x).map (tsz par n) = (par x).map (tsz par k) := List.map_congr_left fun p hp => by
      have d := dec x hx p hp
      exact tsz_st dec n k p d.1 (by omega) (by omega)
    show 1 + _ = 1 + _
    rw [this]
/-- sizes of trees -/
theorem size_ex {Ks : List Stg} {m : Stg → Nat} {par : Stg → List Stg} (dec : ∀ x ∈ Ks, ∀ p ∈ par x, p ∈ Ks ∧ m p < m x) : ∃ g : Stg → Nat, ∀ x ∈ Ks, g x = 1 + ((par x).map g).sum := by
  refine ⟨fun x => tsz par (m x + 1) x, fun x hx => ?_⟩
  have : (par x).map (tsz par (m x)) = (par x).map (fun x => tsz par (m x + 1) x) := List.map_congr_left fun p hp => by
    have d := dec x hx p hp
    exact tsz_st dec _ _ p d.1 d.2 (Nat.lt_succ_self _)
  show 1 + ((par x).map (tsz par (m x))).sum = _
  rw [this]
def rB (m : Stg → Nat) (x : Stg) : Nat := ((List.range 3).filter fun j => decide (m (x.1, j) < m x)).length
def bB (m : Stg → Nat) (ns : List Str) (x : Stg) : Nat := (ns.filter fun n => decide (m (n, 0) < m x)).length
def aB : Nat → Nat
  | 0 => 0
  | b + 1 => 3 + 2 * aB b
theorem aB_step (b : Nat) : aB b ≤ aB (b + 1) := by
  show aB b ≤ 3 + 2 * aB b
  omega
theorem aB_mono : ∀ {b b' : Nat}, b ≤ b' → aB b ≤ aB b' := fun {b b'} h => by
  induction h with
  | refl => exact Nat.le_refl _
  | step _ ih => exact Nat.le_trans ih (aB_step _)
theorem rB2 (m : Stg → Nat) {x : Stg} (h : x.2 < 3) : rB m x ≤ 2 := by
  have : rB m x < ((List.range 3).filter fun _ => true).length := flt_lt (a := x.2) (fun _ _ _ => rfl) (List.mem_range.mpr h) rfl (decide_eq_false (Nat.lt_irrefl _))
  have e : ((List.range 3).filter fun _ => true).length = 3 := rfl
  omega
theorem tree_le {Ks : List Stg} {m : Stg → Nat} {par : Stg → List Stg} {g : Stg → Nat} {ns : List Str} (dec : ∀ x ∈ Ks, ∀ p ∈ par x, p ∈ Ks ∧ m p < m x) (hg : ∀ x ∈ Ks, g x = 1 + ((par x).map g).sum) (h3 : ∀ x ∈ Ks, x.2 < 3)
    (hp : ∀ x ∈ Ks, par x = [] ∨ (∃ o, par x = [(x.1, o)]) ∨ ∃ q o, q ∈ ns ∧ par x = [(q, 0), (x.1, o)]) : ∀ n x, x ∈ Ks → m x < n → g x ≤ 1 + rB m x + rB m x * aB (bB m ns x)
  | 0, _, _, h => absurd h (Nat.not_lt_zero _)
  | n + 1, x, hx, h => by
    have own : ∀ o, (x.1, o) ∈ par x → g (x.1, o) + aB (bB m ns x) ≤ rB m x + rB m x * aB (bB m ns x) := fun o ho => by
      have d := dec x hx _ ho
      have ih := tree_le dec hg h3 hp n (x.1, o) d.1 (by omega)
      have r1 : rB m (x.1, o) < rB m x := flt_lt (a := o) (fun j _ hj => decide_eq_true (by have h1 : m (x.1, j) < m (x.1, o) := of_decide_eq_true hj; have := d.2; omega)) (List.mem_range.mpr (h3 _ d.1)) (decide_eq_true d.2) (decide_eq_false (Nat.lt_irrefl _))
      have b1 : bB m ns (x.1, o) ≤ bB m ns x := flt_le fun q _ hq => decide_eq_true (by have := of_decide_eq_true hq; have := d.2; omega)
      have a1 := aB_mono b1
      have m1 : rB m (x.1, o) * aB (bB m ns (x.1, o)) ≤ rB m (x.1, o) * aB (bB m ns x) := Nat.mul_le_mul_left _ a1
      have m2 : (rB m (x.1, o) + 1) * aB (bB m ns x) ≤ rB m x * aB (bB m ns x) := Nat.mul_le_mul_right _ r1
      rw [Nat.add_mul, Nat.one_mul] at m2
      omega
    rcases hp x hx with e | ⟨o, e⟩ | ⟨q, o, hq, e⟩
    · rw [hg x hx, e]
      show 1 + 0 ≤ _
      omega
    · have := own o (by rw [e]; exact List.mem_cons_self)
      rw [hg x hx, e]
      show 1 + (g (x.1, o) + 0) ≤ _
      omega
    · have h1 := own o (by rw [e]; exact List.mem_cons_of_mem _ List.mem_cons_self)
      have d := dec x hx (q, 0) (by rw [e]; exact List.mem_cons_self)
      have ih := tree_le dec hg h3 hp n (q, 0) d.1 (by omega)
      have r2 := rB2 m (x := (q, 0)) (by show 0 < 3; omega)
      have b1 : bB m ns (q, 0) < bB m ns x := flt_lt (a := q) (fun y _ hy => decide_eq_true (by have := of_decide_eq_true hy; have := d.2; omega)) hq (decide_eq_true d.2) (decide_eq_false (Nat.lt_irrefl _))
      have a1 : aB (bB m ns (q, 0) + 1) ≤ aB (bB m ns x) := aB_mono b1
      have a2 : aB (bB m ns (q, 0) + 1) = 3 + 2 * aB (bB m ns (q, 0)) := rfl
      have m1 : rB m (q, 0) * aB (bB m ns (q, 0)) ≤ 2 * aB (bB m ns (q, 0)) := Nat.mul_le_mul_right _ r2
      rw [hg x hx, e]
      show 1 + (g (q, 0) + (g (x.1, o) + 0)) ≤ _
      omega
theorem tree45 {Ks : List Stg} {m : Stg → Nat} {par : Stg → List Stg} {g : Stg → Nat} {ns : List Str} (n3 : ns.length ≤ 3) (dec : ∀ x ∈ Ks, ∀ p ∈ par x, p ∈ Ks ∧ m p < m x) (hg : ∀ x ∈ Ks, g x = 1 + ((par x).map g).sum) (h3 : ∀ x ∈ Ks, x.2 < 3)
    (hp : ∀ x ∈ Ks, par x = [] ∨ (∃ o, par x = [(x.1, o)]) ∨ ∃ q o, q ∈ ns ∧ par x = [(q, 0), (x.1, o)]) {x : Stg} (hx : x ∈ Ks) : g x ≤ 45 := by
  have h := tree_le dec hg h3 hp (m x + 1) x hx (Nat.lt_succ_self _)
  have r2 := rB2 m (h3 x hx)
  have b3 : bB m ns x ≤ 3 := Nat.le_trans (List.length_filter_le _ _) n3
  have a3 := aB_mono b3
  have e3 : aB 3 = 21 := rfl
  have m1 : rB m x * aB (bB m ns x) ≤ 2 * 21 := Nat.mul_le_mul r2 (by omega)
  omega
/-! ### what a way does -/
theorem lcF_sum (f : Stg → Cost) : ∀ (ps : List Stg) (b : Cost), (Kz.lcF f ps b).1 = b.1 + (ps.map fun p => (f p).1).sum ∧ (Kz.lcF f ps b).2 = b.2 + (ps.map fun p => (f p).2).sum
  | [], b => ⟨rfl, rfl⟩
  | p :: ps, b => by
    have ih := lcF_sum f ps (Kz.cadd b (f p))
    have e : Kz.lcF f (p :: ps) b = Kz.lcF f ps (Kz.cadd b (f p)) := rfl
    rw [e, List.map_cons, List.map_cons, List.sum_cons, List.sum_cons]
    refine ⟨ih.1.trans ?_, ih.2.trans ?_⟩
    · show b.1 + (f p).1 + _ = _
      omega
    · show b.2 + (f p).2 + _ = _
      omega
def parO (x : Stg) : Option Stp → List Stg
  | none => []
  | some s => partsS x.1 s
def WayP (cs : List CA) (wf : Str → Nat) (dn : List (Stg × Cost)) (x : Stg) (W : Option Nat) : Option Stp → Prop
  | none => W = none ∧ x ∈ endsS cs
  | some s => x ∉ endsS cs ∧ ∃ c ∈ cs, x.1 = c.nm ∧ ∃ k a, W = some k ∧ c.ss[k]? = some (a, s) ∧ s.n = x.2 ∧ (∀ p ∈ partsS x.1 s, p ∈ Kz.keys dn) ∧ Kz.lcF (Kz.vf dn) (partsS x.1 s) (baseS wf s) = Kz.vf dn x
theorem way_p {cs : List CA} {wf : Str → Nat} {dn : List (Stg × Cost)} {x : Stg} {W : Option Nat} (h : WayIs cs wf dn x W) : ∃ o, WayP cs wf dn x W o := by
  rcases h with ⟨h1, h2⟩ | ⟨h1, c, mc, ec, i, k, hk, eW, ⟨s, hs, hp, hl⟩, _⟩
  · exact ⟨none, h2, h1⟩
  · obtain ⟨s', hs', en⟩ := mem_offs.mp (List.mem_of_getElem? hk)
    rw [hs] at hs'
    cases hs'
    rw [← ec] at hp hl
    exact ⟨some s.2, h1, c, mc, ec, k, s.1, eW, hs, en, hp, hl⟩
theorem way_fun {cs : List CA} {wf : Str → Nat} {dn : List (Stg × Cost)} {M : List WA} (nd : (M.map (·.2.1)).Nodup) (h : ∀ t ∈ M, WayIs cs wf dn t.2.1 t.2.2) : ∃ sp : Stg → Option Stp, ∀ t ∈ M, WayP cs wf dn t.2.1 t.2.2 (sp t.2.1) := by
  have ex : ∀ x : Stg, ∃ o, ∀ t ∈ M, t.2.1 = x → WayP cs wf dn x t.2.2 o := fun x => by
    by_cases e : ∃ t ∈ M, t.2.1 = x
    · obtain ⟨t, ht, rfl⟩ := e
      obtain ⟨o, ho⟩ := way_p (h t ht)
      refine ⟨o, fun u hu eu => ?_⟩
      have := inj_of_nd nd hu ht eu
      rw [this]
      exact ho
    · exact ⟨none, fun t ht et => absurd ⟨t, ht, et⟩ e⟩
  exact ⟨fun x => Classical.choose (ex x), fun t ht => Classical.choose_spec (ex t.2.1) t ht rfl⟩
/-- how often the way's step does the deed at a place -/
def uA (ds : List Str) (a : Nat) : Option Stp → Nat
  | none => 0
  | some s => if s.call = false ∧ ds[a]? = some s.nm then 1 else 0
theorem uA_some (ds : List Str) (a : Nat) (s : Stp) : uA ds a (some s) = if s.call = false ∧ ds[a]? = some s.nm then 1 else 0 := rfl
def cg (cf : Stg → List Nat) (a : Nat) (x : Stg) : Nat := ((cf x)[a]?).getD 0
theorem addC_at {a b : List Nat} (h : a.length = b.length) (i : Nat) : ((addC a b)[i]?).getD 0 = (a[i]?).getD 0 + (b[i]?).getD 0 := by
  unfold addC
  rw [List.getElem?_zipWith]
  by_cases hi : i < a.length
  · rw [List.getElem?_eq_getElem hi, List.getElem?_eq_getElem (by omega : i < b.length)]
    rfl
  · rw [List.getElem?_eq_none (by omega), List.getElem?_eq_none (by omega)]
    rfl
theorem foldC_at {f : Stg → List Nat} {n : Nat} (i : Nat) : ∀ {ps : List Stg} (b : List Nat), b.length = n → (∀ p ∈ ps, (f p).length = n) → ((ps.foldl (fun acc p => addC acc (f p)) b)[i]?).getD 0 = (b[i]?).getD 0 + (ps.map (cg f i)).sum
  | [], b, _, _ => by simp
  | p :: ps, b, h, hp => by
    have h1 := hp p List.mem_cons_self
    have l1 : (addC b (f p)).length = n := by rw [addC_len (by rw [h, h1]), h]
    rw [List.foldl_cons, foldC_at i _ l1 fun q hq => hp q (List.mem_cons_of_mem _ hq), addC_at (by rw [h, h1]), List.map_cons, List.sum_cons]
    unfold cg
    omega
theorem zeroC_at (ds : List Str) (i : Nat) : ((zeroC ds)[i]?).getD 0 = 0 := by
  unfold zeroC
  rw [List.getElem?_map]
  cases ds[i]? <;> rfl
theorem unitC_at (ds : List Str) (s : Stp) (i : Nat) : ((unitC ds s)[i]?).getD 0 = uA ds i (some s) := by
  cases hc : s.call with
  | true =>
    have e1 : unitC ds s = zeroC ds := by
      unfold unitC zeroC
      rw [if_pos hc]
    have e2 : uA ds i (some s) = 0 := by
      rw [uA_some, if_neg (fun z => by rw [hc] at z; exact absurd z.1 (by decide))]
    rw [e1, e2]
    exact zeroC_at ds i
  | false =>
    have e1 : unitC ds s = ds.map fun d => [s.nm].count d := by
      unfold unitC
      rw [if_neg (by rw [hc]; decide)]
    have e2 : uA ds i (some s) = if ds[i]? = some s.nm then 1 else 0 := by
      rw [uA_some]
      by_cases h : ds[i]? = some s.nm
      · rw [if_pos ⟨hc, h⟩, if_pos h]
      · rw [if_neg (fun z => h z.2), if_neg h]
    rw [e1, e2, List.getElem?_map]
    cases e : ds[i]? with
    | none => rfl
    | some d =>
      show List.count d [s.nm] = _
      by_cases h : d = s.nm
      · subst h
        simp
      · rw [if_neg (fun z => h (Option.some.inj z)), List.count_eq_zero]
        exact fun z => h (List.mem_singleton.mp z)
end Kb
namespace Kb
open PySem PySem.Spec PyProof.Rows L2
/-! ### prices of counts -/
def payF (ds : List Str) (wf : Str → Nat) (h : Nat → Nat) : Nat := ((List.range ds.length).map fun a => h a * wf ((ds[a]?).getD "")).sum
theorem sum_map_add {α : Type} (f g : α → Nat) : ∀ l : List α, (l.map fun x => f x + g x).sum = (l.map f).sum + (l.map g).sum
  | [] => rfl
  | x :: l => by
    rw [List.map_cons, List.map_cons, List.map_cons, List.sum_cons, List.sum_cons, List.sum_cons, sum_map_add f g l]
    omega
theorem sum_map_zero {α : Type} {f : α → Nat} : ∀ {l : List α}, (∀ x ∈ l, f x = 0) → (l.map f).sum = 0
  | [], _ => rfl
  | x :: l, h => by
    rw [List.map_cons, List.sum_cons, h x List.mem_cons_self, sum_map_zero fun y hy => h y (List.mem_cons_of_mem _ hy)]
theorem sum_map_le {α : Type} {f g : α → Nat} : ∀ {l : List α}, (∀ x ∈ l, f x ≤ g x) → (l.map f).sum ≤ (l.map g).sum
  | [], _ => Nat.le_refl _
  | x :: l, h => by
    have ih := sum_map_le fun y hy => h y (List.mem_cons_of_mem x hy)
    have h1 := h x List.mem_cons_self
    rw [List.map_cons, List.map_cons, List.sum_cons, List.sum_cons]
    omega
theorem sum_map_const {α : Type} {f : α → Nat} {k : Nat} : ∀ {l : List α}, (∀ x ∈ l, f x ≤ k) → (l.map f).sum ≤ k * l.length
  | [], _ => Nat.zero_le _
  | x :: l, h => by
    have ih := sum_map_const fun y hy => h y (List.mem_cons_of_mem x hy)
    have h1 := h x List.mem_cons_self
    rw [List.map_cons, List.sum_cons, List.length_cons, Nat.mul_succ]
    omega
theorem sum_single {f : Nat → Nat} : ∀ {n i : Nat}, i < n → (∀ a, a < n → a ≠ i → f a = 0) → ((List.range n).map f).sum = f i
  | 0, _, h, _ => absurd h (Nat.not_lt_zero _)
  | n + 1, i, h, hz => by
    rw [List.range_succ, List.map_append, List.sum_append]
    show _ + (f n + 0) = _
    by_cases e : i = n
    · subst e
      rw [sum_map_zero fun a ha => hz a (by have := List.mem_range.mp ha; omega) (by have := List.mem_range.mp ha; omega)]
      omega
    · rw [sum_single (i := i) (by omega) fun a ha hn => hz a (by omega) hn, hz n (by omega) (fun z => e z.symm)]
      omega
theorem payF_add (ds : List Str) (wf : Str → Nat) (h k : Nat → Nat) : payF ds wf (fun a => h a + k a) = payF ds wf h + payF ds wf k := by
  unfold payF
  rw [← sum_map_add]
  congr 1
  exact List.map_congr_left fun a _ => Nat.add_mul _ _ _
theorem payF_zero (ds : List Str) (wf : Str → Nat) : payF ds wf (fun _ => 0) = 0 := sum_map_zero fun a _ => Nat.zero_mul _
theorem payF_sum (ds : List Str) (wf : Str → Nat) (F : Nat → Stg → Nat) : ∀ ps : List Stg, payF ds wf (fun a => (ps.map (F a)).sum) = (ps.map fun p => payF ds wf fun a => F a p).sum
  | [] => payF_zero ds wf
  | p :: ps => by
    have := payF_add ds wf (fun a => F a p) (fun a => (ps.map (F a)).sum)
    rw [List.map_cons, List.sum_cons, ← payF_sum ds wf F ps, ← this]
    rfl
theorem payF_unit {ds : List Str} (wf : Str → Nat) (nd : ds.Nodup) {s : Stp} (h : s.call = false → s.nm ∈ ds) : payF ds wf (fun a => uA ds a (some s)) = (baseS wf s).1 := by
  unfold payF baseS
  cases hc : s.call with
  | true =>
    rw [if_pos rfl]
    refine sum_map_zero fun a _ => ?_
    show uA ds a (some s) * _ = 0
    rw [uA_some, if_neg (fun z => by rw [hc] at z; exact absurd z.1 (by decide)), Nat.zero_mul]
  | false =>
    obtain ⟨i, hi⟩ := List.getElem?_of_mem (h hc)
    have il := lt_of_get hi
    rw [sum_single il fun a ha hn => ?_]
    · show uA ds i (some s) * wf ((ds[i]?).getD "") = _
      rw [uA_some, if_pos ⟨hc, hi⟩, hi, if_neg Bool.false_ne_true, Nat.one_mul]
      rfl
    · show uA ds a (some s) * _ = 0
      rw [uA_some, if_neg (fun z => hn ((List.getElem?_inj ha nd).mp (z.2.trans hi.symm))), Nat.zero_mul]
/-! ### the chosen ways, all that is known -/
def castB (t : WA) : WB := (t.1, (t.2.1, t.2.2.map fun (k : Nat) => (k : Int)))
theorem castB_kv (M : List WA) : wbKV (M.map castB) = wyKV M := by
  unfold wbKV wyKV
  rw [List.map_map]
  rfl
theorem castB_ks (M : List WA) : wbks (M.map castB) = M.map (·.2.1) := by
  unfold wbks
  rw [List.map_map]
  rfl
theorem waysB_of {H : Hp} {q : Addr} {M : List WA} (h : WaysAt H q M) : WaysB H q (M.map castB) := by
  refine ⟨by rw [castB_kv]; exact h.1, fun t ht => ?_⟩
  obtain ⟨u, hu, rfl⟩ := List.mem_map.mp ht
  have := h.2 u hu
  rw [wayV_I] at this
  exact this
structure Chosen (cs : List CA) (ds : List Str) (wf : Str → Nat) (dn : List (Stg × Cost)) (M : List WA) (cf : Stg → List Nat) (sp : Stg → Option Stp) (g : Stg → Nat) : Prop where
  ks : ∀ x ∈ Kz.keys dn, ∃ t ∈ M, t.2.1 = x
  sk : ∀ t ∈ M, t.2.1 ∈ Kz.keys dn
  way : ∀ t ∈ M, WayP cs wf dn t.2.1 t.2.2 (sp t.2.1)
  fin : ∀ x ∈ Kz.keys dn, sp x = none → x ∈ endsS cs ∧ Kz.vf dn x = (0, 0)
  sum : ∀ x ∈ Kz.keys dn, ∀ s, sp x = some s → (Kz.vf dn x).1 = (baseS wf s).1 + ((partsS x.1 s).map fun p => (Kz.vf dn p).1).sum
  ln : ∀ x ∈ Kz.keys dn, ∀ s, sp x = some s → (x.1, s) ∈ linesS cs ∧ s.n = x.2
  dd : ∀ x ∈ Kz.keys dn, ∀ s, sp x = some s → s.call = false → s.nm ∈ ds
  dec : ∀ x ∈ Kz.keys dn, ∀ p ∈ parO x (sp x), p ∈ Kz.keys dn ∧ (Kz.vf dn p).2 < (Kz.vf dn x).2
  sz : ∀ x ∈ Kz.keys dn, g x = 1 + ((parO x (sp x)).map g).sum
  sz45 : ∀ x ∈ Kz.keys dn, g x ≤ 45
  ct : ∀ x ∈ Kz.keys dn, ∀ a, cg cf a x = uA ds a (sp x) + ((parO x (sp x)).map (cg cf a)).sum
theorem sum_ge {f : Stg → Nat} {p : Stg} : ∀ {ps : List Stg}, p ∈ ps → f p ≤ (ps.map f).sum
  | [], h => nomatch h
  | q :: ps, h => by
    rw [List.map_cons, List.sum_cons]
    rcases List.mem_cons.mp h with z | z
    · rw [z]
      omega
    · have := sum_ge (f := f) z
      omega
theorem base_two (wf : Str → Nat) (s : Stp) : (baseS wf s).2 = 1 := by
  unfold baseS
  cases s.call <;> rfl
theorem line_dd {cs : List CA} {ds : List Str} (hds : DsOf cs ds) {l : LN} (h : l ∈ linesS cs) (hc : l.2.call = false) : l.2.nm ∈ ds := by
  obtain ⟨c, mc, q, hq, rfl⟩ := mem_linesS.mp h
  exact hds.1.mem_iff.mpr ((mem_uniq _ _).mpr (dns_mem mc (List.mem_map.mpr ⟨q, List.mem_filter.mpr ⟨hq, by
    have hc : q.2.call = false := hc
    rw [hc]
    rfl⟩, rfl⟩)))
theorem line_nm {cs : List CA} (ok : CsOk cs) {l : LN} (h : l ∈ linesS cs) (hc : l.2.call = true) : l.2.nm ∈ cs.map (·.nm) := by
  obtain ⟨c, mc, q, hq, rfl⟩ := mem_linesS.mp h
  exact ok.cl c mc q.2.nm (List.mem_map.mpr ⟨q, List.mem_filter.mpr ⟨hq, hc⟩, rfl⟩)
/-- the first steps to it, without counts -/
theorem ways_known {cs : List CA} {wf : Str → Nat} {dn : List (Stg × Cost)} {M : List WA} (hset : Kz.Settled (endsS cs) (linesK (0, 1) (wf2 wf) cs) (0, 0) dn) (mk : (M.map (·.2.1)).Perm (Kz.keys dn)) {sp : Stg → Option Stp} (way : ∀ t ∈ M, WayP cs wf dn t.2.1 t.2.2 (sp t.2.1)) {x : Stg} (hx : x ∈ Kz.keys dn) :
    (∃ t ∈ M, t.2.1 = x ∧ WayP cs wf dn x t.2.2 (sp x)) ∧ (sp x = none → x ∈ endsS cs ∧ Kz.vf dn x = (0, 0)) ∧ (∀ s, sp x = some s → (x.1, s) ∈ linesS cs ∧ s.n = x.2 ∧ (Kz.vf dn x).1 = (baseS wf s).1 + ((partsS x.1 s).map fun p => (Kz.vf dn p).1).sum) ∧ ∀ p ∈ parO x (sp x), p ∈ Kz.keys dn ∧ (Kz.vf dn p).2 < (Kz.vf dn x).2 := by
  obtain ⟨t, ht, et⟩ := List.mem_map.mp (mk.mem_iff.mpr hx)
  have et : t.2.1 = x := et
  have w := way t ht
  rw [et] at w
  refine ⟨⟨t, ht, et, w⟩, fun e => ?_, fun s e => ?_, fun p hp => ?_⟩
  · rw [e] at w
    refine ⟨w.2, ?_⟩
    have := (hset.ends x w.2).2
    rcases this with h | ⟨h1, h2⟩
    · exact absurd h (Nat.not_lt_zero _)
    · exact Prod.ext h1 (Nat.le_zero.mp h2)
  · rw [e] at w
    obtain ⟨_, c, mc, ec, k, a, _, hs, en, hp, hl⟩ := w
    refine ⟨mem_linesS.mpr ⟨c, mc, (a, s), List.mem_of_getElem? hs, by rw [ec]⟩, en, ?_⟩
    rw [← hl]
    exact (lcF_sum _ _ _).1
  · cases e : sp x with
    | none =>
      rw [e] at hp
      exact nomatch hp
    | some s =>
      rw [e] at hp w
      obtain ⟨_, c, mc, ec, k, a, _, hs, en, hp', hl⟩ := w
      refine ⟨hp' p hp, ?_⟩
      rw [← hl, (lcF_sum _ _ _).2, base_two]
      have hp : p ∈ partsS x.1 s := hp
      have := sum_ge (f := fun p => (Kz.vf dn p).2) hp
      have this : (Kz.vf dn p).2 ≤ _ := this
      omega
theorem ways_sound {cs : List CA} {wf : Str → Nat} {dn : List (Stg × Cost)} {M : List WA} (hset : Kz.Settled (endsS cs) (linesK (0, 1) (wf2 wf) cs) (0, 0) dn) (mk : (M.map (·.2.1)).Perm (Kz.keys dn)) {sp : Stg → Option Stp} (way : ∀ t ∈ M, WayP cs wf dn t.2.1 t.2.2 (sp t.2.1)) : SoundP cs (M.map castB) := by
  refine ⟨fun x => (Kz.vf dn x).2, fun t ht => ?_⟩
  obtain ⟨u, hu, rfl⟩ := List.mem_map.mp ht
  have hk : u.2.1 ∈ Kz.keys dn := mk.mem_iff.mp (List.mem_map.mpr ⟨u, hu, rfl⟩)
  obtain ⟨_, _, _, h4⟩ := ways_known hset mk way hk
  refine ⟨parO u.2.1 (sp u.2.1), ?_, fun p hp => ⟨by rw [castB_ks]; exact mk.mem_iff.mpr (h4 p hp).1, (h4 p hp).2⟩⟩
  have w := way u hu
  cases e : sp u.2.1 with
  | none =>
    rw [e] at w
    exact .inl ⟨by show u.2.2.map _ = none; rw [w.1]; rfl, w.2, rfl⟩
  | some s =>
    rw [e] at w
    obtain ⟨_, c, mc, ec, k, a, eW, hs, en, _⟩ := w
    exact .inr ⟨c, mc, ec, (k : Int), (a, s), by show u.2.2.map _ = _; rw [eW]; rfl, ⟨k, rfl, hs, en⟩, by show partsS u.2.1.1 s = partsS c.nm s; rw [ec]⟩
theorem chosen_mk {cs : List CA} {ds : List Str} {wf : Str → Nat} {dn : List (Stg × Cost)} {M : List WA} {cf : Stg → List Nat} {sp : Stg → Option Stp} (ok : CsOk cs) (n3 : cs.length ≤ 3) (n4 : ∀ c ∈ cs, c.n ≤ 3) (hds : DsOf cs ds) (hset : Kz.Settled (endsS cs) (linesK (0, 1) (wf2 wf) cs) (0, 0) dn) (hst : ∀ x ∈ Kz.keys dn, x ∈ stagesS cs) (mk : (M.map (·.2.1)).Perm (Kz.keys dn)) (way : ∀ t ∈ M, WayP cs wf dn t.2.1 t.2.2 (sp t.2.1))
    (hct : ∀ x ∈ wbks (M.map castB), CtAt cs ds (M.map castB) cf x ∧ (cf x).length = ds.length) : ∃ g, Chosen cs ds wf dn M cf sp g := by
  have kn := fun {x} (hx : x ∈ Kz.keys dn) => ways_known hset mk way hx
  have dec : ∀ x ∈ Kz.keys dn, ∀ p ∈ parO x (sp x), p ∈ Kz.keys dn ∧ (Kz.vf dn p).2 < (Kz.vf dn x).2 := fun x hx => (kn hx).2.2.2
  obtain ⟨g, hg⟩ := size_ex (m := fun x => (Kz.vf dn x).2) (par := fun x => parO x (sp x)) dec
  refine ⟨g, fun x hx => let ⟨t, ht, et, _⟩ := (kn hx).1; ⟨t, ht, et⟩, fun t ht => mk.mem_iff.mp (List.mem_map.mpr ⟨t, ht, rfl⟩), way, fun x hx => (kn hx).2.1, fun x hx s e => ((kn hx).2.2.1 s e).2.2, fun x hx s e => ⟨((kn hx).2.2.1 s e).1, ((kn hx).2.2.1 s e).2.1⟩, fun x hx s e hc => line_dd hds ((kn hx).2.2.1 s e).1 hc, dec, hg, fun x hx => ?_, fun x hx a => ?_⟩
  · refine tree45 (ns := cs.map (·.nm)) (by rw [List.length_map]; exact n3) dec hg (fun x hx => ?_) (fun x hx => ?_) hx
    · obtain ⟨c, mc, _, h2⟩ := mem_stagesS.mp (hst x hx)
      have := n4 c mc
      omega
    · cases e : sp x with
      | none => exact .inl rfl
      | some s =>
        show partsS x.1 s = [] ∨ _
        cases hc : s.call with
        | false => exact .inr (.inl ⟨s.o, by show partsS x.1 s = _; unfold partsS; rw [if_neg (by rw [hc]; exact Bool.false_ne_true)]⟩)
        | true => exact .inr (.inr ⟨s.nm, s.o, line_nm ok ((kn hx).2.2.1 s e).1 hc, by show partsS x.1 s = _; unfold partsS; rw [if_pos hc]⟩)
  · obtain ⟨t, ht, et, w⟩ := (kn hx).1
    obtain ⟨hc1, hc2⟩ := hct x (by rw [castB_ks]; exact mk.mem_iff.mpr hx)
    obtain ⟨h1, h2⟩ := hc1 (castB t) (List.mem_map.mpr ⟨t, ht, rfl⟩) et
    cases e : sp x with
    | none =>
      rw [e] at w
      have := h1 (by show t.2.2.map _ = none; rw [w.1]; rfl)
      unfold cg
      rw [this]
      exact zeroC_at ds a
    | some s =>
      rw [e] at w
      obtain ⟨_, c, mc, ec, k, a', eW, hs, en, hp, _⟩ := w
      have := h2 (k : Int) c (a', s) mc ec (by show t.2.2.map _ = _; rw [eW]; rfl) ⟨k, rfl, hs, en⟩
      have e9 : cg cf a x = (((partsS c.nm s).foldl (fun acc p => addC acc (cf p)) (unitC ds s))[a]?).getD 0 := by
        unfold cg
        rw [this]
      rw [e9, foldC_at (f := cf) (n := ds.length) a _ (by unfold unitC; rw [List.length_map]) fun p hp' => (hct p (by rw [castB_ks]; exact mk.mem_iff.mpr (hp p (by rw [ec]; exact hp')))).2, unitC_at, ← ec]
      rfl
section
variable {cs : List CA} {ds : List Str} {wf : Str → Nat} {dn : List (Stg × Cost)} {M : List WA} {cf : Stg → List Nat} {sp : Stg → Option Stp} {g : Stg → Nat}
theorem Chosen.pay (C : Chosen cs ds wf dn M cf sp g) (nd : ds.Nodup) (wx : Str → Nat) {x : Stg} (hx : x ∈ Kz.keys dn) : payF ds wx (fun a => cg cf a x) = (match sp x with | none => 0 | some s => (baseS wx s).1) + ((parO x (sp x)).map fun p => payF ds wx fun a => cg cf a p).sum := by
  have e : (fun a => cg cf a x) = fun a => uA ds a (sp x) + ((parO x (sp x)).map (cg cf a)).sum := funext fun a => C.ct x hx a
  rw [e, payF_add, payF_sum]
  congr 1
  cases es : sp x with
  | none => exact payF_zero ds wx
  | some s => exact payF_unit wx nd (C.dd x hx s es)
theorem Chosen.pay_eq (C : Chosen cs ds wf dn M cf sp g) (nd : ds.Nodup) : ∀ n x, x ∈ Kz.keys dn → (Kz.vf dn x).2 < n → payF ds wf (fun a => cg cf a x) = (Kz.vf dn x).1
  | 0, _, _, h => absurd h (Nat.not_lt_zero _)
  | n + 1, x, hx, h => by
    have ih : ∀ p ∈ parO x (sp x), payF ds wf (fun a => cg cf a p) = (Kz.vf dn p).1 := fun p hp => Chosen.pay_eq C nd n p (C.dec x hx p hp).1 (by have := (C.dec x hx p hp).2; omega)
    rw [C.pay nd wf hx]
    have e : ((parO x (sp x)).map fun p => payF ds wf fun a => cg cf a p) = (parO x (sp x)).map fun p => (Kz.vf dn p).1 := List.map_congr_left ih
    rw [e]
    cases es : sp x with
    | none =>
      rw [(C.fin x hx es).2]
      rfl
    | some s =>
      rw [C.sum x hx s es]
      rfl
theorem line_le {wx : Str → Nat} {dm : List (Stg × Cost)} (hset : Kz.Settled (endsS cs) (linesK (0, 1) (wf2 wx) cs) (0, 0) dm) {nm : Str} {s : Stp} (hl : (nm, s) ∈ linesS cs) (hp : ∀ p ∈ partsS nm s, p ∈ Kz.keys dm) : (nm, s.n) ∈ Kz.keys dm ∧ (Kz.vf dm (nm, s.n)).1 ≤ (baseS wx s).1 + ((partsS nm s).map fun p => (Kz.vf dm p).1).sum := by
  have h := hset.lines (lnOf (0, 1) (wf2 wx) (nm, s)) (List.mem_map.mpr ⟨(nm, s), hl, rfl⟩) hp
  refine ⟨h.1, ?_⟩
  have h2 := Kz.cle_fst h.2
  have e : (Kz.lc dm (lnOf (0, 1) (wf2 wx) (nm, s))).1 = (baseS wx s).1 + ((partsS nm s).map fun p => (Kz.vf dm p).1).sum := (lcF_sum (Kz.vf dm) (partsS nm s) (baseS wx s)).1
  rw [← e]
  exact h2
theorem Chosen.pay_ge (C : Chosen cs ds wf dn M cf sp g) (nd : ds.Nodup) {wx : Str → Nat} {dm : List (Stg × Cost)} (hset : Kz.Settled (endsS cs) (linesK (0, 1) (wf2 wx) cs) (0, 0) dm) : ∀ n x, x ∈ Kz.keys dn → (Kz.vf dn x).2 < n → x ∈ Kz.keys dm ∧ (Kz.vf dm x).1 ≤ payF ds wx (fun a => cg cf a x)
  | 0, _, _, h => absurd h (Nat.not_lt_zero _)
  | n + 1, x, hx, h => by
    have ih : ∀ p ∈ parO x (sp x), p ∈ Kz.keys dm ∧ (Kz.vf dm p).1 ≤ payF ds wx (fun a => cg cf a p) := fun p hp => Chosen.pay_ge C nd hset n p (C.dec x hx p hp).1 (by have := (C.dec x hx p hp).2; omega)
    rw [C.pay nd wx hx]
    cases es : sp x with
    | none =>
      have h1 := hset.ends x (C.fin x hx es).1
      refine ⟨h1.1, ?_⟩
      have := Kz.cle_fst h1.2
      have this : (Kz.vf dm x).1 ≤ 0 := this
      omega
    | some s =>
      rw [es] at ih
      have hl := C.ln x hx s es
      have h1 := line_le hset hl.1 fun p hp => (ih p hp).1
      have ex : (x.1, s.n) = x := Prod.ext rfl hl.2
      rw [ex] at h1
      refine ⟨h1.1, ?_⟩
      have h2 := sum_map_le (f := fun p => (Kz.vf dm p).1) (g := fun p => payF ds wx fun a => cg cf a p) (l := partsS x.1 s) fun p hp => (ih p hp).2
      show _ ≤ (baseS wx s).1 + ((partsS x.1 s).map fun p => payF ds wx fun a => cg cf a p).sum
      omega
/-! ### the closing -/
structure ClI (Ks : List Stg) (cf : Stg → List Nat) (g : Stg → Nat) (pile0 : List Stg) (i : Nat) (pile : List Stg) (h : Nat → Nat) : Prop where
  ks : ∀ x ∈ pile, x ∈ Ks
  ct : ∀ a, h a + (pile.map (cg cf a)).sum = (pile0.map (cg cf a)).sum
  tm : i + (pile.map g).sum = (pile0.map g).sum
  hi : ∀ a, h a ≤ i
theorem ClI.start {Ks : List Stg} {cf : Stg → List Nat} {g : Stg → Nat} {pile0 : List Stg} (h : ∀ x ∈ pile0, x ∈ Ks) : ClI Ks cf g pile0 0 pile0 (fun _ => 0) := ⟨h, fun _ => Nat.zero_add _, Nat.zero_add _, fun _ => Nat.le_refl _⟩
theorem uA_le (ds : List Str) (a : Nat) (o : Option Stp) : uA ds a o ≤ 1 := by
  cases o with
  | none => exact Nat.zero_le _
  | some s =>
    rw [uA_some]
    by_cases h : s.call = false ∧ ds[a]? = some s.nm
    · rw [if_pos h]; exact Nat.le_refl _
    · rw [if_neg h]; exact Nat.zero_le _
theorem ClI.step (C : Chosen cs ds wf dn M cf sp g) {pile0 : List Stg} {i : Nat} {x : Stg} {rest : List Stg} {h : Nat → Nat} (I : ClI (Kz.keys dn) cf g pile0 i (x :: rest) h) : ClI (Kz.keys dn) cf g pile0 (i + 1) (parO x (sp x) ++ rest) (fun a => h a + uA ds a (sp x)) where
  ks := fun y hy => by
    rcases List.mem_append.mp hy with z | z
    · exact (C.dec x (I.ks x List.mem_cons_self) y z).1
    · exact I.ks y (List.mem_cons_of_mem _ z)
  ct := fun a => by
    have h1 := I.ct a
    have h2 := C.ct x (I.ks x List.mem_cons_self) a
    rw [List.map_cons, List.sum_cons] at h1
    rw [List.map_append, List.sum_append]
    omega
  tm := by
    have h1 := I.tm
    have h2 := C.sz x (I.ks x List.mem_cons_self)
    rw [List.map_cons, List.sum_cons] at h1
    rw [List.map_append, List.sum_append]
    omega
  hi := fun a => by
    have h1 := I.hi a
    have h2 := uA_le ds a (sp x)
    show h a + uA ds a (sp x) ≤ i + 1
    omega
theorem ClI.le (C : Chosen cs ds wf dn M cf sp g) {pile0 : List Stg} (h0 : ∀ x ∈ pile0, x ∈ Kz.keys dn) {i : Nat} {pile : List Stg} {h : Nat → Nat} (I : ClI (Kz.keys dn) cf g pile0 i pile h) : i ≤ 45 * pile0.length := by
  have h1 := I.tm
  have h2 := sum_map_const (f := g) (k := 45) (l := pile0) fun x hx => C.sz45 x (h0 x hx)
  omega
end
end Kb
namespace Kb
open PySem PySem.Spec PyProof.Rows L2
/-! ### _law_closing -/
theorem ixN_nat {n j : Nat} (h : j < n) : ixN n (j : Int) = some j := by
  unfold ixN
  by_cases h0 : (0 : Int) ≤ (j : Int)
  · rw [if_pos h0]
    have : ((j : Int)).toNat = j := by omega
    rw [this, if_pos (by omega)]
  · omega
theorem natV_set (l : List Nat) (j n : Nat) : (natV l).set j (V.int (n : Int)) = natV (l.set j n) := by
  unfold natV
  rw [List.map_set]
theorem rep_zero (k : Nat) : (List.replicate k [V.int 0]).flatten = natV ((List.range k).map fun _ => 0) := by
  have e : ((List.range k).map fun _ => 0) = List.replicate k 0 := by
    rw [List.map_const', List.length_range]
  rw [e]
  clear e
  induction k with
  | zero => rfl
  | succ k ih =>
    rw [List.replicate_succ, List.flatten_cons, ih, List.replicate_succ]
    rfl
theorem bump_range {n j : Nat} (hj : j < n) (h : Nat → Nat) {u : Nat → Nat} (hu : ∀ a, a < n → u a = if a = j then 1 else 0) : ((List.range n).map h).set j (h j + 1) = (List.range n).map fun a => h a + u a := by
  apply List.ext_getElem
  · rw [List.length_set, List.length_map, List.length_map]
  · intro a h1 h2
    have ha : a < n := by rw [List.length_map, List.length_range] at h2; exact h2
    rw [List.getElem_set, List.getElem_map, List.getElem_map, List.getElem_range, hu a ha]
    by_cases e : j = a
    · subst e
      rw [if_pos rfl, if_pos rfl]
    · rw [if_neg e, if_neg (fun z => e z.symm)]
      rfl
theorem range_congr {n : Nat} {h k : Nat → Nat} (e : ∀ a, a < n → h a = k a) : (List.range n).map h = (List.range n).map k := List.map_congr_left fun a ha => e a (List.mem_range.mp ha)
def hV (n : Nat) (h : Nat → Nat) : List V := natV ((List.range n).map h)
theorem hV_len (n : Nat) (h : Nat → Nat) : (hV n h).length = n := by
  unfold hV
  rw [natV_len, List.length_map, List.length_range]
section
variable {P : Program} {w : World} {K : PySem.W.Frag} {mg : Str → Option Value} {base : Heap}
def spLawClo (K : PySem.W.Frag) : Sp := fun vs H Q _ => ∃ (q1 dl qc pl : Addr) (cs : List CA) (xs : List Stg) (ds : List Str) (wf : Str → Nat) (dn : List (Stg × Cost)) (M : List WA) (cf : Stg → List Nat) (sp : Stg → Option Stp) (g : Stg → Nat), vs = [.ref q1, .ref dl, .ref qc, .ref pl] ∧ CsOk cs ∧ LeavAt H q1 cs ∧ H dl = some (.lst (ds.map V.str)) ∧ WaysAt H qc M ∧ (M.map (·.2.1)).Nodup ∧ PtS K H pl xs ∧ Chosen cs ds wf dn M cf sp g ∧ (∀ x ∈ Kz.keys dn, x ∈ stagesS cs) ∧ (∀ x ∈ xs, x ∈ Kz.keys dn) ∧ xs.length ≤ 20 ∧ ds.Nodup ∧ ds.length ≤ 12 ∧
  ∀ H' q, Same H H' → H q = none → H' q = some (.lst (hV ds.length fun a => (xs.map (cg cf a)).sum)) → (∀ a, (xs.map (cg cf a)).sum ≤ 1200) → Q (.ref q) H'
abbrev nClo : List Str := ["leaving", "deeds", "chosen", "pile", "count", "turn", "top", "rest", "move", "parts", "deed", "at"]
theorem scClo : FnScope nClo ["leaving", "deeds", "chosen", "pile"] (defScope sLawClosing) := ⟨rfl, rfl, rfl, by decide +kernel, rfl, by decide +kernel, by decide +kernel⟩
theorem ok_lawclo {f : Addr} {fd : FuncData} (F : Fun K "_law_closing" "_law_closing" sLawClosing f fd) (N : Nones mg) : FnOk P w K mg base CX0 1 f fd ["leaving", "deeds", "chosen", "pile"] (spLawClo K) := by
  refine F.ok scClo (fun vs H Q E h => ?_) (fun cdv A outer s H vs Q E hr h => ?_)
  · obtain ⟨q1, dl, qc, pl, cs, xs, ds, wf, dn, M, cf, sp, g, rfl, _⟩ := h
    rfl
  · obtain ⟨q1, dl, qc, pl, cs, xs, ds, wf, dn, M, cf, sp, g, rfl, ok, hL, hD, hM, ndM, hP, C, hst, hxs, lx, ndd, ld, q⟩ := h
    refine ⟨_, pss_cons (ps_set (i := 4) scClo.nd rfl (Or.inl rfl) (pe_op op_rep (pe_lst (pa_cons pe_int pa_nil)) (pe_callB call_len_seq (by rfl) N.len PySem.boot_len (pa_cons (pv 1) pa_nil))))
      (pss_cons (ps_for PassesOwn.never rfl (pi_range1 (by rfl) N.range (pa_cons pe_int pa_nil)) (pg_name (i := 5) scClo.nd rfl (Or.inl rfl))
        (pss_cons (ps_if (pt_cmpR (op_eqD hr.units) (pv 3) (pe_tup pa_nil) (nomark _)) (pss_one (ps_ret (pv 4))) pss_nil)
        (pss_cons (ps_par (i := 6) (j := 7) rfl scClo.nd rfl rfl (by decide) rfl rfl (pa_cons (pe_ix ix_tup (pv 3) pe_int (fun _ _ => rfl)) (pa_cons (pe_slice sl_tupA (pv 3) (po_some pe_int) po_none) pa_nil)) (by rfl))
        (pss_cons (ps_set (i := 3) scClo.nd rfl (Or.inl rfl) (pv 7))
        (pss_one (ps_for PassesOwn.never rfl (pi_list (pe_dget (hu_of hr) (pv 0) (pv 6) (fun _ _ => rfl))) (pg_tup rfl (pgs_cons (pg_name (i := 8) scClo.nd rfl (Or.inl rfl)) (pgs_cons (pg_name (i := 9) scClo.nd rfl (Or.inl rfl)) (pgs_cons (pg_name (i := 10) scClo.nd rfl (Or.inl rfl)) pgs_nil))))
          (pss_one (ps_if (pt_cmpR (op_eqD hr.units) (pe_dget (hu_of hr) (pv 2) (pv 6) (fun _ _ => rfl)) (pe_tup (pa_cons pe_str (pa_cons (pe_ix ix_tup (pv 8) pe_int (fun _ _ => rfl)) pa_nil))) (nomark _)) (pss_cons (ps_set (i := 3) scClo.nd rfl (Or.inl rfl) (pe_op op_catA (pv 9) (pv 7)))
            (pss_one (ps_if (pt_cmpR op_notN (pv 10) pe_non (nomark _)) (pss_cons (ps_set (i := 11) scClo.nd rfl (Or.inl rfl) (pe_bm PySem.F.plainAttrs_list PySem.F.slot_list_index PySem.F.type_list_index mt_index (pv 1) (pa_cons (pv 10) pa_nil)))
              (pss_one (ps_asg (pe_op op_add (pe_ix ix_list (pv 4) (pv 11) (fun _ _ => rfl)) pe_int) (pg_sub (pv 4) (pv 11) set_list)))) pss_nil))) pss_nil))))))))
      (pss_one (ps_ret pe_non))), ?_⟩
    have nmP : ∀ x ∈ Kz.keys dn, isName x.1 = true := fun x hx => by
      obtain ⟨c, mc, e1, _⟩ := mem_stagesS.mp (hst x hx)
      rw [e1]
      exact (ok.ok c mc).nm
    refine ⟨smallE (by show 1 ≤ 1000000; decide), fun z0 nz0 => ?_⟩
    have s0 := same_new (o := .lst [V.int 0]) nz0
    have e0 : upd H z0 (.lst [V.int 0]) z0 = some (.lst [V.int 0]) := upd_same
    have hD0 := s0 _ _ hD
    generalize upd H z0 (.lst [V.int 0]) = H0 at s0 e0 hD0
    refine ⟨_, rfl, dl, _, rfl, .inl (sqL_new hD0), z0, (ds.length : Int), _, rfl, ?_, e0, by omega, by omega, ?_, fun ct nct => ?_⟩
    · rw [List.length_map]
    · show 1 * ((ds.length : Int)).toNat ≤ sizeLine
      exact smallE (by omega)
    have ek : ((ds.length : Int)).toNat = ds.length := by omega
    rw [ek, rep_zero]
    have s1 := same_new (o := .lst (natV ((List.range ds.length).map fun _ => 0))) nct
    have e1 : upd H0 ct (.lst (natV ((List.range ds.length).map fun _ => 0))) ct = some (.lst (hV ds.length fun _ => 0)) := upd_same
    have s01 := s0.trans s1
    have nct := s0.free nct
    generalize upd H0 ct (.lst (natV ((List.range ds.length).map fun _ => 0))) = H1 at s1 e1 s01
    refine ⟨1200, rfl, by decide, by decide, ?_⟩
    rw [show ((1200 : Int)).toNat = 1200 from rfl]
    refine for_it (walk_r0 (n := 1200)) (fun i σ Z => ∃ (p1 : Addr) (x5 x6 x7 x8 x9 x10 x11 : Option V) (ps : List Stg) (h : Nat → Nat), σ = [some (.ref q1), some (.ref dl), some (.ref qc), some (.ref p1), some (.ref ct), x5, x6, x7, x8, x9, x10, x11] ∧ Same H Z ∧ Z ct = some (.lst (hV ds.length h)) ∧ PtS K Z p1 ps ∧ ClI (Kz.keys dn) cf g xs i ps h ∧ ps.length ≤ 20 + i)
      ⟨pl, none, none, none, none, none, none, none, xs, _, rfl, s01, e1, hP.mono s01, ClI.start hxs, by omega⟩ (fun _ _ _ _ _ => True.intro) (fun i y σ Z Z' hi h yy => ?_) (fun σ Z h => ?_)
    · obtain ⟨rfl, rfl⟩ := yy
      obtain ⟨p1, x5, x6, x7, x8, x9, x10, x11, ps, h, rfl, sZ, eZ, hPz, I, lP⟩ := h
      refine ⟨_, rfl, Nat.zero_le _, fun e ne => ?_⟩
      have se := same_new (o := .tup []) ne
      have ee : upd Z' e (.tup []) e = some (.tup []) := upd_same
      have hPy := hPz.mono se
      have sY := sZ.trans se
      have eY := se _ _ eZ
      generalize upd Z' e (.tup []) = Y at se ee hPy sY eY
      refine ⟨_, .tuple [], hPy.dp, .tup (sqT_new ee) .nil, stg_allT (fun x hx => nmP x (I.ks x hx)), by decide +kernel, ?_⟩
      rw [eqv_nil]
      cases ps with
      | nil =>
        refine ⟨_, rfl, iteYes (by decide +kernel) ?_⟩
        have e9 : ∀ a, h a = (xs.map (cg cf a)).sum := fun a => by
          have := I.ct a
          have z : (([] : List Stg).map (cg cf a)).sum = 0 := rfl
          omega
        refine ⟨_, rfl, q Y ct sY nct ?_ fun a => ?_⟩
        · rw [eY]
          have : h = fun a => (xs.map (cg cf a)).sum := funext e9
          rw [this]
        · rw [← e9 a]
          have := I.hi a
          omega
      | cons x r =>
        refine ⟨_, rfl, iteNo rfl ?_⟩
        have hxk := I.ks x List.mem_cons_self
        have hx := hst x hxk
        obtain ⟨PL, g1, g2, g3⟩ := id hPy
        cases PL with
        | nil => exact nomatch g2
        | cons t PL =>
        rw [List.map_cons] at g2
        injection g2 with g2 g2'
        subst g2
        have h1 := g3 t List.mem_cons_self
        have at0 : atI ((t :: PL).map fun t => V.ref t.1) 0 = some (.ref t.1) := atI_nat (j := 0) rfl
        refine ⟨_, rfl, p1, _, _, .ref t.1, rfl, rfl, g1, at0, _, rfl, 1, rfl, ?_⟩
        dsimp only [tNoPart]
        refine hPy.drop fun Z1 p2 s2 hp2 => ?_
        have hp2 : PtS K Z1 p2 r := hp2
        refine ⟨_, _, rfl, ?_⟩
        refine ⟨_, rfl, ?_⟩
        have sZ1 := sY.trans s2
        have eZ1 := s2 _ _ eY
        have h1 := s2 _ _ h1
        obtain ⟨kvs, l, EE, e1, e2, e3, e4, e5, e6, e7, e8⟩ := leav_row ok hL hx
        refine ⟨_, rfl, _, rfl, q1, .ref l, rfl, e2 ▸ DGet.t (sZ1 _ _ e1) (k := stK t.2) h1, l, rfl, ⟨_, sqL_new (sZ1 _ _ e3)⟩, ?_⟩
        obtain ⟨u, hu, eu⟩ := C.ks _ hxk
        have way := C.way u hu
        rw [eu] at way
        have toH : ∀ {Y : Hp}, But ct Z1 Y → Same H Y := fun k c o e => k _ _ (ne_of_none e nct) (sZ1 _ _ e)
        have vW : valV (wyKV M) (stK t.2) = some (.ref u.1) := by
          rw [← eu]
          exact valV_mem (by rw [wy_keys]; exact stK_nd ndM) (List.mem_map.mpr ⟨u, hu, rfl⟩)
        refine for_it (walk_list (K := K) (a := l) (xs := EE.map fun y => V.ref y.e)) (fun j σ Y => ∃ (p3 : Addr) (x8 x9 x10 x11 : Option V) (ps2 : List Stg) (h2 : Nat → Nat), σ = [some (.ref q1), some (.ref dl), some (.ref qc), some (.ref p3), some (.ref ct), some (.int (i : Int)), some (.ref t.1), some (.ref p2), x8, x9, x10, x11] ∧ But ct Z1 Y ∧ Y ct = some (.lst (hV ds.length h2)) ∧ PtS K Y p3 ps2 ∧ ((¬ ∃ y ∈ EE.take j, u.2.2 = some y.k) → ps2 = r ∧ h2 = h) ∧ ((∃ y ∈ EE.take j, u.2.2 = some y.k) → ps2 = parO t.2 (sp t.2) ++ r ∧ h2 = fun a => h a + uA ds a (sp t.2)))
          ⟨p2, _, _, _, _, r, h, rfl, But.refl, eZ1, hp2, fun _ => ⟨rfl, rfl⟩, fun ⟨y, hy, _⟩ => (nomatch hy)⟩ (fun _ σ Y _ h => ?_) (fun j yv σ Y Y' hj h yy => ?_) (fun σ Y h => ?_)
        · obtain ⟨_, _, _, _, _, _, _, _, k, _⟩ := h
          exact sqL_new (toH k _ _ e3)
        · obtain ⟨rfl, hy⟩ := yy
          obtain ⟨y, hy2, rfl⟩ := get_map hy
          obtain ⟨p3, x8, x9, x10, x11, ps2, h2, rfl, kY, eY, hp3, no, yes⟩ := h
          have my := List.mem_of_getElem? hy2
          have sHY := toH kY
          obtain ⟨y1, y2, y3⟩ := (e4 y my).ts (TS.of sHY)
          have h1Y : Y' t.1 = some (.tup (stV t.2)) := kY _ _ (fun z => by rw [z, eZ1] at h1; cases h1) h1
          have hMY := hM.mono sHY
          have gW : DGet Y' qc (.ref t.1) (some (.ref u.1)) := vW ▸ DGet.t hMY.1 (k := stK t.2) h1Y
          refine ⟨y.e, _, rfl, sqT_new y1, rfl, _, _, rfl, _, _, rfl, _, _, rfl, rfl, ?_⟩
          refine ⟨_, rfl, _, rfl, qc, _, rfl, gW, _, rfl, y.m, _, _, .int (y.k : Int), rfl, rfl, sqT_new y2, rfl, smallE (by show 2 ≤ 1000000; decide), fun tt ntt => ?_⟩
          have st := same_new (o := .tup [V.str "step", .int (y.k : Int)]) ntt
          have et : upd Y' tt (.tup [V.str "step", .int (y.k : Int)]) tt = some (.tup (wayV (some y.k))) := upd_same
          have eY1 := st _ _ eY
          have k1 := kY.trans (But.of st)
          have hp3 := hp3.mono st
          have y3 := y3.mono st
          have hMY := hMY.mono st
          have hp2Y : PtS K (upd Y' tt (.tup [V.str "step", .int (y.k : Int)])) p2 r := hp2.but eZ1 k1
          have hDY := toH k1 _ _ hD
          generalize upd Y' tt (.tup [V.str "step", .int (y.k : Int)]) = Y1 at st et eY1 k1 hp3 y3 hMY hp2Y hDY
          refine ⟨wyD u.2.2, wyD (some y.k), dp_wy (hMY.2 u hu), dp_wy et, wyD_shaped _, wyD_shaped _, ?_⟩
          rw [eqv_wy]
          have tk : EE.take (j + 1) = EE.take j ++ [y] := take_of_get hy2
          refine ⟨_, rfl, ite2 (fun c0 => ?_) (fun c0 => ?_)⟩
          · have eW : u.2.2 = some y.k := of_decide_eq_true c0
            have nom : ¬ ∃ y ∈ EE.take j, u.2.2 = some y.k := fun ⟨y', hy', ey'⟩ => by
              rw [eW] at ey'
              have nd := e5
              rw [← List.take_append_drop j EE, List.map_append, drop_of_get hy2, List.map_cons, List.nodup_append] at nd
              refine nd.2.2 _ (List.mem_map.mpr ⟨y', hy', rfl⟩) _ List.mem_cons_self ?_
              exact (Option.some.inj ey').symm
            obtain ⟨a1, a2⟩ := no nom
            have m1 : ∃ y ∈ EE.take (j + 1), u.2.2 = some y.k := ⟨y, by rw [tk]; exact List.mem_append_right _ List.mem_cons_self, eW⟩
            have esp : sp t.2 = some y.s := by
              cases e : sp t.2 with
              | none =>
                rw [e] at way
                rw [way.1] at eW
                cases eW
              | some s =>
                rw [e] at way
                obtain ⟨_, c, mc, ec, k, a, eW', hs, en, _⟩ := way
                rw [eW] at eW'
                cases eW'
                obtain ⟨_, _, c', mc', ec', a', hs'⟩ := e7 y my
                have := same_course ok.nd mc' mc (ec'.symm.trans ec)
                subst this
                rw [hs] at hs'
                cases hs'
                rfl
            refine ⟨_, rfl, _, rfl, ?_⟩
            refine (PtsAt.pts y3).cat hp2Y ?_ fun Y2 p4 s4 hp4 => ?_
            · have h1 := partsS_len t.2.1 y.s
              rw [List.length_cons] at lP
              omega
            · have yes2 : ∀ {h3 : Nat → Nat}, (∀ a, h3 a = h a + uA ds a (some y.s)) → ((¬ ∃ y ∈ EE.take (j + 1), u.2.2 = some y.k) → partsS t.2.1 y.s ++ r = r ∧ h3 = h) ∧ ((∃ y ∈ EE.take (j + 1), u.2.2 = some y.k) → partsS t.2.1 y.s ++ r = parO t.2 (sp t.2) ++ r ∧ h3 = fun a => h a + uA ds a (sp t.2)) := fun {h3} e => ⟨fun z => absurd m1 z, fun _ => by rw [esp]; exact ⟨rfl, funext e⟩⟩
              refine ⟨_, rfl, rfl, ?_⟩
              have eY2 := s4 _ _ eY1
              have k2 := k1.trans (But.of s4)
              have hDY2 := s4 _ _ hDY
              cases hc : y.s.call with
              | true =>
                have el : labV y.s = .non := by unfold labV; rw [if_pos hc]
                rw [el]
                refine ⟨_, rfl, iteNo rfl ?_⟩
                refine ⟨p4, _, _, _, _, _, h2, rfl, k2, eY2, hp4, yes2 fun a => ?_⟩
                rw [a2, uA_some, if_neg (fun z => by rw [hc] at z; exact absurd z.1 (by decide))]
                rfl
              | false =>
                have el : labV y.s = .str y.s.nm := by unfold labV; rw [if_neg (by rw [hc]; decide)]
                rw [el]
                have mds : y.s.nm ∈ ds := C.dd _ hxk _ esp hc
                obtain ⟨jj, hjj⟩ := List.getElem?_of_mem mds
                have jl := lt_of_get hjj
                refine ⟨_, rfl, iteYes rfl ?_⟩
                refine ⟨_, rfl, Or.inl ⟨rfl, _, sqL_new hDY2⟩, _, rfl, dl, ds.map V.str, .str y.s.nm, jj, .str y.s.nm, rfl, rfl, sqL_new hDY2, rfl, ?_, ?_, ?_, ?_, ?_⟩
                · exact List.all_eq_true.mpr fun z hz => by
                    obtain ⟨d, _, rfl⟩ := List.mem_map.mp hz
                    rfl
                · rw [List.getElem?_map, hjj]
                  rfl
                · show (y.s.nm == y.s.nm) = true
                  rw [str_beq]
                  exact decide_eq_true rfl
                · intro m z' hm hz
                  obtain ⟨d, hd, rfl⟩ := get_map hz
                  show (d == y.s.nm) = false
                  rw [str_beq]
                  refine decide_eq_false fun z => ?_
                  rw [z] at hd
                  have := (List.getElem?_inj (lt_of_get hd) ndd).mp (hd.trans hjj.symm)
                  omega
                · have hg : (hV ds.length h2)[jj]? = some (.int (h jj : Int)) := by
                    rw [a2]
                    unfold hV
                    refine natV_get ?_
                    rw [List.getElem?_map, List.getElem?_range jl]
                    rfl
                  refine ⟨_, rfl, _, rfl, ct, _, _, .int (h jj : Int), rfl, rfl, sqL_new eY2, atI_nat hg, _, _, rfl, rfl, _, rfl, _, rfl, ct, _, (jj : Int), jj, rfl, rfl, eY2, ixN_nat (by rw [hV_len]; exact jl), ?_⟩
                  refine ⟨p4, _, _, _, _, _, fun a => h a + uA ds a (some y.s), rfl, fun c o hc' e => ?_, ?_, hp4.but eY2 But.upd, yes2 fun a => rfl⟩
                  · rw [upd_ne hc']
                    exact k2 _ _ hc' e
                  · rw [upd_same, a2]
                    show some (HO.lst ((hV ds.length h).set jj (V.int ((h jj + 1 : Nat) : Int)))) = _
                    unfold hV
                    rw [natV_set, bump_range jl h]
                    intro a ha
                    rw [uA_some]
                    by_cases e : a = jj
                    · rw [e, if_pos ⟨hc, hjj⟩, if_pos rfl]
                    · rw [if_neg e, if_neg]
                      rintro ⟨_, z⟩
                      exact e ((List.getElem?_inj ha ndd).mp (z.trans hjj.symm))
          · have nW : ¬ u.2.2 = some y.k := fun z => c0 (decide_eq_true z)
            have eqm : (∃ y ∈ EE.take (j + 1), u.2.2 = some y.k) ↔ ∃ y ∈ EE.take j, u.2.2 = some y.k := by
              rw [tk]
              refine ⟨fun ⟨y', hy', ey'⟩ => ?_, fun ⟨y', hy', ey'⟩ => ⟨y', List.mem_append_left _ hy', ey'⟩⟩
              rcases List.mem_append.mp hy' with z | z
              · exact ⟨y', z, ey'⟩
              · rw [List.mem_singleton.mp z] at ey'
                exact absurd ey' nW
            exact ⟨p3, _, _, _, _, ps2, h2, rfl, k1, eY1, hp3, fun z => no fun z2 => z (eqm.mpr z2), fun z => yes (eqm.mp z)⟩
        · obtain ⟨p3, x8, x9, x10, x11, ps2, h2, rfl, kY, eY, hp3, no, yes⟩ := h
          rw [List.length_map, List.take_length] at no yes
          refine ⟨p3, _, _, _, _, _, _, _, ps2, h2, rfl, toH kY, eY, hp3, ?_, ?_⟩
          rotate_left
          · rw [List.length_cons] at lP
            by_cases m : ∃ y ∈ EE, u.2.2 = some y.k
            · rw [(yes m).1, List.length_append]
              have : (parO t.2 (sp t.2)).length ≤ 2 := by
                cases sp t.2 with
                | none => exact Nat.zero_le _
                | some s => exact partsS_len _ _
              omega
            · rw [(no m).1]
              omega
          have st := ClI.step C I
          by_cases m : ∃ y ∈ EE, u.2.2 = some y.k
          · obtain ⟨a1, a2⟩ := yes m
            rw [a1, a2]
            exact st
          · obtain ⟨a1, a2⟩ := no m
            rw [a1, a2]
            have es : sp t.2 = none := by
              cases e : sp t.2 with
              | none => rfl
              | some s =>
                rw [e] at way
                obtain ⟨_, c, mc, ec, k, a, eW, hs, en, _⟩ := way
                obtain ⟨y, hy, ek, _⟩ := e8 c mc ec k a s hs en
                exact absurd ⟨y, hy, by rw [eW, ek]⟩ m
            rw [es] at st
            exact st
    · obtain ⟨p1, x5, x6, x7, x8, x9, x10, x11, ps, h, rfl, sZ, eZ, hPz, I, lP⟩ := h
      exfalso
      have := I.le C hxs
      omega
end
end Kb
namespace Kb
open PySem PySem.Spec PyProof.Rows L2
/-! ### _law_moment_right -/
theorem sum_at {X : Cx} {K : PySem.W.Frag} (h : X.K = K) (hc : X.calm = true) : CallR X (.builtin "sum") (rSum K) := by
  subst h
  exact cr_sum hc
def momSc : Scope := { kind := .function, names := [(".0", .local), ("at", .cell), ("sum", .globalImplicit), ("counts", .cell), ("pile", .cell)], isGenerator := false, isCoroutine := false }
def TabAt (H : Hp) (q : Addr) (dn : List (Stg × Cost)) : Prop := ∃ kv, H q = some (.dT kv) ∧ ∀ x ∈ Kz.keys dn, valV kv (stK x) = some (.int ((Kz.vf dn x).1 : Int))
theorem TabAt.mono {H H' : Hp} {q : Addr} {dn : List (Stg × Cost)} (s : Same H H') (h : TabAt H q dn) : TabAt H' q dn := let ⟨kv, e, h2⟩ := h; ⟨kv, s _ _ e, h2⟩
def CtsAt (H : Hp) (q : Addr) (dn : List (Stg × Cost)) (cf : Stg → List Nat) (n : Nat) : Prop := ∃ kv, H q = some (.dT kv) ∧ ∀ x ∈ Kz.keys dn, ∃ a, valV kv (stK x) = some (.ref a) ∧ H a = some (.tup (natV (cf x))) ∧ (cf x).length = n
theorem CtsAt.mono {H H' : Hp} {q : Addr} {dn : List (Stg × Cost)} {cf : Stg → List Nat} {n : Nat} (s : Same H H') (h : CtsAt H q dn cf n) : CtsAt H' q dn cf n := let ⟨kv, e, h2⟩ := h; ⟨kv, s _ _ e, fun x hx => let ⟨a, h3, h4, h5⟩ := h2 x hx; ⟨a, h3, s _ _ h4, h5⟩⟩
theorem sum_natI {α : Type} (f : α → Nat) : ∀ l : List α, ((l.map f).map fun (i : Nat) => (i : Int)).sum = (((l.map f).sum : Nat) : Int)
  | [] => rfl
  | x :: l => by
    rw [List.map_cons, List.map_cons, List.sum_cons, List.sum_cons, sum_natI f l]
    omega
theorem natV_intsM (l : List Nat) : natV l = (l.map fun (i : Nat) => (i : Int)).map V.int := by
  unfold natV
  rw [List.map_map]
  rfl
section
variable {P : Program} {w : World} {K : PySem.W.Frag} {mg : Str → Option Value} {base : Heap}
/-- all that stands behind a moment -/
structure MomAt (K : PySem.W.Frag) (H : Hp) (cs : List CA) (q1 dl tq oq : Addr) (ds : List Str) (wf wx : Str → Nat) (dn dm : List (Stg × Cost)) (M : List WA) (cf : Stg → List Nat) (sp : Stg → Option Stp) (g : Stg → Nat) (pr tb qc ct po to : Addr) : Prop where
  ok : CsOk cs
  L : LeavAt H q1 cs
  d : H dl = some (.lst (ds.map V.str))
  t : H tq = some (.tup [.ref pr, .ref tb, .ref qc, .ref ct])
  o : H oq = some (.tup [.ref po, .ref to])
  wy : WaysAt H qc M
  nd : (M.map (·.2.1)).Nodup
  C : Chosen cs ds wf dn M cf sp g
  st : ∀ x ∈ Kz.keys dn, x ∈ stagesS cs
  dso : DsOf cs ds
  p : WAt H pr cs wf
  p2 : WAt H po cs wx
  w9 : ∀ d, wf d ≤ 100
  x9 : ∀ d, wx d ≤ 100
  T : TabAt H tb dn
  T2 : TabAt H to dm
  c : CtsAt H ct dn cf ds.length
  set2 : Kz.Settled (endsS cs) (linesK (0, 1) (wf2 wx) cs) (0, 0) dm
def spLawMom (K : PySem.W.Frag) : Sp := fun vs H Q _ => ∃ (q1 dl tq oq pl : Addr) (cs : List CA) (xs : List Stg) (ds : List Str) (wf wx : Str → Nat) (dn dm : List (Stg × Cost)) (M : List WA) (cf : Stg → List Nat) (sp : Stg → Option Stp) (g : Stg → Nat) (pr tb qc ct po to : Addr), vs = [.ref q1, .ref dl, .ref tq, .ref oq, .ref pl] ∧ MomAt K H cs q1 dl tq oq ds wf wx dn dm M cf sp g pr tb qc ct po to ∧ PtS K H pl xs ∧ (∀ x ∈ xs, x ∈ Kz.keys dn) ∧ xs.length ≤ 20 ∧ ∀ H', Same H H' → Q (.bl true) H'
abbrev nMr : List Str := ["leaving", "deeds", "told", "others", "pile", "prices", "table", "chosen", "counts", "count", "at", "stage", "deed", "many"]
theorem scMr : FnScope nMr ["leaving", "deeds", "told", "others", "pile"] (defScope sLawMomentRight) := ⟨rfl, rfl, rfl, by decide +kernel, rfl, by decide +kernel, by decide +kernel⟩
theorem ok_lawmom {f fC fS : Addr} {fd fdC fdS : FuncData} (F : Fun K "_law_moment_right" "_law_moment_right" sLawMomentRight f fd) (N : Nones mg) (m_zip : mg "zip" = none) (G__law_closing : FnOk P w K mg base CX0 1 fC fdC ["leaving", "deeds", "chosen", "pile"] (spLawClo K)) (C__law_closing : CallC K mg "_law_closing" ["leaving", "deeds", "chosen", "pile"] fC fdC) (G__law_sum : FnOk P w K mg base CX0 1 fS fdS ["table", "pile"] (spLawSum K)) (C__law_sum : CallC K mg "_law_sum" ["table", "pile"] fS fdS) : FnOk P w K mg base CX0 2 f fd ["leaving", "deeds", "told", "others", "pile"] (spLawMom K) := by
  refine F.ok scMr (fun vs H Q E h => ?_) (fun cdv A outer s H vs Q E hr h => ?_)
  · obtain ⟨q1, dl, tq, oq, pl, cs, xs, ds, wf, wx, dn, dm, M, cf, sp, g, pr, tb, qc, ct, po, to, rfl, _⟩ := h
    rfl
  · obtain ⟨q1, dl, tq, oq, pl, cs, xs, ds, wf, wx, dn, dm, M, cf, sp, g, pr, tb, qc, ct, po, to, rfl, m, hP, hxs, lx, q⟩ := h
    refine ⟨_, pss_cons (ps_asg (pv 2) (pg_tup rfl (pgs_cons (pg_name (i := 5) scMr.nd rfl (Or.inr rfl)) (pgs_cons (pg_name (i := 6) scMr.nd rfl (Or.inl rfl)) (pgs_cons (pg_name (i := 7) scMr.nd rfl (Or.inl rfl)) (pgs_cons (pg_name (i := 8) scMr.nd rfl (Or.inr rfl)) pgs_nil))))))
      (pss_cons (ps_set (i := 9) scMr.nd rfl (Or.inl rfl) (pe_call G__law_closing (hr.mono (by decide)) (by rfl) C__law_closing.g C__law_closing.kp C__law_closing.b .nil pass0 (pa_cons (pv 0) (pa_cons (pv 1) (pa_cons (pv 7) (pa_cons (pv 4) pa_nil))))))
      (pss_cons (ps_if (PW.pt (pw_or (pt_cmpR op_isN (pv 9) pe_non (nomark _)) (pw_or1 (pt_cmpR (op_neD hr.units) (pv 9) (pe_lc (own := [("at", 10)]) (g := gName 10) (tt := tYes) rfl scMr.nd (pi_range1 (by rfl) N.range (pa_cons (pe_callB call_len_seq (by rfl) N.len PySem.boot_len (pa_cons (pv 1) pa_nil)) pa_nil)) (blkOk_by (own := [("at", 10)]) (N := nMr) (sc := defScope sLawMomentRight) (by decide +kernel)) (fun _ _ _ _ _ => (pg_name (i := 10) scMr.nd rfl (Or.inr rfl))) (fun _ _ _ _ _ => pts_nil) (fun _ _ _ _ _ => (pe_callB (sum_at (K := K) rfl rfl) (by rfl) N.sum (by decide +kernel) (pa_cons (pe_lc (own := [("stage", 11)]) (g := gName 11) (tt := tYes) rfl scMr.nd (piT_at (K := K) rfl (pv 4)) (blkOk_by (own := [("stage", 11)]) (N := nMr) (sc := momSc) (by decide +kernel)) (fun _ _ _ _ _ => (pg_name (i := 11) scMr.nd rfl (Or.inl rfl))) (fun _ _ _ _ _ => pts_nil) (fun _ _ _ _ _ => (pe_ix (ixT_at (K := K) rfl) (pe_dget (hu_of hr) (pv 8) (pv 11) (fun _ _ => rfl)) (pv 10) (fun _ _ => rfl)))) pa_nil)))) (nomark _))))) (pss_one (ps_ret pe_bl)) pss_nil)
      (pss_cons (ps_if (pt_cmpR op_ne (pe_callB (cr_sum rfl) (by rfl) N.sum (by decide +kernel) (pa_cons (pe_lc (own := [("deed", 12), ("many", 13)]) (g := gTup K 2 (gCons (gName 12) (gCons (gName 13) gNil))) (tt := tYes) rfl scMr.nd (RZ.pi_zipA (by rfl) m_zip (pa_cons (pv 1) (pa_cons (pv 9) pa_nil))) (blkOk_by (own := [("deed", 12), ("many", 13)]) (N := nMr) (sc := defScope sLawMomentRight) (by decide +kernel)) (fun _ _ _ _ _ => (tup_at (K := K) rfl rfl (pgs_cons (pg_name (i := 12) scMr.nd rfl (Or.inl rfl)) (pgs_cons (pg_name (i := 13) scMr.nd rfl (Or.inl rfl)) pgs_nil)))) (fun _ _ _ _ _ => pts_nil) (fun _ _ _ _ _ => (pe_op op_mul (pv 13) (pe_dget (hu_of hr) (pv 5) (pv 12) (fun _ _ => rfl))))) pa_nil)) (pe_call G__law_sum (hr.mono (by decide)) (by rfl) C__law_sum.g C__law_sum.kp C__law_sum.b .nil pass0 (pa_cons (pv 6) (pa_cons (pv 4) pa_nil))) (nomark _)) (pss_one (ps_ret pe_bl)) pss_nil)
      (pss_one (ps_ret (pe_cmpR op_ge (pe_callB (cr_sum rfl) (by rfl) N.sum (by decide +kernel) (pa_cons (pe_lc (own := [("deed", 12), ("many", 13)]) (g := gTup K 2 (gCons (gName 12) (gCons (gName 13) gNil))) (tt := tYes) rfl scMr.nd (RZ.pi_zipA (by rfl) m_zip (pa_cons (pv 1) (pa_cons (pv 9) pa_nil))) (blkOk_by (own := [("deed", 12), ("many", 13)]) (N := nMr) (sc := defScope sLawMomentRight) (by decide +kernel)) (fun _ _ _ _ _ => (tup_at (K := K) rfl rfl (pgs_cons (pg_name (i := 12) scMr.nd rfl (Or.inl rfl)) (pgs_cons (pg_name (i := 13) scMr.nd rfl (Or.inl rfl)) pgs_nil)))) (fun _ _ _ _ _ => pts_nil) (fun _ _ _ _ _ => (pe_op op_mul (pv 13) (pe_dget (hu_of hr) (pe_ix (ixT_at (K := K) rfl) (pv 3) pe_int (fun _ _ => rfl)) (pv 12) (fun _ _ => rfl))))) pa_nil)) (pe_call G__law_sum (hr.mono (by decide)) (by rfl) C__law_sum.g C__law_sum.kp C__law_sum.b .nil pass0 (pa_cons (pe_ix ix_tup (pv 3) pe_int (fun _ _ => rfl)) (pa_cons (pv 4) pa_nil))) (nomark _))))))), ?_⟩
    have hdl : ds.length ≤ 12 := by rw [m.dso.1.length_eq]; exact m.ok.d12
    have hdn : ds.Nodup := m.dso.1.nodup_iff.mpr (uniq_nd _)
    refine ⟨_, rfl, tq, _, rfl, sqT_new m.t, rfl, _, _, rfl, _, _, rfl, _, _, rfl, _, _, rfl, rfl, ?_⟩
    refine ⟨_, rfl, _, rfl, _, rfl, _, rfl, q1, dl, qc, pl, cs, xs, ds, wf, dn, M, cf, sp, g, rfl, m.ok, m.L, m.d, m.wy, m.nd, hP, m.C, m.st, hxs, lx, hdn, hdl, fun H1 cq s1 ncq ecq bnd => ?_⟩
    have m1 := m.d
    have hD1 := s1 _ _ m.d
    have hP1 := hP.mono s1
    have c1 := m.c.mono s1
    refine ⟨_, rfl, rfl, _, rfl, iteNo rfl ?_⟩
    refine ⟨_, rfl, _, rfl, dl, _, rfl, .inl (sqL_new hD1), (ds.length : Int), by rw [List.length_map], by omega, by omega, fun D nD => ?_⟩
    rw [show ((ds.length : Int)).toNat = ds.length by omega]
    refine lc_it (walk_r0 (n := ds.length)) (fun a G => Same H1 G ∧ G D = some (.lst (natV ((List.range a).map fun a => (xs.map (cg cf a)).sum)))) ⟨same_new nD, upd_same⟩ (fun _ _ _ _ => True.intro) (fun a y G G' ha h yy => ?_) (fun G h => ?_)
    · obtain ⟨rfl, rfl⟩ := yy
      obtain ⟨sG, eD⟩ := h
      obtain ⟨kv, ec, hc⟩ := c1.mono sG
      obtain ⟨PL, g1, g2, g3⟩ := hP1.mono sG
      have lPL : PL.length = xs.length := by rw [← g2, List.length_map]
      refine ⟨rfl, _, rfl, pl, rfl, ⟨_, g1⟩, fun D2 nD2 => ?_⟩
      refine lc_pure (walk_tup (K := K) (a := pl) (xs := PL.map fun t => V.ref t.1)) (natV (PL.map fun t => cg cf a t.2)) (by rw [natV_len, List.length_map, List.length_map]) nD2 (fun _ s => Same.sqT s g1) (fun i x H0 H2 hi h0 y => ?_) (fun H2 s2 e => ?_)
      · obtain ⟨rfl, hy⟩ := y
        obtain ⟨u, hu, rfl⟩ := get_map hy
        have mu := List.mem_of_getElem? hu
        have hux : u.2 ∈ Kz.keys dn := hxs _ (by rw [← g2]; exact List.mem_map.mpr ⟨u, mu, rfl⟩)
        obtain ⟨ad, ha1, ha2, ha3⟩ := hc u.2 hux
        have hul : a < (cf u.2).length := by rw [ha3]; exact ha
        have ev : (natV (cf u.2))[a]? = some (.int ((cg cf a u.2 : Nat) : Int)) := by
          refine natV_get ?_
          unfold cg
          rw [List.getElem?_eq_getElem hul]
          rfl
        have gg : DGet H2 ct (.ref u.1) (some (.ref ad)) := ha1 ▸ DGet.t (h0.1 _ _ ec) (k := stK u.2) (h0.1 _ _ (g3 u mu))
        refine ⟨rfl, _, rfl, _, rfl, ct, _, rfl, gg, _, rfl, ad, _, _, _, rfl, rfl, sqT_new (h0.1 _ _ ha2), atI_nat ev, ?_⟩
        refine h0.put nD2 (fun _ _ e => e) ?_ (by rw [natV_len, List.length_map]; omega)
        refine natV_get ?_
        rw [List.getElem?_map, hu]
        rfl
      · have eD2 := s2 _ _ eD
        have hvs : (PL.map fun t => cg cf a t.2).sum = (xs.map (cg cf a)).sum := by rw [← g2, List.map_map]; rfl
        have e9 : ((PL.map fun t => cg cf a t.2).map fun (i : Nat) => (i : Int)).sum = (((xs.map (cg cf a)).sum : Nat) : Int) := by rw [sum_natI, hvs]
        rw [natV_intsM] at e
        refine ⟨D2, _, rfl, sqL_new e, ?_⟩
        rw [e9]
        refine ⟨_, eD2, by rw [natV_len, List.length_map, List.length_range]; exact small (by omega), fun b o eb => ?_, ?_⟩
        · rw [upd_ne (ne_of_none eb nD)]
          exact s2 _ _ (sG _ _ eb)
        · rw [upd_same, List.range_succ, List.map_append]
          unfold natV
          rw [List.map_append]
          rfl
    · obtain ⟨sG, eD⟩ := h
      have ecG := sG _ _ ecq
      have sHG := s1.trans sG
      have eqT : ∀ l : List Nat, PyData.eqv (.list (l.map fun (i : Nat) => .int (i : Int))) (.list (l.map fun (i : Nat) => .int (i : Int))) = true := fun l => by
        have := eqN l l
        rw [decide_eq_true rfl] at this
        exact this
      have shT : ∀ l : List Nat, SeqAt.shaped (.list (l.map fun (i : Nat) => .int (i : Int))) = true := fun l => shN l
      refine ⟨.list (((List.range ds.length).map fun a => (xs.map (cg cf a)).sum).map fun (i : Nat) => .int (i : Int)), .list (((List.range ds.length).map fun a => (xs.map (cg cf a)).sum).map fun (i : Nat) => .int (i : Int)), .lst (sqL_new ecG) (dpNs _), .lst (sqL_new eD) (dpNs _), shT _, shT _, ?_⟩
      rw [eqT]
      refine ⟨_, rfl, iteNo rfl ?_⟩
      have hDG := sG _ _ hD1
      have mG := m.p.mono sHG
      obtain ⟨kvp, ekp, hkp⟩ := mG.get
      refine ⟨_, rfl, _, rfl, dl, cq, _, _, rfl, .inl ⟨sqL_new hDG, sqL_new ecG, fun D3 nD3 => ?_⟩⟩
      refine lc_pure (walk_zip (xs := ds.map V.str) (ys := hV ds.length fun a => (xs.map (cg cf a)).sum) (n := ds.length) (by rw [List.length_map, hV_len, Nat.min_self])) (natV ((List.range ds.length).map fun a => (xs.map (cg cf a)).sum * wf ((ds[a]?).getD ""))) (by rw [natV_len, List.length_map, List.length_range]) nD3 (fun _ s' => ⟨sqL_new (s' _ _ hDG), sqL_new (s' _ _ ecG)⟩) (fun i x H0 H2 hi h0 y => ?_) (fun G2 sG2 eG2 => ?_)
      · obtain ⟨T, u, v, rfl, nT, rfl, hu, hv⟩ := y
        obtain ⟨dd, hdd, rfl⟩ := get_map hu
        have hv' : (hV ds.length fun a => (xs.map (cg cf a)).sum)[i]? = some (.int (((xs.map (cg cf i)).sum : Nat) : Int)) := by
          unfold hV
          refine natV_get ?_
          rw [List.getElem?_map, List.getElem?_range hi]
          rfl
        have hv : (hV ds.length fun a => (xs.map (cg cf a)).sum)[i]? = some v := hv
        rw [hv'] at hv
        cases hv
        have sT := same_new (o := .tup [V.str dd, V.int (((xs.map (cg cf i)).sum : Nat) : Int)]) nT
        have mdd : dd ∈ dns cs := (mem_uniq _ _).mp (m.dso.1.mem_iff.mp (List.mem_of_getElem? hdd))
        have gp : DGet (upd H0 T (.tup [V.str dd, V.int (((xs.map (cg cf i)).sum : Nat) : Int)])) pr (.str dd) (some (.int (wf dd : Int))) := hkp dd mdd ▸ DGet.k (k := Sum.inr dd) (sT _ _ (h0.1 _ _ ekp))
        refine ⟨T, _, rfl, sqT_new upd_same, rfl, _, _, rfl, _, _, rfl, rfl, rfl, ?_⟩
        refine ⟨_, rfl, _, rfl, _, rfl, pr, _, rfl, gp, _, _, rfl, rfl, .inl ⟨by omega, by have := bnd i; omega⟩, ?_⟩
        refine h0.put nD3 sT ?_ (by rw [natV_len, List.length_map, List.length_range]; omega)
        have e9 : V.int ((((xs.map (cg cf i)).sum : Nat) : Int) * (wf dd : Int)) = V.int ((((xs.map (cg cf i)).sum * wf dd : Nat)) : Int) := by rw [Int.natCast_mul]
        refine Eq.trans ?_ (congrArg some e9.symm)
        refine natV_get ?_
        rw [List.getElem?_map, List.getElem?_range hi]
        show some ((xs.map (cg cf i)).sum * wf ((ds[i]?).getD "")) = _
        rw [hdd]
        rfl
      · have sHG2 := sHG.trans sG2
        have eG2' := eG2
        rw [natV_intsM] at eG2
        have tot : ∀ wy : Str → Nat, ((((List.range ds.length).map fun a => (xs.map (cg cf a)).sum * wy ((ds[a]?).getD "")).map fun (i : Nat) => (i : Int))).sum = (((xs.map fun x => payF ds wy fun a => cg cf a x).sum : Nat) : Int) := fun wy => by
          rw [sum_natI, ← payF_sum]
          rfl
        obtain ⟨kt, et, ht⟩ := m.T.mono sHG2
        refine ⟨D3, _, rfl, sqL_new eG2, ?_⟩
        rw [tot]
        refine ⟨_, rfl, _, rfl, tb, pl, kt, xs, fun x => ((Kz.vf dn x).1 : Int), rfl, .inl et, hP.mono sHG2, by omega, fun x hx => ht x (hxs x hx), fun G3 s3 => ?_⟩
        have e1 : (xs.map fun x => payF ds wf fun a => cg cf a x) = xs.map fun x => (Kz.vf dn x).1 := List.map_congr_left fun x hx => m.C.pay_eq hdn _ x (hxs x hx) (Nat.lt_succ_self _)
        have e2 : (xs.map fun x => ((Kz.vf dn x).1 : Int)).sum = (((xs.map fun x => (Kz.vf dn x).1).sum : Nat) : Int) := by
          rw [← sum_natI, List.map_map]
          rfl
        rw [e1, e2]
        refine ⟨rfl, _, rfl, iteNo (by rw [decide_eq_true rfl]; rfl) ?_⟩
        have sHG3 := sHG2.trans s3
        have hDG := s3 _ _ (sG2 _ _ hDG)
        have ecG := s3 _ _ (sG2 _ _ ecG)
        obtain ⟨kvo, eko, hko⟩ := (m.p2.mono sHG3).get
        have oG := sHG3 _ _ m.o
        refine ⟨_, rfl, _, rfl, dl, cq, _, _, rfl, .inl ⟨sqL_new hDG, sqL_new ecG, fun D4 nD4 => ?_⟩⟩
        refine lc_pure (walk_zip (xs := ds.map V.str) (ys := hV ds.length fun a => (xs.map (cg cf a)).sum) (n := ds.length) (by rw [List.length_map, hV_len, Nat.min_self])) (natV ((List.range ds.length).map fun a => (xs.map (cg cf a)).sum * wx ((ds[a]?).getD ""))) (by rw [natV_len, List.length_map, List.length_range]) nD4 (fun _ s' => ⟨sqL_new (s' _ _ hDG), sqL_new (s' _ _ ecG)⟩) (fun i x H0 H2 hi h0 y => ?_) (fun G4 sG4 eG4 => ?_)
        · obtain ⟨T, u, v, rfl, nT, rfl, hu, hv⟩ := y
          obtain ⟨dd, hdd, rfl⟩ := get_map hu
          have hv' : (hV ds.length fun a => (xs.map (cg cf a)).sum)[i]? = some (.int (((xs.map (cg cf i)).sum : Nat) : Int)) := by
            unfold hV
            refine natV_get ?_
            rw [List.getElem?_map, List.getElem?_range hi]
            rfl
          have hv : (hV ds.length fun a => (xs.map (cg cf a)).sum)[i]? = some v := hv
          rw [hv'] at hv
          cases hv
          have sT := same_new (o := .tup [V.str dd, V.int (((xs.map (cg cf i)).sum : Nat) : Int)]) nT
          have mdd : dd ∈ dns cs := (mem_uniq _ _).mp (m.dso.1.mem_iff.mp (List.mem_of_getElem? hdd))
          have gp : DGet (upd H0 T (.tup [V.str dd, V.int (((xs.map (cg cf i)).sum : Nat) : Int)])) po (.str dd) (some (.int (wx dd : Int))) := hko dd mdd ▸ DGet.k (k := Sum.inr dd) (sT _ _ (h0.1 _ _ eko))
          refine ⟨T, _, rfl, sqT_new upd_same, rfl, _, _, rfl, _, _, rfl, rfl, rfl, ?_⟩
          refine ⟨_, rfl, _, rfl, oq, _, _, .ref po, rfl, rfl, sqT_new (sT _ _ (h0.1 _ _ oG)), rfl, _, rfl, po, _, rfl, gp, _, _, rfl, rfl, .inl ⟨by omega, by have := bnd i; omega⟩, ?_⟩
          refine h0.put nD4 sT ?_ (by rw [natV_len, List.length_map, List.length_range]; omega)
          have e9 : V.int ((((xs.map (cg cf i)).sum : Nat) : Int) * (wx dd : Int)) = V.int ((((xs.map (cg cf i)).sum * wx dd : Nat)) : Int) := by rw [Int.natCast_mul]
          refine Eq.trans ?_ (congrArg some e9.symm)
          refine natV_get ?_
          rw [List.getElem?_map, List.getElem?_range hi]
          show some ((xs.map (cg cf i)).sum * wx ((ds[i]?).getD "")) = _
          rw [hdd]
          rfl
        · have sHG4 := sHG3.trans sG4
          rw [natV_intsM] at eG4
          obtain ⟨ku, eu, hu⟩ := m.T2.mono sHG4
          refine ⟨D4, _, rfl, sqL_new eG4, ?_⟩
          rw [tot]
          have ge := fun x (hx : x ∈ xs) => m.C.pay_ge hdn m.set2 _ x (hxs x hx) (Nat.lt_succ_self _)
          refine ⟨_, rfl, oq, _, _, .ref to, rfl, rfl, sqT_new (sG4 _ _ oG), rfl, _, rfl, to, pl, ku, xs, fun x => ((Kz.vf dm x).1 : Int), rfl, .inl eu, hP.mono sHG4, by omega, fun x hx => hu x (ge x hx).1, fun G5 s5 => ?_⟩
          have e4 : (xs.map fun x => ((Kz.vf dm x).1 : Int)).sum = (((xs.map fun x => (Kz.vf dm x).1).sum : Nat) : Int) := by
            rw [← sum_natI, List.map_map]
            rfl
          rw [e4]
          have le := sum_map_le (f := fun x => (Kz.vf dm x).1) (g := fun x => payF ds wx fun a => cg cf a x) (l := xs) fun x hx => (ge x hx).2
          refine ⟨_, _, rfl, rfl, ?_⟩
          have le2 : (((xs.map fun x => (Kz.vf dm x).1).sum : Nat) : Int) ≤ (((xs.map fun x => payF ds wx fun a => cg cf a x).sum : Nat) : Int) := by omega
          have q9 := q G5 (sHG4.trans s5)
          rw [← decide_eq_true le2] at q9
          exact q9
end
end Kb
namespace Kb
open PySem PySem.Spec PyProof.Rows L2
/-! ### the settled costs are one -/
theorem cadd_mono {a b c d : Cost} (h1 : Kz.cle a b) (h2 : Kz.cle c d) : Kz.cle (Kz.cadd a c) (Kz.cadd b d) := by
  unfold Kz.cle Kz.cadd at *
  simp only
  omega
theorem lcF_mono {f g : Stg → Cost} : ∀ {ps : List Stg} {b b' : Cost}, Kz.cle b b' → (∀ p ∈ ps, Kz.cle (f p) (g p)) → Kz.cle (Kz.lcF f ps b) (Kz.lcF g ps b')
  | [], _, _, h, _ => h
  | p :: ps, b, b', h, hp => by
    show Kz.cle (Kz.lcF f ps (Kz.cadd b (f p))) (Kz.lcF g ps (Kz.cadd b' (g p)))
    exact lcF_mono (cadd_mono h (hp p List.mem_cons_self)) fun q hq => hp q (List.mem_cons_of_mem _ hq)
theorem settled_le {E : List Stg} {LN : List (Kz.Ln Stg)} {e0 : Cost} {dn dm : List (Stg × Cost)} (S : Kz.Settled E LN e0 dn) (T : Kz.Settled E LN e0 dm) : ∀ (n i : Nat) (a : Stg) (c : Cost), i < n → dn[i]? = some (a, c) → a ∈ Kz.keys dm ∧ Kz.cle (Kz.vf dm a) c
  | 0, _, _, _, h, _ => absurd h (Nat.not_lt_zero _)
  | n + 1, i, a, c, hn, hi => by
    rcases S.just i a c hi with ⟨h1, h2⟩ | ⟨ln, h1, h2, h3, h4⟩
    · rw [h2]
      exact T.ends a h1
    · have ps : ∀ p ∈ ln.parts, p ∈ Kz.keys dm ∧ Kz.cle (Kz.vf dm p) (Kz.vf (dn.take i) p) := fun p hp => by
        obtain ⟨j, hj⟩ := List.getElem?_of_mem (Kz.mem_vf (h3 p hp))
        have hji := lt_of_get hj
        rw [List.length_take] at hji
        rw [List.getElem?_take_of_lt (by omega)] at hj
        exact settled_le S T n j _ _ (by omega) hj
      have h5 := T.lines ln h1 fun p hp => (ps p hp).1
      rw [h2] at h5
      refine ⟨h5.1, Kz.cle_trans h5.2 ?_⟩
      rw [h4]
      exact lcF_mono (Kz.cle_refl _) fun p hp => (ps p hp).2
theorem settled_uniq {E : List Stg} {LN : List (Kz.Ln Stg)} {e0 : Cost} {dn dm : List (Stg × Cost)} (S : Kz.Settled E LN e0 dn) (T : Kz.Settled E LN e0 dm) {x : Stg} (h : x ∈ Kz.keys dn) : x ∈ Kz.keys dm ∧ Kz.vf dm x = Kz.vf dn x := by
  have one : ∀ {dn dm : List (Stg × Cost)}, Kz.Settled E LN e0 dn → Kz.Settled E LN e0 dm → x ∈ Kz.keys dn → x ∈ Kz.keys dm ∧ Kz.cle (Kz.vf dm x) (Kz.vf dn x) := fun {dn dm} S T h => by
    obtain ⟨i, hi⟩ := List.getElem?_of_mem (Kz.mem_vf h)
    exact settled_le S T (i + 1) i _ _ (Nat.lt_succ_self _) hi
  have h1 := one S T h
  exact ⟨h1.1, Kz.cle_anti h1.2 (one T S h1.1).2⟩
theorem tab_of {H : Hp} {q : Addr} {E : List Stg} {LN : List (Kz.Ln Stg)} {e0 : Cost} {dn dm dm' : List (Stg × Cost)} (h : H q = some (.dT (lwKV dm'))) (p : dm'.Perm dm) (T : Kz.Settled E LN e0 dm) (S : Kz.Settled E LN e0 dn) : TabAt H q dn := by
  refine ⟨_, h, fun x hx => ?_⟩
  obtain ⟨h1, h2⟩ := settled_uniq S T hx
  have nd : (Kz.keys dm').Nodup := (show (Kz.keys dm').Perm (Kz.keys dm) from p.map _).nodup_iff.mpr T.nd
  have h3 := Kz.mem_vf ((keys_perm p x).mpr h1)
  rw [vf_perm p T.nd h1, h2] at h3
  exact valV_mem (by rw [lwKV_keys]; exact stK_nd nd) (List.mem_map.mpr ⟨_, h3, rfl⟩)
theorem keys_srt {l m : List Stg} (h : l.map stK = (m.map stK).mergeSort Ka.kLe) : l.Perm m := by
  have p : (l.map stK).Perm (m.map stK) := by
    rw [h]
    exact List.mergeSort_perm _ _
  obtain ⟨l', p', e⟩ := perm_of_map p m rfl
  rw [map_stK_inj e]
  exact p'
theorem cts_of {H : Hp} {q : Addr} {dn : List (Stg × Cost)} {CM : List CTT} {cf : Stg → List Nat} {n : Nat} {ks : List Stg} (h : H q = some (.dT (ctKV CM))) (ht : ∀ t ∈ CM, H t.1 = some (.tup (natV (cf t.2)))) (hk : (CM.map (·.2)).map stK = (ks.map stK).mergeSort Ka.kLe) (hn : ks.Nodup) (hl : ∀ x ∈ ks, (cf x).length = n) (hd : ∀ x ∈ Kz.keys dn, x ∈ ks) : CtsAt H q dn cf n := by
  have p := keys_srt hk
  refine ⟨_, h, fun x hx => ?_⟩
  obtain ⟨t, ht', et⟩ := List.mem_map.mp (p.mem_iff.mpr (hd x hx))
  have et : t.2 = x := et
  refine ⟨t.1, ?_, ?_, hl x (hd x hx)⟩
  · rw [← et]
    exact ct_val (p.nodup_iff.mpr hn) ht'
  · rw [← et]
    exact ht t ht'
end Kb
namespace Kb
open PySem PySem.Spec PyProof.Rows L2
/-! ### the law -/
theorem ktup_int2 {K : PySem.W.Frag} {a : Addr} {dd : Option Addr} {n : Nat} {sl : Array (Option Value)} {i j : Int} {t u : Tok} (h : K.lookup a = some ⟨.type "tuple", dd, .seq #[.int i t, .int j u] n, sl⟩) : KTup K a [.int i, .int j] :=
  ⟨_, _, _, h, rfl, rfl, smallE (by show 2 ≤ 1000000; decide), .cons ⟨_, rfl⟩ (.cons ⟨_, rfl⟩ .nil)⟩
theorem eqD_at {X : Cx} {K : PySem.W.Frag} (h : X.K = K) (hu : X.A.units + 64 < cLine) : OpR X (compareOp .Eq) (rEqD K) := by
  subst h
  exact op_eqD hu
theorem ite_join {α : Type} {c : Bool} {T1 T2 : (α → Hp → Prop) → Prop} {R : α → Hp → Prop} (S : α → Hp → Prop) (h : ∀ v H, S v H → R v H) (h1 : c = true → ∀ R', (∀ v H, S v H → R' v H) → T1 R') (h2 : c = false → ∀ R', (∀ v H, S v H → R' v H) → T2 R') : if c = true then T1 R else T2 R := by
  cases c with
  | true => rw [if_pos rfl]; exact h1 rfl R h
  | false => rw [if_neg Bool.false_ne_true]; exact h2 rfl R h
/-! what stands when the box changes -/
theorem lst_ne {H : Hp} {x l : Addr} {vs : List V} (b : Box H x) (e : H l = some (.lst vs)) (h : ∀ v ∈ vs, ∀ i, v ≠ .int i) : l ≠ x := fun z => by
  obtain ⟨b0, b1, b2, eb⟩ := b
  rw [z, eb] at e
  have e := Option.some.inj e
  injection e with e
  exact h (.int b0) (by rw [← e]; exact List.mem_cons_self) b0 rfl
theorem box_ne {H : Hp} {x l : Addr} {o : HO} (b : Box H x) (e : H l = some o) (h : ∀ vs, o ≠ .lst vs) : l ≠ x := fun z => by
  obtain ⟨b0, b1, b2, eb⟩ := b
  rw [z, eb] at e
  exact h _ (Option.some.inj e).symm
theorem LeavAt.but {H H' : Hp} {x q : Addr} {cs : List CA} (b : Box H x) (k : But x H H') (h : LeavAt H q cs) : LeavAt H' q cs := by
  obtain ⟨M, h1, h2, h3, h4⟩ := h
  refine ⟨M, k _ _ (box_ne b h1 fun _ z => by cases z) h1, h2, fun t ht => k _ _ (lst_ne b (h3 t ht) fun v hv i z => ?_) (h3 t ht), h4.ts (TS.but b k)⟩
  obtain ⟨y, _, rfl⟩ := List.mem_map.mp hv
  cases z
theorem StLs.but {H H' : Hp} {x q : Addr} {xs : List Stg} (b : Box H x) (k : But x H H') (h : StLs H q xs) : StLs H' q xs := by
  obtain ⟨L, h1, h2, h3⟩ := h
  refine ⟨L, k _ _ (lst_ne b h1 fun v hv i z => ?_) h1, h2, fun t ht => TS.but b k _ _ (h3 t ht)⟩
  obtain ⟨y, _, rfl⟩ := List.mem_map.mp hv
  cases z
theorem PtS.box {K : PySem.W.Frag} {H H' : Hp} {x q : Addr} {xs : List Stg} (b : Box H x) (k : But x H H') (h : PtS K H q xs) : PtS K H' q xs := let ⟨_, _, _, e⟩ := b; h.but e k
theorem MvAt.box {K : PySem.W.Frag} {H H' : Hp} {x : Addr} {t : MV} (b : Box H x) (k : But x H H') (h : MvAt K H t) : MvAt K H' t := let ⟨_, _, _, e⟩ := b; h.but e k
theorem MomAt.mono {K : PySem.W.Frag} {H H' : Hp} {cs : List CA} {q1 dl tq oq : Addr} {ds : List Str} {wf wx : Str → Nat} {dn dm : List (Stg × Cost)} {M : List WA} {cf : Stg → List Nat} {sp : Stg → Option Stp} {g : Stg → Nat} {pr tb qc ct po to : Addr} (s : Same H H') (m : MomAt K H cs q1 dl tq oq ds wf wx dn dm M cf sp g pr tb qc ct po to) : MomAt K H' cs q1 dl tq oq ds wf wx dn dm M cf sp g pr tb qc ct po to :=
  ⟨m.ok, m.L.mono s, s _ _ m.d, s _ _ m.t, s _ _ m.o, m.wy.mono s, m.nd, m.C, m.st, m.dso, m.p.mono s, m.p2.mono s, m.w9, m.x9, m.T.mono s, m.T2.mono s, m.c.mono s, m.set2⟩
theorem MomAt.box {K : PySem.W.Frag} {H H' : Hp} {x : Addr} {cs : List CA} {q1 dl tq oq : Addr} {ds : List Str} {wf wx : Str → Nat} {dn dm : List (Stg × Cost)} {M : List WA} {cf : Stg → List Nat} {sp : Stg → Option Stp} {g : Stg → Nat} {pr tb qc ct po to : Addr} (b : Box H x) (k : But x H H') (m : MomAt K H cs q1 dl tq oq ds wf wx dn dm M cf sp g pr tb qc ct po to) : MomAt K H' cs q1 dl tq oq ds wf wx dn dm M cf sp g pr tb qc ct po to := by
  have t := TS.but b k
  have dT : ∀ {c : Addr} {kv}, H c = some (.dT kv) → H' c = some (.dT kv) := fun e => k _ _ (box_ne b e fun _ z => by cases z) e
  have dK : ∀ {c : Addr} {kv}, H c = some (.dK kv) → H' c = some (.dK kv) := fun e => k _ _ (box_ne b e fun _ z => by cases z) e
  refine ⟨m.ok, m.L.but b k, k _ _ (lst_ne b m.d fun v hv i z => ?_) m.d, t _ _ m.t, t _ _ m.o, ⟨dT m.wy.1, fun u hu => t _ _ (m.wy.2 u hu)⟩, m.nd, m.C, m.st, m.dso, ?_, ?_, m.w9, m.x9, ?_, ?_, ?_, m.set2⟩
  · obtain ⟨y, _, rfl⟩ := List.mem_map.mp hv
    cases z
  · obtain ⟨ds, e, p⟩ := m.p
    exact ⟨ds, dK e, p⟩
  · obtain ⟨ds, e, p⟩ := m.p2
    exact ⟨ds, dK e, p⟩
  · obtain ⟨kv, e, p⟩ := m.T
    exact ⟨kv, dT e, p⟩
  · obtain ⟨kv, e, p⟩ := m.T2
    exact ⟨kv, dT e, p⟩
  · obtain ⟨kv, e, p⟩ := m.c
    exact ⟨kv, dT e, fun x hx => let ⟨a, h3, h4, h5⟩ := p x hx; ⟨a, h3, t _ _ h4, h5⟩⟩
theorem get_box {H L : Hp} {x c : Addr} {o : HO} (b : Box H x) (k : But x H L) (h : H c = some o) (no : ∀ vs, o ≠ .lst vs) : L c = some o := k _ _ (box_ne b h no) h
theorem CsAt.box {K : PySem.W.Frag} {H L : Hp} {x a : Addr} {cs : List CA} (b : Box H x) (k : But x H L) (h : CsAt K H a cs) : CsAt K L a cs := by
  obtain ⟨_, _, _, e⟩ := id b
  exact ⟨sqT_but e k h.1, fun c hc => ⟨sqT_but e k (h.2 c hc).t, sqT_but e k (h.2 c hc).e, sqT_but e k (h.2 c hc).s, fun p hp => get_box b k ((h.2 c hc).p p hp) (fun _ e => nomatch e)⟩⟩
theorem BookAt.box {K : PySem.W.Frag} {C : Addr} {H L : Hp} {x p a : Addr} {cs : List CA} (b : Box H x) (k : But x H L) (h : BookAt K C H p a cs) : BookAt K C L p a cs := by
  obtain ⟨dx, fs, P1, S1, E1, L1, S, h1, h2, h3, h4, h5, h6, h7, h8, h9, M, m1, m2, m3, m4⟩ := h
  have nn : ∀ {c : Addr} {o : HO}, H c = some o → (∀ vs, o ≠ .lst vs) → L c = some o := fun e no => get_box b k e no
  exact ⟨dx, fs, P1, S1, E1, L1, S, nn h1 (fun _ e => nomatch e), h2, h3.box b k, h4, nn h5 (fun _ e => nomatch e), nn h6 (fun _ e => nomatch e), fun t ht => nn (h7 t ht) (fun _ e => nomatch e), h8, nn h9 (fun _ e => nomatch e), M, nn m1 (fun _ e => nomatch e), m2, fun t ht => nn (m3 t ht) (fun _ e => nomatch e), m4⟩
/-! moves as data -/
def mvD : Option (Nat × Stp) → PyData
  | none => .tuple [.str "leave"]
  | some e => .tuple [.str (kindS e.2.call), .int (e.1 : Int)]
def pairD (t : MV) : PyData := .tuple [mvD t.mv, .tuple (t.lt.map stgD)]
theorem dp_mv {K : PySem.W.Frag} {H : Hp} {a : Addr} {m : Option (Nat × Stp)} (h : H a = some (.tup (mvV m))) : Dp K H (.ref a) (mvD m) := by
  cases m with
  | none => exact .tup (sqT_new h) (.cons (.str _) .nil)
  | some k => exact .tup (sqT_new h) (.cons (.str _) (.cons (.int _) .nil))
theorem mvD_lay (m : Option (Nat × Stp)) : (mvD m).canLay0 = true ∧ (mvD m).depth ≤ 1 := by
  cases m with
  | none => exact ⟨by decide +kernel, by decide +kernel⟩
  | some k =>
    unfold mvD
    refine ⟨by simp [PyData.canLay0, PyData.canLayAll0, kind_ok], by simp [PyData.depth, PyData.depthAll]⟩
theorem mvD_shaped (m : Option (Nat × Stp)) : SeqAt.shaped (mvD m) = true := shaped_of (mvD_lay m).1 (by have := (mvD_lay m).2; omega)
theorem dp_pairs {K : PySem.W.Frag} {H : Hp} : ∀ {L : List MV}, (∀ t ∈ L, MvAt K H t) → DpAll K H (L.map fun t => V.ref t.a) (L.map pairD)
  | [], _ => .nil
  | t :: L, h => .cons (.tup (sqT_new (h t List.mem_cons_self).1) (.cons (dp_mv (h t List.mem_cons_self).2.1) (.cons (h t List.mem_cons_self).2.2.dp .nil))) (dp_pairs fun u hu => h u (List.mem_cons_of_mem _ hu))
theorem pairs_shaped {L : List MV} (h : ∀ t ∈ L, ∀ x ∈ t.lt, isName x.1 = true) : SeqAt.shaped (.list (L.map pairD)) = true := by
  have l : PyData.canLayAll0 (L.map pairD) = true := lay_all L fun t ht => by
    have h1 := (mvD_lay t.mv).1
    have h2 := stg_lay (h t ht)
    unfold pairD
    simp [PyData.canLay0, PyData.canLayAll0, h1, h2]
  have d : PyData.depthAll (L.map pairD) ≤ 3 := dep_le (fun t => by
    have h1 := (mvD_lay t.mv).2
    have h2 := stg_depth t.lt
    unfold pairD
    simp only [PyData.depth, PyData.depthAll]
    omega) L
  refine shaped_of ?_ ?_
  · simp only [PyData.canLay0, l]
  · simp only [PyData.depth]
    omega
theorem eqv_mv {k : Nat} {s : Stp} {m : Option (Nat × Stp)} (h : ∀ s', m = some (k, s') → s' = s) : PyData.eqv (mvD (some (k, s))) (mvD m) = decide (m.map (·.1) = some k) := by
  cases m with
  | none => simp [mvD, PyData.eqv, PyData.eqvAll]
  | some e =>
    obtain ⟨k', s'⟩ := e
    by_cases hk : k' = k
    · subst hk
      have := h s' rfl
      subst this
      simp [mvD, PyData.eqv, PyData.eqvAll]
    · have h2 : ¬ (k : Int) = (k' : Int) := by omega
      show _ = decide (some k' = some k)
      rw [decide_eq_false (fun z => hk (Option.some.inj z))]
      have h3 : ((k : Int) == (k' : Int)) = false := by
        rw [beq_eq_false_iff_ne]
        exact h2
      unfold mvD
      simp only [PyData.eqv, PyData.eqvAll, h3, Bool.and_false, Bool.false_and]
theorem sum_uniq {c : EL → Nat} {y : EL} : ∀ {E : List EL}, (E.map (·.k)).Nodup → y ∈ E → (∀ y' ∈ E, y'.k ≠ y.k → c y' = 0) → (E.map c).sum = c y
  | [], _, h, _ => nomatch h
  | z :: E, nd, h, hz => by
    rw [List.map_cons, List.nodup_cons] at nd
    rw [List.map_cons, List.sum_cons]
    rcases List.mem_cons.mp h with w | w
    · subst w
      rw [sum_map_zero fun y' hy' => hz y' (List.mem_cons_of_mem _ hy') fun e => nd.1 (List.mem_map.mpr ⟨y', hy', e⟩)]
      rfl
    · rw [sum_uniq nd.2 w fun y' hy' => hz y' (List.mem_cons_of_mem _ hy'), hz z List.mem_cons_self fun e => nd.1 (List.mem_map.mpr ⟨y, w, e.symm⟩)]
      omega
section
variable {P : Program} {w : World} {K : PySem.W.Frag} {mg : Str → Option Value} {base : Heap}
def spLaw (K : PySem.W.Frag) : Sp := fun vs H Q _ => ∃ (a : Addr) (ns : List Int), vs = [.ref a] ∧ SqL K H a (intV ns) ∧ ∀ H', Q (.bl true) H'
end
end Kb
namespace Kb
open PySem PySem.Spec PyProof.Rows L2
section
variable {P : Program} {w : World} {K : PySem.W.Frag} {mg : Str → Option Value} {base : Heap}
theorem scBox : FnScope ["script", "k", "cell"] ["script", "k"] (defScope sBox) := ⟨rfl, rfl, rfl, by decide +kernel, rfl, by decide +kernel, by decide +kernel⟩
def spBox (K : PySem.W.Frag) : Sp := fun vs H Q _ => ∃ (a : Addr) (k : Nat) (ns : List Int), vs = [.ref a, .int (k : Nat)] ∧ SqL K H a (intV ns) ∧ k ≤ 3 ∧ ∀ H' p, Same H H' → H p = none → Box H' p → Q (.ref p) H'
theorem ok_box {f : Addr} {fd : FuncData} (F : Fun K "_law_box" "_law_box" sBox f fd) (mi : mg "int" = none) (ml : mg "len" = none) (ma : mg "abs" = none) : FnOk P w K mg base CX0 1 f fd ["script", "k"] (spBox K) := by
  refine F.ok scBox (fun vs H Q E h => ?_) (fun cdv A outer s H vs Q E hr h => ?_)
  · obtain ⟨a, k, ns, rfl, _⟩ := h
    rfl
  · obtain ⟨a, k, ns, rfl, hA, hk, q⟩ := h
    refine ⟨_, pss_cons (ps_set (i := 2) scBox.nd rfl (.inl rfl) (pe_op op_add (pe_op op_mul pe_int (pv 1)) pe_int))
      (pss_cons (ps_if (pt_cmpR op_lt (pv 1) (pe_callB call_len_seq (by rfl) ml PySem.boot_len (pa_cons (pv 0) pa_nil)) (nomark _))
        (pss_one (ps_set (i := 2) scBox.nd rfl (.inl rfl) (pe_callB call_abs (by rfl) ma (by decide +kernel) (pa_cons (pe_ix ix_list (pv 0) (pv 1) (fun _ _ => rfl)) pa_nil))))
        (pss_one (ps_if (pt_cmpR op_gt (pe_callB call_len_seq (by rfl) ml PySem.boot_len (pa_cons (pv 0) pa_nil)) pe_int (nomark _))
          (pss_one (ps_set (i := 2) scBox.nd rfl (.inl rfl) (pe_op op_add (pv 2) (pe_op op_mul (pe_op op_mod (pe_callTy call_int1 (by rfl) mi (by decide +kernel) (pa_cons (pe_callB call_abs (by rfl) ma (by decide +kernel) (pa_cons
              (pe_ix ix_list (pv 0) (pe_op op_mod (pe_callTy call_int1 (by rfl) mi (by decide +kernel) (pa_cons (pv 1) pa_nil)) (pe_callB call_len_seq (by rfl) ml PySem.boot_len (pa_cons (pv 0) pa_nil))) (fun _ _ => rfl)) pa_nil)) pa_nil)) pe_int) pe_int)))) pss_nil)))
      (pss_one (ps_ret (pe_lst (pa_cons (pe_ix ix_list (pe_lst (pa_cons pe_int (pa_cons (pv 2) pa_nil))) (pe_callTy call_int1 (by rfl) mi (by decide +kernel) (pa_cons (pe_cmpR op_ge (pv 2) (pe_op op_pow pe_int pe_int) (nomark _)) pa_nil)) (fun _ _ => rfl))
        (pa_cons (pe_op op_add (pe_op op_mod (pe_callTy call_int1 (by rfl) mi (by decide +kernel) (pa_cons (pe_op op_add (pe_op op_add (pe_op op_mul (pe_op op_mod (pe_callTy call_int1 (by rfl) mi (by decide +kernel) (pa_cons (pv 2) pa_nil)) pe_int) pe_int) (pe_op op_mul pe_int (pv 1))) pe_int) pa_nil)) pe_int) pe_int) (pa_cons pe_int pa_nil))))))), ?_⟩
    have s1000 : ∀ n, n ≤ 1000000 → n ≤ sizeLine := fun n h => smallE h
    refine ⟨.int (k : Nat), rfl, _, (k : Nat), rfl, rfl, .inl (by decide), _, _, rfl, rfl, ?_⟩
    refine ⟨.int (k : Nat), rfl, .ref a, rfl, a, _, rfl, .inl hA, _, _, rfl, rfl, _, rfl, ?_⟩
    generalize hX : tRet _ _ = X
    have fin : ∀ c : Int, X [some (.ref a), some (.int (k : Nat)), some (.int c)] H := fun c => by
      rw [← hX]
      refine ⟨.int c, rfl, s1000 2 (by decide), fun l nl => ?_⟩
      have s1 := same_new (o := .lst [.int 0, .int c]) nl
      refine ⟨.int c, rfl, 10, 18, rfl, rfl, ⟨by decide, by decide, by decide⟩, _, _, rfl, rfl, .inr ⟨_, rfl, ?_⟩⟩
      have hat : ∃ e : Int, atI [V.int 0, V.int c] (if decide ((10 : Int) ^ (18 : Int).toNat ≤ c) = true then 1 else 0) = some (.int e) := by
        by_cases h : decide ((10 : Int) ^ (18 : Int).toNat ≤ c) = true
        · rw [if_pos h]
          exact ⟨c, rfl⟩
        · rw [if_neg h]
          exact ⟨0, rfl⟩
      obtain ⟨e, he⟩ := hat
      refine ⟨l, _, _, .int e, rfl, rfl, sqL_new upd_same, he, ?_⟩
      refine ⟨.int c, rfl, .inl ⟨c, rfl, c, 2147483629, rfl, rfl, (by show (0 : Int) < 2147483629; decide), _, _, rfl, rfl, .inr (by decide), .int (k : Nat), rfl, _, _, rfl, rfl, .inl (by decide), _, _, rfl, rfl, _, _, rfl, rfl, .inl ⟨_, rfl, _, 2147483629, rfl, rfl, (by show (0 : Int) < 2147483629; decide), _, 1, rfl, rfl, ?_⟩⟩⟩
      refine ⟨s1000 3 (by decide), fun l2 nl2 => ?_⟩
      exact q _ l2 (s1.trans (same_new nl2)) (s1.free nl2) ⟨_, _, _, upd_same⟩
    refine ite2 (fun c => ?_) (fun c => ?_)
    · have c := of_decide_eq_true c
      rw [intV_len] at c
      have hg : ns[k]? = some (ns[k]'(by omega)) := List.getElem?_eq_getElem (by omega)
      exact ⟨.ref a, rfl, .int (k : Nat), rfl, a, _, _, _, rfl, rfl, hA, atI_nat (intV_get hg), _, rfl, fin _⟩
    · refine ⟨.ref a, rfl, a, _, rfl, .inl hA, _, 0, rfl, rfl, _, rfl, ite2 (fun c2 => ?_) (fun c2 => ?_)⟩
      · have c2 := of_decide_eq_true c2
        rw [intV_len] at c2
        obtain ⟨r, hr1, hr2⟩ := mod_nat (k : Int) (n := ns.length) (by omega)
        have hg : ns[r]? = some (ns[r]'(by omega)) := List.getElem?_eq_getElem (by omega)
        refine ⟨_, rfl, .ref a, rfl, .int (k : Nat), rfl, .inl ⟨_, rfl, .ref a, rfl, a, _, rfl, .inl hA, _, _, rfl, rfl, ?_, ?_⟩⟩
        · show (0 : Int) < (((intV ns).length : Nat) : Int)
          rw [intV_len]
          exact c2
        · refine ⟨a, _, _, _, rfl, rfl, hA, at_of (by rw [intV_len]; exact hr2) (intV_get hg), _, rfl, .inl ⟨_, rfl, _, 2147483629, rfl, rfl, (by show (0 : Int) < 2147483629; decide), _, _, rfl, rfl, .inr (by decide), _, _, rfl, rfl, fin _⟩⟩
      · exact fin _
end
end Kb
namespace Kb
open PySem PySem.Spec PyProof.Rows L2
/-! ### the law -/
section
variable {P : Program} {w : World} {K : PySem.W.Frag} {mg : Str → Option Value} {base : Heap}
abbrev nLa : List Str := ["script", "k", "box", "courses", "book", "leaving", "ends", "deeds", "start", "prices", "others", "deed", "chosen", "told", "cheap", "pile", "paid", "turn", "options", "move", "later", "own", "pair", "entry"]
theorem scLa : FnScope nLa ["script"] (defScope sLaw) := ⟨rfl, rfl, rfl, by decide +kernel, rfl, by decide +kernel, by decide +kernel⟩
theorem ok_law {f C fB fI fCs fLv fEn fDe fTk fPw fLp fCa fMr fMo fAi fPk fSu : Addr} {fd fdB fdI fdCs fdLv fdEn fdDe fdTk fdPw fdLp fdCa fdMr fdMo fdAi fdPk fdSu : FuncData} (F : Fun K "law" "law" sLaw f fd) (N : Nones mg) (B : BkC K mg C) (M_Book : Mk K C fI) (G_Book : FnOk P w K mg base CX0 8 fI fdI ["self", "courses"] (spBkInit K C)) (b_Book : Binds K fdI ["self", "courses"] [])
    (G__law_box : FnOk P w K mg base CX0 1 fB fdB ["script", "k"] (spBox K)) (C__law_box : CallC K mg "_law_box" ["script", "k"] fB fdB) (G__law_courses : FnOk P w K mg base CX0 5 fCs fdCs ["box"] spLawCourses) (C__law_courses : CallC K mg "_law_courses" ["box"] fCs fdCs)
    (G__law_leaving : FnOk P w K mg base CX0 1 fLv fdLv ["courses"] (spLawLeav K)) (C__law_leaving : CallC K mg "_law_leaving" ["courses"] fLv fdLv) (G__law_ends : FnOk P w K mg base CX0 1 fEn fdEn ["courses"] (spLawEnds K)) (C__law_ends : CallC K mg "_law_ends" ["courses"] fEn fdEn) (G__law_deeds : FnOk P w K mg base CX0 1 fDe fdDe ["courses"] (spLawDeeds K)) (C__law_deeds : CallC K mg "_law_deeds" ["courses"] fDe fdDe)
    (G__law_take : FnOk P w K mg base CX0 1 fTk fdTk ["box", "many"] spTake) (C__law_take : CallC K mg "_law_take" ["box", "many"] fTk fdTk) (G_price_ways : FnOk P w K mg base CX0 6 fPw fdPw ["book", "prices"] (spLeastWays K C)) (C_price_ways : CallC K mg "price_ways" ["book", "prices"] fPw fdPw) (G_least_prices : FnOk P w K mg base CX0 6 fLp fdLp ["book", "prices"] (spLeastW K C)) (C_least_prices : CallC K mg "least_prices" ["book", "prices"] fLp fdLp)
    (G_counts_along : FnOk P w K mg base CX0 5 fCa fdCa ["book", "chosen"] (spAlong K C)) (C_counts_along : CallC K mg "counts_along" ["book", "chosen"] fCa fdCa) (G__law_moment_right : FnOk P w K mg base CX0 2 fMr fdMr ["leaving", "deeds", "told", "others", "pile"] (spLawMom K)) (C__law_moment_right : CallC K mg "_law_moment_right" ["leaving", "deeds", "told", "others", "pile"] fMr fdMr)
    (G__law_moves : FnOk P w K mg base CX0 1 fMo fdMo ["leaving", "ends", "pile"] (spLawMoves K)) (C__law_moves : CallC K mg "_law_moves" ["leaving", "ends", "pile"] fMo fdMo) (G__law_all_in : FnOk P w K mg base CX0 1 fAi fdAi ["some", "others"] (spLawAllIn K)) (C__law_all_in : CallC K mg "_law_all_in" ["some", "others"] fAi fdAi) (G__law_pick : FnOk P w K mg base CX0 2 fPk fdPk ["box", "some"] spPick) (C__law_pick : CallC K mg "_law_pick" ["box", "some"] fPk fdPk) (G__law_sum : FnOk P w K mg base CX0 1 fSu fdSu ["table", "pile"] (spLawSum K)) (C__law_sum : CallC K mg "_law_sum" ["table", "pile"] fSu fdSu) : FnOk P w K mg base CX0 10 f fd ["script"] (spLaw K) := by
  refine F.ok scLa (fun vs H Q E h => ?_) (fun cdv A outer s H vs Q E hr h => ?_)
  · obtain ⟨a, ns, rfl, _⟩ := h
    rfl
  · obtain ⟨a, ns, rfl, hA, q⟩ := h
    refine ⟨_, pss_cons (ps_for PassesOwn.never rfl (pi_range1 (by rfl) N.range (pa_cons (pe_callB (call_max2 rfl) (by rfl) N.max (by decide +kernel) (pa_cons pe_int (pa_cons (pe_callB (call_min2 rfl) (by rfl) N.min (by decide +kernel) (pa_cons pe_int (pa_cons (pe_callB call_len_seq (by rfl) N.len PySem.boot_len (pa_cons (pv 0) pa_nil)) pa_nil))) pa_nil))) pa_nil)) (pg_name (i := 1) scLa.nd rfl (Or.inl rfl))
        (pss_cons (ps_set (i := 2) scLa.nd rfl (Or.inl rfl) (pe_call G__law_box (hr.mono (by decide)) (by rfl) C__law_box.g C__law_box.kp C__law_box.b .nil pass0 (pa_cons (pv 0) (pa_cons (pv 1) pa_nil))))
        (pss_cons (ps_set (i := 3) scLa.nd rfl (Or.inl rfl) (pe_call G__law_courses (hr.mono (by decide)) (by rfl) C__law_courses.g C__law_courses.kp C__law_courses.b .nil pass0 (pa_cons (pv 2) pa_nil)))
        (pss_cons (ps_par3 (i := 4) (j := 5) (l := 6) rfl scLa.nd rfl rfl rfl (by decide) (by decide) (by decide) rfl rfl rfl (pa_cons (pe_make M_Book G_Book (hr.mono (by decide)) (by rfl) B.mgC b_Book .nil pass0 (pa_cons (pv 3) pa_nil)) (pa_cons (pe_call G__law_leaving (hr.mono (by decide)) (by rfl) C__law_leaving.g C__law_leaving.kp C__law_leaving.b .nil pass0 (pa_cons (pv 3) pa_nil)) (pa_cons (pe_call G__law_ends (hr.mono (by decide)) (by rfl) C__law_ends.g C__law_ends.kp C__law_ends.b .nil pass0 (pa_cons (pv 3) pa_nil)) pa_nil))) (by rfl))
        (pss_cons (ps_par (i := 7) (j := 8) rfl scLa.nd rfl rfl (by decide) rfl rfl (pa_cons (pe_call G__law_deeds (hr.mono (by decide)) (by rfl) C__law_deeds.g C__law_deeds.kp C__law_deeds.b .nil pass0 (pa_cons (pv 3) pa_nil)) (pa_cons (pe_tup (pa_cons (pe_ix ix_tup (pe_ix ix_tup (pv 3) pe_int (fun _ _ => rfl)) pe_int (fun _ _ => rfl)) (pa_cons pe_int pa_nil))) pa_nil)) (by rfl))
        (pss_cons (ps_asg (pe_tup (pa_cons pe_dnewK (pa_cons pe_dnewK pa_nil))) (pg_tup rfl (pgs_cons (pg_name (i := 9) scLa.nd rfl (Or.inr rfl)) (pgs_cons (pg_name (i := 10) scLa.nd rfl (Or.inl rfl)) pgs_nil))))
        (pss_cons (ps_for PassesOwn.never rfl (pi_list (pv 7)) (pg_name (i := 11) scLa.nd rfl (Or.inl rfl))
          (pss_one (ps_asg (pe_tup (pa_cons (pe_call G__law_take (hr.mono (by decide)) (by rfl) C__law_take.g C__law_take.kp C__law_take.b .nil pass0 (pa_cons (pv 2) (pa_cons pe_int pa_nil))) (pa_cons (pe_call G__law_take (hr.mono (by decide)) (by rfl) C__law_take.g C__law_take.kp C__law_take.b .nil pass0 (pa_cons (pv 2) (pa_cons pe_int pa_nil))) pa_nil))) (pg_tup rfl (pgs_cons (pg_sub (pv 9) (pv 11) (set_dict (hu_of hr))) (pgs_cons (pg_sub (pv 10) (pv 11) (set_dict (hu_of hr))) pgs_nil))))))
        (pss_cons (ps_set (i := 12) scLa.nd rfl (Or.inr rfl) (pe_call G_price_ways (hr.mono (by decide)) (by rfl) C_price_ways.g C_price_ways.kp C_price_ways.b .nil pass0 (pa_cons (pv 4) (pa_cons (pv 9) pa_nil))))
        (pss_cons (ps_set (i := 13) scLa.nd rfl (Or.inl rfl) (pe_tup (pa_cons (pv 9) (pa_cons (pe_call G_least_prices (hr.mono (by decide)) (by rfl) C_least_prices.g C_least_prices.kp C_least_prices.b .nil pass0 (pa_cons (pv 4) (pa_cons (pv 9) pa_nil))) (pa_cons (pv 12) (pa_cons (pe_call G_counts_along (hr.mono (by decide)) (by rfl) C_counts_along.g C_counts_along.kp C_counts_along.b .nil pass0 (pa_cons (pv 4) (pa_cons (pv 12) pa_nil))) pa_nil))))))
        (pss_cons (ps_set (i := 14) scLa.nd rfl (Or.inl rfl) (pe_tup (pa_cons (pv 10) (pa_cons (pe_call G_least_prices (hr.mono (by decide)) (by rfl) C_least_prices.g C_least_prices.kp C_least_prices.b .nil pass0 (pa_cons (pv 4) (pa_cons (pv 10) pa_nil))) pa_nil))))
        (pss_cons (ps_par (i := 15) (j := 16) rfl scLa.nd rfl rfl (by decide) rfl rfl (pa_cons (pe_ifExp (pt_cmp (pc_din (hu_of hr) (pv 8) (pv 12))) (pe_tup (pa_cons (pv 8) pa_nil)) (pe_tup pa_nil)) (pa_cons pe_int pa_nil)) (by rfl))
        (pss_cons (ps_for PassesOwn.never rfl (pi_range1 (by rfl) N.range (pa_cons pe_int pa_nil)) (pg_name (i := 17) scLa.nd rfl (Or.inl rfl))
          (pss_cons (ps_if (pt_not (pt_val (pe_call G__law_moment_right (hr.mono (by decide)) (by rfl) C__law_moment_right.g C__law_moment_right.kp C__law_moment_right.b .nil pass0 (pa_cons (pv 5) (pa_cons (pv 7) (pa_cons (pv 13) (pa_cons (pv 14) (pa_cons (pv 15) pa_nil)))))))) (pss_one (ps_ret pe_bl)) pss_nil)
          (pss_cons (ps_setLc (i := 18) (own := [("pair", 22)]) (g := gName 22) rfl scLa.nd rfl rfl (sw_true rfl rfl rfl rfl) (pi_list (pe_call G__law_moves (hr.mono (by decide)) (by rfl) C__law_moves.g C__law_moves.kp C__law_moves.b .nil pass0 (pa_cons (pv 5) (pa_cons (pv 6) (pa_cons (pv 15) pa_nil))))) (blkOk_by (own := [("pair", 22)]) (N := nLa) (sc := defScope sLaw) (by decide +kernel)) (fun _ _ _ _ _ => (pg_name (i := 22) scLa.nd rfl (Or.inl rfl))) (fun _ _ _ _ _ => pts_one (pt_val (pe_call G__law_all_in (hr.mono (by decide)) (by rfl) C__law_all_in.g C__law_all_in.kp C__law_all_in.b .nil pass0 (pa_cons (pe_ix (ixT_at (K := K) rfl) (pv 22) pe_int (fun _ _ => rfl)) (pa_cons (pv 12) pa_nil))))) (fun _ _ _ _ _ => (pv 22)))
          (pss_one (ps_if (pt_cmpR (op_neD hr.units) (pv 18) (pe_lst pa_nil) (nomark _)) (pss_cons (ps_asg (pe_call G__law_pick (hr.mono (by decide)) (by rfl) C__law_pick.g C__law_pick.kp C__law_pick.b .nil pass0 (pa_cons (pv 2) (pa_cons (pv 18) pa_nil))) (pg_tup rfl (pgs_cons (pg_name (i := 19) scLa.nd rfl (Or.inr rfl)) (pgs_cons (pg_name (i := 20) scLa.nd rfl (Or.inl rfl)) pgs_nil))))
            (pss_cons (ps_set (i := 21) scLa.nd rfl (Or.inl rfl) (pe_callB (cr_sum rfl) (by rfl) N.sum (by decide +kernel) (pa_cons (pe_lc (own := [("entry", 23)]) (g := gName 23) rfl scLa.nd (pi_list (pe_dget (hu_of hr) (pv 5) (pe_ix ix_tup (pv 15) pe_int (fun _ _ => rfl)) (fun _ _ => rfl))) (blkOk_by (own := [("entry", 23)]) (N := nLa) (sc := defScope sLaw) (by decide +kernel)) (fun _ _ _ _ _ => (pg_name (i := 23) scLa.nd rfl (Or.inl rfl))) (fun _ _ _ _ _ => pts_one (PW.pt (pw_and (pt_cmpR (eqD_at (K := K) rfl hr.units) (pe_ix (ixT_at (K := K) rfl) (pv 23) pe_int (fun _ _ => rfl)) (pv 19) (nomark _)) (pw_and1 (pt_cmpR op_notN (pe_ix (ixT_at (K := K) rfl) (pv 23) pe_int (fun _ _ => rfl)) pe_non (nomark _)))))) (fun _ _ _ _ _ => (pe_dget (hu_of hr) (pv 9) (pe_ix (ixT_at (K := K) rfl) (pv 23) pe_int (fun _ _ => rfl)) (fun _ _ => rfl)))) pa_nil)))
            (pss_cons (ps_if (pt_cmpR op_lt (pe_op op_add (pv 21) (pe_call G__law_sum (hr.mono (by decide)) (by rfl) C__law_sum.g C__law_sum.kp C__law_sum.b .nil pass0 (pa_cons (pe_ix ix_tup (pv 13) pe_int (fun _ _ => rfl)) (pa_cons (pv 20) pa_nil)))) (pe_call G__law_sum (hr.mono (by decide)) (by rfl) C__law_sum.g C__law_sum.kp C__law_sum.b .nil pass0 (pa_cons (pe_ix ix_tup (pv 13) pe_int (fun _ _ => rfl)) (pa_cons (pv 15) pa_nil))) (nomark _)) (pss_one (ps_ret pe_bl)) pss_nil)
            (pss_one (ps_par (i := 15) (j := 16) rfl scLa.nd rfl rfl (by decide) rfl rfl (pa_cons (pv 20) (pa_cons (pe_op op_add (pv 16) (pv 21)) pa_nil)) (by rfl)))))) pss_nil)))))
        (pss_one (ps_if (PW.pt (pw_and (pt_cmp (pc_din (hu_of hr) (pv 8) (pv 12))) (pw_and1 (pt_cmpR op_lt (pe_op op_add (pv 16) (pe_call G__law_sum (hr.mono (by decide)) (by rfl) C__law_sum.g C__law_sum.kp C__law_sum.b .nil pass0 (pa_cons (pe_ix ix_tup (pv 13) pe_int (fun _ _ => rfl)) (pa_cons (pv 15) pa_nil)))) (pe_dget (hu_of hr) (pe_ix ix_tup (pv 13) pe_int (fun _ _ => rfl)) (pv 8) (fun _ _ => rfl)) (nomark _))))) (pss_one (ps_ret pe_bl)) pss_nil))))))))))))))
      (pss_one (ps_ret pe_bl)), ?_⟩
    obtain ⟨m, hm2, hm⟩ : ∃ m : Nat, m ≤ 2 ∧ (if (if ((intV ns).length : Int) < 2 then ((intV ns).length : Int) else 2) > 1 then (if ((intV ns).length : Int) < 2 then ((intV ns).length : Int) else 2) else 1) = (m : Int) := by
      refine ⟨max 1 (min 2 ns.length), by omega, ?_⟩
      rw [intV_len]
      split <;> split <;> omega
    refine ⟨_, rfl, a, _, rfl, .inl hA, _, _, rfl, _, _, rfl, (m : Int), congrArg (fun z => [V.int z]) hm, by omega, by omega, ?_⟩
    have em : ((m : Int)).toNat = m := by omega
    rw [em]
    refine for_it (walk_r0 (n := m)) (fun i σ Z => ∃ x1 x2 x3 x4 x5 x6 x7 x8 x9 x10 x11 x12 x13 x14 x15 x16 x17 x18 x19 x20 x21 x22 x23 : Option V, σ = [some (.ref a), x1, x2, x3, x4, x5, x6, x7, x8, x9, x10, x11, x12, x13, x14, x15, x16, x17, x18, x19, x20, x21, x22, x23] ∧ Same H Z) ⟨none, none, none, none, none, none, none, none, none, none, none, none, none, none, none, none, none, none, none, none, none, none, none, rfl, fun _ _ e => e⟩ (fun _ _ _ _ _ => True.intro) (fun i y σ Z Z' hi h yy => ?_) (fun σ Z h => ?_)
    · obtain ⟨rfl, rfl⟩ := yy
      obtain ⟨x1, x2, x3, x4, x5, x6, x7, x8, x9, x10, x11, x12, x13, x14, x15, x16, x17, x18, x19, x20, x21, x22, x23, rfl, sZ⟩ := h
      refine ⟨_, rfl, _, rfl, a, i, ns, rfl, sZ.seq hA, by omega, fun H1 x s1 nx b1 => ?_⟩
      have nxH := sZ.free nx
      have sH1 := sZ.trans s1
      refine ⟨_, rfl, x, rfl, b1, fun H2 q1 cs k2 b2 n1 hd => ?_⟩
      have ok := hd.ok
      refine ⟨_, rfl, ?_⟩
      intro bk dx nbk ndx nex
      have s8 : Same H2 (upd (upd H2 dx (.own bk)) bk (.ins C dx [])) := fun b o e => by
        rw [upd_ne (ne_of_none e nbk), upd_ne (ne_of_none e ndx)]
        exact e
      have ex : upd (upd H2 dx (.own bk)) bk (.ins C dx []) bk = some (.ins C dx []) := upd_same
      generalize upd (upd H2 dx (.own bk)) bk (.ins C dx []) = HF at s8 ex
      refine ⟨bk, q1, dx, cs, rfl, ex, (hd.at K).mono s8, ok, fun HG kk hBk => ⟨rfl, ?_⟩⟩
      have sG : Same H2 HG := fun b o e => kk _ _ (ne_of_none e nbk) (s8 _ _ e)
      have hCG := (hd.at K).mono sG
      refine ⟨_, rfl, q1, cs, rfl, hCG, ok, fun H4 lv s4 nlv hL => ?_⟩
      refine ⟨_, rfl, q1, cs, rfl, hCG.mono s4, ok, fun H5 en s5 nen hE => ?_⟩
      refine ⟨_, _, _, rfl, ?_⟩
      have s25 := sG.trans (s4.trans s5)
      have hC5 := (hd.at K).mono s25
      have hL := hL.mono s5
      have lz : (dns cs).length < 64 := by
        have := dns_small (m := 6) hd.sz
        have := hd.n3
        omega
      refine ⟨_, rfl, q1, cs, rfl, hC5, lz, fun c hc => by have := hd.sz c hc; omega, fun H6 dl ds s6 ndl edl hds => ?_⟩
      have s26 := s25.trans s6
      have hd6 := hd.ts (TS.of s26)
      obtain ⟨c0, hc0⟩ : ∃ c0, cs[0]? = some c0 := ⟨_, List.getElem?_eq_getElem (by have := hd.n2; omega)⟩
      have mc0 := List.mem_of_getElem? hc0
      have hcv : (cs.map fun c => V.ref c.a)[0]? = some (.ref c0.a) := by rw [List.getElem?_map, hc0]; rfl
      have ct0 := (hd6.c c0 mc0).at K
      refine ⟨_, rfl, q1, _, _, .ref c0.a, rfl, rfl, sqT_new hd6.t, atI_nat hcv, c0.a, _, _, .str c0.nm, rfl, rfl, ct0.t, rfl, smallE (by show 2 ≤ 1000000; decide), fun st nst => ⟨_, _, rfl, ?_⟩⟩
      have s7 := same_new (o := .tup [V.str c0.nm, .int 0]) nst
      have est : upd H6 st (.tup [V.str c0.nm, .int 0]) st = some (.tup (stV (c0.nm, 0))) := upd_same
      have s27 := s26.trans s7
      have hL := (hL.mono s6).mono s7
      have hE := (hE.mono s6).mono s7
      have edl := s7 _ _ edl
      have hBk := (((hBk.mono s4).mono s5).mono s6).mono s7
      generalize upd H6 st (.tup [V.str c0.nm, .int 0]) = H7 at s7 est s27 hL hE edl hBk
      refine fun pr npr po npo => ⟨smallE (by show 2 ≤ 1000000; decide), fun tt ntt => ⟨tt, _, rfl, sqT_new upd_same, rfl, _, _, rfl, _, _, rfl, rfl, ?_⟩⟩
      have spr := same_new (o := .dK []) npr
      have epr : upd H7 pr (.dK []) pr = some (.dK []) := upd_same
      generalize upd H7 pr (.dK []) = H8 at spr epr npo ntt
      have spo := same_new (o := .dK []) npo
      have epo : upd H8 po (.dK []) po = some (.dK []) := upd_same
      have ppo : pr ≠ po := ne_of_none epr npo
      have epr := spo _ _ epr
      generalize upd H8 po (.dK []) = H9 at spo epo epr ntt
      have stt := same_new (o := .tup [V.ref pr, .ref po]) ntt
      have epr := stt _ _ epr
      have epo := stt _ _ epo
      generalize upd H9 tt (.tup [V.ref pr, .ref po]) = H10 at stt epr epo
      have s7X := (spr.trans spo).trans stt
      have b10 : Box H10 x := (b2.mono (s27.trans s7X))
      have npo7 := spr.free npo
      have prx : pr ≠ x := Box.ne (b2.mono s27) npr
      have pox : po ≠ x := Box.ne (b2.mono s27) npo7
      refine ⟨_, rfl, dl, rfl, ⟨_, sqL_new (s7X _ _ edl)⟩, ?_⟩
      have ndd : ds.Nodup := hds.1.nodup_iff.mpr (uniq_nd _)
      have dl12 : ds.length ≤ 12 := by rw [hds.1.length_eq]; exact ok.d12
      have dlx : dl ≠ x := lst_ne (b2.mono s27) edl fun v hv i z => by
        obtain ⟨d, _, rfl⟩ := List.mem_map.mp hv
        cases z
      refine for_it (walk_list (K := K) (a := dl) (xs := ds.map V.str)) (fun j σ Z => ∃ (x11 : Option V) (f1 f2 : Str → Nat), σ = [some (.ref a), some (.int (i : Int)), some (.ref x), some (.ref q1), some (.ref bk), some (.ref lv), some (.ref en), some (.ref dl), some (.ref st), some (.ref pr), some (.ref po), x11, x12, x13, x14, x15, x16, x17, x18, x19, x20, x21, x22, x23] ∧ But x H7 Z ∧ Box Z x ∧ Z pr = some (.dK (wKV (ds.take j) f1)) ∧ Z po = some (.dK (wKV (ds.take j) f2)) ∧ (∀ d, f1 d ≤ 100) ∧ ∀ d, f2 d ≤ 100)
        ⟨_, fun _ => 0, fun _ => 0, rfl, But.of s7X, b10, epr, epo, fun _ => Nat.zero_le _, fun _ => Nat.zero_le _⟩ (fun _ σ Z _ h => ?_) (fun j yv σ Z Z2 hj h yy => ?_) (fun σ Z h => ?_)
      · obtain ⟨_, _, _, _, k, _⟩ := h
        exact sqL_new (k _ _ dlx edl)
      · obtain ⟨rfl, hy⟩ := yy
        obtain ⟨dd, hdd, rfl⟩ := get_map hy
        obtain ⟨x11, f1, f2, rfl, kZ, bZ, ez1, ez2, l1, l2⟩ := h
        refine ⟨_, rfl, x, 10, rfl, bZ, by decide, by decide, fun r Z3 hr k3 b3 => ⟨_, rfl, x, 10, rfl, b3, by decide, by decide, fun r2 Z4 hr2 k4 b4 => ⟨smallE (by show 2 ≤ 1000000; decide), fun t2 nt2 => ⟨t2, _, rfl, sqT_new upd_same, rfl, ?_⟩⟩⟩⟩
        have e31 := k3 _ _ prx ez1
        have e32 := k3 _ _ pox ez2
        have e41 := k4 _ _ prx e31
        have e42 := k4 _ _ pox e32
        have st2 := same_new (o := .tup [V.int (r : Int), .int (r2 : Int)]) nt2
        have e51 := st2 _ _ e41
        have e52 := st2 _ _ e42
        have b5 := b4.mono st2
        have k5 := ((kZ.trans k3).trans k4).trans (But.of st2)
        generalize upd Z4 t2 (.tup [V.int (r : Int), .int (r2 : Int)]) = Z5 at e51 e52 b5 k5
        have dnew : dd ∉ ds.take j := fun z => by
          rw [← List.take_append_drop j ds, drop_of_get hdd, List.nodup_append] at ndd
          exact ndd.2.2 _ z _ List.mem_cons_self rfl
        have wput : ∀ (f1 : Str → Nat) (r : Nat), putK (wKV (ds.take j) f1) (Sum.inr dd : L2.Key) (.int (r : Int)) = wKV (ds.take (j + 1)) (fun d => if d = dd then r else f1 d) := fun f1 r => by
          rw [putK_new]
          · unfold wKV
            rw [take_of_get hdd, List.map_append]
            congr 1
            · exact List.map_congr_left fun d hd => by
                show _ = (Sum.inr d, V.int (((if d = dd then r else f1 d : Nat)) : Int))
                rw [if_neg (fun z => dnew (by rw [← z]; exact hd))]
            · show _ = [(Sum.inr dd, V.int (((if dd = dd then r else f1 dd : Nat)) : Int))]
              rw [if_pos rfl]
          · rw [wKV_keys]
            exact fun z => dnew (inr_mem z)
        have wlen : ∀ f : Str → Nat, (wKV (ds.take j) f).length < 100 := fun f => by
          unfold wKV
          rw [List.length_map, List.length_take]
          omega
        refine ⟨_, _, rfl, _, rfl, _, rfl, pr, _, rfl, DPut.k e51 (k := Sum.inr dd) (small (by have := wlen f1; omega)), ?_⟩
        have e62 : upd Z5 pr (.dK (putK (wKV (ds.take j) f1) (Sum.inr dd) (.int (r : Int)))) po = some (.dK (wKV (ds.take j) f2)) := by
          rw [upd_ne (Ne.symm ppo)]
          exact e52
        refine ⟨_, _, rfl, _, rfl, _, rfl, po, _, rfl, DPut.k e62 (k := Sum.inr dd) (small (by have := wlen f2; omega)), rfl, ?_⟩
        refine ⟨_, fun d => if d = dd then r else f1 d, fun d => if d = dd then r2 else f2 d, rfl, fun c o hc e => ?_, ?_, ?_, ?_, fun d => ?_, fun d => ?_⟩
        · rw [upd_ne (ne_of_none e npo7), upd_ne (ne_of_none e npr)]
          exact k5 _ _ hc e
        · exact (b5.upd prx).upd pox
        · rw [upd_ne ppo, upd_same, wput]
        · rw [upd_same, wput]
        · show (if d = dd then r else f1 d) ≤ 100
          split
          · omega
          · exact l1 d
        · show (if d = dd then r2 else f2 d) ≤ 100
          split
          · omega
          · exact l2 d
      · obtain ⟨x11, wf, wx, rfl, kZ, bZ, ez1, ez2, l1, l2⟩ := h
        rw [List.length_map, List.take_length] at ez1 ez2
        have b7 := b2.mono s27
        have hBk : BookAt K C Z bk q1 cs := hBk.box b7 kZ
        have hL := hL.but b7 kZ
        have hE := hE.but b7 kZ
        have edl := kZ _ _ dlx edl
        have est := TS.but b7 kZ _ _ est
        have hW : WAt Z pr cs wf := ⟨ds, ez1, hds.1⟩
        have hX : WAt Z po cs wx := ⟨ds, ez2, hds.1⟩
        have toZ : Same H Z := fun c o e => kZ _ _ (ne_of_none e nxH) (s27 _ _ (k2 _ _ (ne_of_none e nxH) (sH1 _ _ e)))
        refine ⟨_, rfl, _, rfl, bk, q1, pr, cs, wf, rfl, hBk, hW, fun Y1 ch dn M sy1 nch hWy ksM hset hsub hway => ?_⟩
        have mk := keys_srt ksM
        have ndM : (M.map (·.2.1)).Nodup := mk.nodup_iff.mpr hset.nd
        obtain ⟨sp, way⟩ := way_fun ndM hway
        have sound := ways_sound hset mk way
        refine ⟨_, rfl, _, rfl, _, rfl, bk, q1, pr, cs, wf, rfl, hBk.mono sy1, hW.mono sy1, fun Y2 tb dnA dnA' sy2 ntb etb pA kA hsetA hsubA => ?_⟩
        refine ⟨_, rfl, _, rfl, _, rfl, bk, q1, ch, cs, M.map castB, rfl, (hBk.mono sy1).mono sy2, waysB_of (hWy.mono sy2), by rw [castB_ks]; exact ndM, fun z hz => hsub z (mk.mem_iff.mp (by rw [castB_ks] at hz; exact hz)), sound, fun Y3 cq ds2 CM cf sy3 ncq hds2 ecq hCM kCM hct => ?_⟩
        have := ds_uniq hds2 hds
        subst this
        obtain ⟨g, hCh⟩ := chosen_mk ok hd.n3 hd.n4 hds hset hsub mk way hct
        refine ⟨smallE (by show 4 ≤ 1000000; decide), fun tq ntq => ?_⟩
        have st4 := same_new (o := .tup [V.ref pr, .ref tb, .ref ch, .ref cq]) ntq
        have etq : upd Y3 tq (.tup [V.ref pr, .ref tb, .ref ch, .ref cq]) tq = some (.tup [V.ref pr, .ref tb, .ref ch, .ref cq]) := upd_same
        generalize upd Y3 tq (.tup [V.ref pr, .ref tb, .ref ch, .ref cq]) = Y4 at st4 etq
        have sZ4 : Same Z Y4 := (sy1.trans sy2).trans (sy3.trans st4)
        refine ⟨_, rfl, _, rfl, _, rfl, bk, q1, po, cs, wx, rfl, hBk.mono sZ4, hX.mono sZ4, fun Y5 to dm dm' sy5 nto eto pm km hsetm hsubm => ?_⟩
        refine ⟨smallE (by show 2 ≤ 1000000; decide), fun oq noq => ?_⟩
        have st6 := same_new (o := .tup [V.ref po, .ref to]) noq
        have eoq : upd Y5 oq (.tup [V.ref po, .ref to]) oq = some (.tup [V.ref po, .ref to]) := upd_same
        generalize upd Y5 oq (.tup [V.ref po, .ref to]) = Y6 at st6 eoq
        have sZ6 : Same Z Y6 := sZ4.trans (sy5.trans st6)
        have s46 := sy5.trans st6
        have s36 := st4.trans s46
        have s26 := sy3.trans s36
        have s16 := sy2.trans s26
        have mom : MomAt K Y6 cs lv dl tq oq ds2 wf wx dn dm M cf sp g pr tb ch cq po to := ⟨ok, hL.mono sZ6, sZ6 _ _ edl, s46 _ _ etq, eoq, hWy.mono s16, ndM, hCh, hsub, hds, hW.mono sZ6, hX.mono sZ6, l1, l2, tab_of (s26 _ _ etb) pA hsetA hset, tab_of (st6 _ _ eto) pm hsetm hsetm, cts_of (s36 _ _ ecq) (fun t ht => s36 _ _ (hCM t ht)) kCM (by rw [castB_ks]; exact ndM) (fun z hz => (hct z hz).2) (fun z hz => by rw [castB_ks]; exact mk.mem_iff.mpr hz), hsetm⟩
        have est := sZ6 _ _ est
        have hE := hE.mono sZ6
        have bY := bZ.mono sZ6
        have toY := toZ.trans sZ6
        have vch : (valV (wyKV M) (stK (c0.nm, 0))).isSome = decide ((c0.nm, 0) ∈ M.map (·.2.1)) := val_in (wy_keys M) _
        clear hL hBk hW hX ez1 ez2 edl hWy sound hCM ecq etb eto etq eoq
        generalize (c0.nm, (0 : Nat)) = sg at est vch
        refine ⟨_, rfl, _, rfl, ch, _, rfl, DGet.t mom.wy.1 (k := stK sg) est, ?_⟩
        rw [vch]
        refine ⟨_, rfl, ite_join (fun v L => ∃ p0 xs, v = .ref p0 ∧ Same Y6 L ∧ PtS K L p0 xs ∧ (∀ z ∈ xs, z ∈ Kz.keys dn) ∧ xs.length ≤ 1 ∧ (sg ∈ Kz.keys dn → xs = [sg])) (fun v L h => ?_) (fun c0 R' hR => ?_) (fun c0 R' hR => ?_)⟩
        · obtain ⟨p0, xs0, rfl, sL, hP0, hk0, lx0, hs0⟩ := h
          refine ⟨_, _, rfl, ?_⟩
          refine ⟨12, rfl, by decide, by decide, ?_⟩
          rw [show ((12 : Int)).toNat = 12 from rfl]
          have momL := mom.mono sL
          have hEL := hE.mono sL
          have bL := bY.mono sL
          have estL := sL _ _ est
          have toL := toY.trans sL
          have hxL : L x = some (.lst _) := bL.choose_spec.choose_spec.choose_spec
          refine for_it (walk_r0 (n := 12)) (fun j σ G => ∃ (pl : Addr) (paid : Nat) (xs : List Stg) (y17 y18 y19 y20 y21 y22 y23 : Option V), σ = [some (.ref a), some (.int (i : Int)), some (.ref x), some (.ref q1), some (.ref bk), some (.ref lv), some (.ref en), some (.ref dl), some (.ref st), some (.ref pr), some (.ref po), x11, some (.ref ch), some (.ref tq), some (.ref oq), some (.ref pl), some (.int (paid : Int)), y17, y18, y19, y20, y21, y22, y23] ∧ But x L G ∧ Box G x ∧ MomAt K G cs lv dl tq oq ds2 wf wx dn dm M cf sp g pr tb ch cq po to ∧ StLs G en (endsS cs) ∧ PtS K G pl xs ∧ (∀ z ∈ xs, z ∈ Kz.keys dn) ∧ xs.length ≤ j + 1 ∧ (sg ∈ Kz.keys dn → (Kz.vf dn sg).1 ≤ paid + (xs.map fun z => (Kz.vf dn z).1).sum))
            ⟨p0, 0, xs0, _, _, _, _, _, _, _, rfl, But.refl, bL, momL, hEL, hP0, hk0, by omega, fun hsg => by rw [hs0 hsg]; show _ ≤ 0 + ((Kz.vf dn sg).1 + 0); omega⟩ (fun _ _ _ _ _ => True.intro) (fun j y σ G G' hj h yy => ?_) (fun σ G h => ?_)
          · obtain ⟨rfl, rfl⟩ := yy
            obtain ⟨pl, paid, xs, y17, y18, y19, y20, y21, y22, y23, rfl, kG, bG, mG, eG, hP, hk, lx, hpd⟩ := h
            refine ⟨_, rfl, _, rfl, _, rfl, _, rfl, _, rfl, lv, dl, tq, oq, pl, cs, xs, ds2, wf, wx, dn, dm, M, cf, sp, g, pr, tb, ch, cq, po, to, rfl, mG, hP, hk, by omega, fun G1 sg1 => ?_⟩
            refine ⟨_, rfl, iteF ?_⟩
            have mG1 := mG.mono sg1
            have hP1 := hP.mono sg1
            have b1G := bG.mono sg1
            have k1G := kG.trans (But.of sg1)
            have eG1 := eG.mono sg1
            refine ⟨_, rfl, _, rfl, _, rfl, lv, en, pl, cs, xs, rfl, ok, mG1.L, eG1, hP1, by omega, fun z hz => hsub z (hk z hz), fun G2 ql L2' sg2 nql eql lL tL L0 oL => ?_⟩
            have b2G := b1G.mono sg2
            refine ⟨ql, rfl, ⟨_, sqL_new eql⟩, fun D nD => ?_⟩
            refine lc_it (walk_list (K := K) (a := ql) (xs := L2'.map fun t => V.ref t.a)) (fun jj Gx => Same G2 Gx ∧ ∃ O : List MV, Gx D = some (.lst (O.map fun t => V.ref t.a)) ∧ O.length ≤ jj ∧ ∀ t ∈ O, t ∈ L2' ∧ ∀ z ∈ t.lt, z ∈ Kz.keys dn) ⟨same_new nD, [], upd_same, Nat.le_refl _, (fun t ht => nomatch ht)⟩ (fun _ _ _ h => sqL_new (h.1 _ _ eql)) (fun jj y Gx Gy hjj h yy => ?_) (fun Gx h => ?_)
            · obtain ⟨rfl, hy⟩ := yy
              obtain ⟨t, ht2, rfl⟩ := get_map hy
              obtain ⟨sx, O, eO, lO, tO⟩ := h
              have mt := List.mem_of_getElem? ht2
              have tA := (tL t mt).mono sx
              have ltl : t.lt.length ≤ 100 := by
                cases hxs : xs with
                | nil => rw [L0 hxs] at mt; exact nomatch mt
                | cons z r =>
                  rw [hxs, List.length_cons] at lx
                  rcases oL z r hxs t mt with ⟨_, _, e⟩ | ⟨k, s9, _, _, _, _, e⟩
                  · rw [e]; omega
                  · have := partsS_len z.1 s9
                    rw [e, List.length_append]; omega
              refine ⟨rfl, _, rfl, t.a, _, _, .ref t.la, rfl, rfl, sqT_new tA.1, rfl, _, rfl, t.la, ch, wyKV M, t.lt, M.map (·.2.1), rfl, tA.2.2, by omega, .inl ((mG1.mono sg2).mono sx).wy.1, wy_keys M, fun Gz sz => ?_⟩
              have eO := sz _ _ eO
              have sx := sx.trans sz
              refine ⟨_, rfl, ite2 (fun c9 => ?_) (fun c9 => ?_)⟩
              · refine ⟨_, rfl, _, eO, by rw [List.length_map]; rw [List.length_map] at hjj; exact small (by omega), fun b o e => ?_, O ++ [t], ?_, by rw [List.length_append]; show _ + 1 ≤ _; omega, fun u hu => ?_⟩
                · rw [upd_ne (ne_of_none e nD)]
                  exact sx _ _ e
                · rw [upd_same, List.map_append]
                  rfl
                · rcases List.mem_append.mp hu with z | z
                  · exact tO u z
                  · rw [List.mem_singleton.mp z]
                    exact ⟨mt, fun z hz => mk.mem_iff.mp (of_decide_eq_true (List.all_eq_true.mp c9 z hz))⟩
              · exact ⟨sx, O, eO, by omega, tO⟩
            · obtain ⟨sx, O, eO, lO, tO⟩ := h
              rw [List.length_map] at lO
              refine ⟨_, rfl, Nat.zero_le _, fun e9 ne9 => ?_⟩
              have s9 := same_new (o := .lst []) ne9
              have ee9 : upd Gx e9 (.lst []) e9 = some (.lst []) := upd_same
              have eO := s9 _ _ eO
              have sx := sx.trans s9
              generalize upd Gx e9 (.lst []) = G3 at s9 ee9 eO sx
              have sG3 := sg2.trans sx
              have tA : ∀ t ∈ O, MvAt K G3 t := fun t ht => (tL t (tO t ht).1).mono sx
              have nmZ : ∀ z ∈ Kz.keys dn, isName z.1 = true := fun z hz => by
                obtain ⟨c, mc, e1, _⟩ := mem_stagesS.mp (hsub z hz)
                rw [e1]
                exact (ok.ok c mc).nm
              refine ⟨.list (O.map pairD), .list [], .lst (sqL_new eO) (dp_pairs tA), .lst (sqL_new ee9) .nil, pairs_shaped fun t ht z hz => nmZ z ((tO t ht).2 z hz), by decide +kernel, ?_⟩
              have mG3 := mG1.mono sG3
              have b3G := b1G.mono sG3
              have k3G := k1G.trans (But.of sG3)
              have eG3 := eG1.mono sG3
              have hP3 := hP1.mono sG3
              cases hO : O with
              | nil =>
                refine ⟨_, rfl, iteNo (by decide +kernel) ?_⟩
                exact ⟨pl, paid, xs, _, _, _, _, _, _, _, rfl, k3G, b3G, mG3, eG3, hP3, hk, by omega, hpd⟩
              | cons o1 O1 =>
                refine ⟨_, rfl, iteYes (by simp [PyData.eqv, PyData.eqvAll]) ?_⟩
                have neD : D ≠ x := fun z => by
                  obtain ⟨_, _, _, eb⟩ := b2G
                  rw [z, eb] at nD
                  cases nD
                refine ⟨_, rfl, _, rfl, x, D, O.map (fun t => V.ref t.a), rfl, b3G, neD, .inl eO, by rw [List.length_map, hO]; exact Nat.zero_lt_succ _, by rw [List.length_map]; omega, fun ii v G4 hv k4 b4 => ?_⟩
                obtain ⟨t, ht2, rfl⟩ := get_map hv
                have mtO := List.mem_of_getElem? ht2
                obtain ⟨mtL, tk⟩ := tO t mtO
                have tA4 := (tA t mtO).box b3G k4
                have mG4 := mG3.box b3G k4
                have eG4 := eG3.but b3G k4
                have hP4 := hP3.box b3G k4
                have k4G := k3G.trans k4
                obtain ⟨z0, r, hxs⟩ : ∃ z0 r, xs = z0 :: r := by
                  cases hxs : xs with
                  | nil => rw [L0 hxs] at mtL; exact nomatch mtL
                  | cons z r => exact ⟨z, r, rfl⟩
                have mv := oL z0 r hxs t mtL
                have hz0 : z0 ∈ Kz.keys dn := hk z0 (by rw [hxs]; exact List.mem_cons_self)
                refine ⟨t.a, _, rfl, sqT_new tA4.1, rfl, _, _, rfl, _, _, rfl, rfl, ?_⟩
                obtain ⟨kvs, l, EE, f1, f2, f3, f4, f5, f6, f7, f8⟩ := leav_row ok mG4.L (hsub z0 hz0)
                obtain ⟨PL, p1, p2, p3⟩ := id hP4
                cases PL with
                | nil => rw [hxs] at p2; exact nomatch p2
                | cons u PL =>
                have eu : u.2 = z0 := by
                  rw [hxs, List.map_cons] at p2
                  injection p2
                have hu1 : G4 u.1 = some (.tup (stV z0)) := by rw [← eu]; exact p3 u List.mem_cons_self
                have at0 : atI ((u :: PL).map fun t => V.ref t.1) 0 = some (.ref u.1) := atI_nat (j := 0) rfl
                refine ⟨_, rfl, _, rfl, pl, _, _, .ref u.1, rfl, rfl, p1, at0, lv, .ref l, rfl, f2 ▸ DGet.t f1 (k := stK z0) hu1, l, rfl, ⟨_, sqL_new f3⟩, fun D2 nD2 => ?_⟩
                have same : ∀ y ∈ EE, ∀ s', t.mv = some (y.k, s') → s' = y.s := fun y hy s' e => by
                  obtain ⟨_, _, c', mc', ec', a', hs'⟩ := f7 y hy
                  rcases mv with ⟨em, _⟩ | ⟨k, s9, em, _, _, ⟨c, mc, ec, a9, hs9⟩, _⟩
                  · rw [em] at e
                    cases e
                  · rw [em] at e
                    cases e
                    have := same_course ok.nd mc' mc (ec'.symm.trans ec)
                    subst this
                    rw [hs9] at hs'
                    cases hs'
                    rfl
                obtain ⟨cc, hcc⟩ : ∃ cc : EL → Nat, ∀ y, cc y = if t.mv.map (·.1) = some y.k ∧ y.s.call = false then wf y.s.nm else 0 := ⟨_, fun _ => rfl⟩
                obtain ⟨kvp, ekp, hkp⟩ := mG4.p.get
                refine lc_it (walk_list (K := K) (a := l) (xs := EE.map fun y => V.ref y.e)) (fun jj Gx => Same G4 Gx ∧ ∃ vs : List Nat, Gx D2 = some (.lst (natV vs)) ∧ vs.length ≤ jj ∧ vs.sum = ((EE.take jj).map cc).sum) ⟨same_new nD2, [], upd_same, Nat.le_refl _, rfl⟩ (fun _ _ _ h => sqL_new (h.1 _ _ f3)) (fun jj y9 Gx Gy hjj h yy => ?_) (fun Gx h => ?_)
                · obtain ⟨rfl, hy⟩ := yy
                  obtain ⟨y, hy2, rfl⟩ := get_map hy
                  obtain ⟨sx, vs, eV, lV, sV⟩ := h
                  have my := List.mem_of_getElem? hy2
                  obtain ⟨y1, y2, y3⟩ := (f4 y my).ts (TS.of sx)
                  have tA5 := tA4.mono sx
                  rw [List.length_map] at hjj
                  refine ⟨rfl, _, rfl, y.e, _, _, .ref y.m, rfl, rfl, sqT_new y1, rfl, _, rfl, mvD (some (y.k, y.s)), mvD t.mv, dp_mv y2, dp_mv tA5.2.1, mvD_shaped _, mvD_shaped _, ?_⟩
                  rw [eqv_mv (same y my)]
                  have skip : cc y = 0 → Same G4 Gy ∧ ∃ vs : List Nat, Gy D2 = some (.lst (natV vs)) ∧ vs.length ≤ jj + 1 ∧ vs.sum = ((EE.take (jj + 1)).map cc).sum := fun z => ⟨sx, vs, eV, by omega, by rw [take_of_get hy2, List.map_append, List.sum_append, ← sV]; show _ = _ + (cc y + 0); omega⟩
                  refine ⟨_, rfl, ite2 (fun c9 => ?_) (fun c9 => ?_)⟩
                  · refine ⟨_, rfl, y.e, _, _, labV y.s, rfl, rfl, sqT_new y1, rfl, rfl, _, rfl, ?_⟩
                    cases hc : y.s.call with
                    | true =>
                      have el : labV y.s = .non := by unfold labV; rw [if_pos hc]
                      rw [el]
                      exact iteNo rfl (skip (by rw [hcc, if_neg (fun z => by rw [hc] at z; exact absurd z.2 (by decide))]))
                    | false =>
                      have el : labV y.s = .str y.s.nm := by unfold labV; rw [if_neg (by rw [hc]; decide)]
                      rw [el]
                      refine iteYes rfl ?_
                      have mdd : y.s.nm ∈ dns cs := (mem_uniq _ _).mp (hds.1.mem_iff.mp (line_dd hds (f7 y my).2.1 hc))
                      have gp : DGet Gy pr (.str y.s.nm) (some (.int (wf y.s.nm : Int))) := hkp _ mdd ▸ DGet.k (k := Sum.inr y.s.nm) (sx _ _ ekp)
                      rw [el] at y1
                      refine ⟨_, rfl, _, rfl, y.e, _, _, .str y.s.nm, rfl, rfl, sqT_new y1, rfl, pr, _, rfl, gp, ?_⟩
                      refine ⟨_, eV, by rw [natV_len]; exact small (by omega), fun b o e => ?_, vs ++ [wf y.s.nm], ?_, by rw [List.length_append]; show _ + 1 ≤ _; omega, ?_⟩
                      · rw [upd_ne (ne_of_none e nD2)]
                        exact sx _ _ e
                      · rw [upd_same]
                        unfold natV
                        rw [List.map_append]
                        rfl
                      · rw [take_of_get hy2, List.map_append, List.sum_append, List.sum_append, sV]
                        show _ + (wf y.s.nm + 0) = _ + (cc y + 0)
                        rw [hcc, if_pos ⟨of_decide_eq_true c9, hc⟩]
                  · exact skip (by rw [hcc, if_neg (fun z => c9 (decide_eq_true z.1))])
                · obtain ⟨sx, vs, eV, lV, sV⟩ := h
                  rw [List.length_map, List.take_length] at sV
                  have vsI : (vs.map fun (i : Nat) => (i : Int)).sum = ((vs.sum : Nat) : Int) := by
                    have := sum_natI (fun i : Nat => i) vs
                    rw [List.map_id'] at this
                    exact this
                  have mG5 := mG4.mono sx
                  have b5G := b4.mono sx
                  have k5G := k4G.trans (But.of sx)
                  have eG5 := eG4.mono sx
                  have hP5 := hP4.mono sx
                  have tA5 := tA4.mono sx
                  have ineq : (xs.map fun z => (Kz.vf dn z).1).sum ≤ vs.sum + (t.lt.map fun z => (Kz.vf dn z).1).sum := by
                    rw [hxs, List.map_cons, List.sum_cons]
                    rcases mv with ⟨em, he, el⟩ | ⟨k, s9, em, en9, hln, ⟨c, mc, ec, a9, hs9⟩, el⟩
                    · have h0 := Kz.cle_fst (hset.ends z0 he).2
                      have h0 : (Kz.vf dn z0).1 ≤ 0 := h0
                      rw [el]
                      omega
                    · obtain ⟨y, hy, ek, es⟩ := f8 c mc ec k a9 s9 hs9 en9
                      have hs : (EE.map cc).sum = cc y := sum_uniq f5 hy fun y' hy' hn => by
                        rw [hcc, em, if_neg]
                        rintro ⟨z, _⟩
                        exact hn (by rw [ek]; exact (Option.some.inj z).symm)
                      have hb : cc y = (baseS wf s9).1 := by
                        rw [hcc, em, es]
                        unfold baseS
                        cases hc : s9.call with
                        | true => rw [if_neg (fun z => absurd z.2 (by decide)), if_pos rfl]
                        | false => rw [if_pos ⟨by rw [ek]; rfl, rfl⟩, if_neg Bool.false_ne_true]
                      have h1 := line_le hset hln fun z hz => tk z (by rw [el]; exact List.mem_append_left _ hz)
                      have ez : (z0.1, s9.n) = z0 := Prod.ext rfl en9
                      rw [ez] at h1
                      rw [el, List.map_append, List.sum_append, sV, hs, hb]
                      have := h1.2
                      omega
                  have ltl : t.lt.length ≤ j + 1 + 1 := by
                    rcases mv with ⟨_, _, e⟩ | ⟨k, s9, _, _, _, _, e⟩
                    · rw [e]
                      rw [hxs, List.length_cons] at lx
                      omega
                    · have := partsS_len z0.1 s9
                      rw [e, List.length_append]
                      rw [hxs, List.length_cons] at lx
                      omega
                  obtain ⟨kt, et, ht⟩ := mG5.T
                  have hsum : ∀ zs : List Stg, (zs.map fun z => ((Kz.vf dn z).1 : Int)).sum = (((zs.map fun z => (Kz.vf dn z).1).sum : Nat) : Int) := fun zs => by
                    rw [← sum_natI, List.map_map]
                    rfl
                  rw [natV_intsM] at eV
                  refine ⟨D2, _, rfl, sqL_new eV, ?_⟩
                  rw [vsI]
                  refine ⟨_, rfl, _, rfl, tq, _, _, .ref tb, rfl, rfl, sqT_new mG5.t, rfl, _, rfl, tb, t.la, kt, t.lt, fun z => ((Kz.vf dn z).1 : Int), rfl, .inl et, tA5.2.2, by omega, fun z hz => ht z (tk z hz), fun G6 s6 => ?_⟩
                  rw [hsum]
                  refine ⟨_, _, rfl, rfl, ?_⟩
                  refine ⟨_, rfl, tq, _, _, .ref tb, rfl, rfl, sqT_new (s6 _ _ mG5.t), rfl, _, rfl, tb, pl, kt, xs, fun z => ((Kz.vf dn z).1 : Int), rfl, .inl (s6 _ _ et), hP5.mono s6, by omega, fun z hz => ht z (hk z hz), fun G7 s7 => ?_⟩
                  rw [hsum]
                  have s67 := s6.trans s7
                  refine ⟨_, _, rfl, rfl, _, rfl, iteNo ?_ ?_⟩
                  · refine decide_eq_false ?_
                    omega
                  · refine ⟨_, rfl, _, rfl, _, rfl, _, _, rfl, rfl, _, _, rfl, ?_⟩
                    exact ⟨t.la, paid + vs.sum, t.lt, _, _, _, _, _, _, _, rfl, k5G.trans (But.of s67), b5G.mono s67, mG5.mono s67, eG5.mono s67, tA5.2.2.mono s67, tk, ltl, fun hsg => by have := hpd hsg; omega⟩
          · obtain ⟨pl, paid, xs, y17, y18, y19, y20, y21, y22, y23, rfl, kG, bG, mG, eG, hP, hk, lx, hpd⟩ := h
            have toG : Same H G := fun c o e => kG _ _ (ne_of_none e nxH) (toL _ _ e)
            have estG := TS.but bL kG _ _ estL
            refine ⟨_, rfl, _, rfl, ch, _, rfl, DGet.t mG.wy.1 (k := stK sg) estG, ?_⟩
            rw [vch]
            obtain ⟨kt, et, ht⟩ := mG.T
            have hsum : ∀ zs : List Stg, (zs.map fun z => ((Kz.vf dn z).1 : Int)).sum = (((zs.map fun z => (Kz.vf dn z).1).sum : Nat) : Int) := fun zs => by
              rw [← sum_natI, List.map_map]
              rfl
            by_cases c9 : sg ∈ M.map (·.2.1)
            · rw [decide_eq_true c9]
              have hsg := mk.mem_iff.mp c9
              refine ⟨_, rfl, iteYes rfl ?_⟩
              refine ⟨_, rfl, _, rfl, tq, _, _, .ref tb, rfl, rfl, sqT_new mG.t, rfl, _, rfl, tb, pl, kt, xs, fun z => ((Kz.vf dn z).1 : Int), rfl, .inl et, hP, by omega, fun z hz => ht z (hk z hz), fun G2 s2 => ?_⟩
              rw [hsum]
              refine ⟨_, _, rfl, rfl, ?_⟩
              refine ⟨_, rfl, tq, _, _, .ref tb, rfl, rfl, sqT_new (s2 _ _ mG.t), rfl, _, rfl, tb, _, rfl, ht sg hsg ▸ DGet.t (s2 _ _ et) (k := stK sg) (s2 _ _ estG), _, _, rfl, rfl, _, rfl, ?_⟩
              have hp := hpd hsg
              refine iteNo ?_ ?_
              · refine decide_eq_false ?_
                omega
              · exact ⟨_, _, _, _, _, _, _, _, _, _, _, _, _, _, _, _, _, _, _, _, _, _, _, rfl, toG.trans s2⟩
            · rw [decide_eq_false c9]
              refine ⟨_, rfl, iteNo rfl ?_⟩
              exact ⟨_, _, _, _, _, _, _, _, _, _, _, _, _, _, _, _, _, _, _, _, _, _, _, rfl, toG⟩
        · refine ⟨_, rfl, smallE (by show 1 ≤ 1000000; decide), fun p0 np0 => ?_⟩
          have hsg : sg ∈ Kz.keys dn := mk.mem_iff.mp (of_decide_eq_true c0)
          exact hR _ _ ⟨p0, [sg], rfl, same_new np0, ⟨[(st, sg)], sqT_new upd_same, rfl, fun t ht => by rw [List.mem_singleton.mp ht]; exact same_new np0 _ _ est⟩, fun z hz => by rw [List.mem_singleton.mp hz]; exact hsg, Nat.le_refl _, fun _ => rfl⟩
        · refine ⟨Nat.zero_le _, fun p0 np0 => ?_⟩
          exact hR _ _ ⟨p0, [], rfl, same_new np0, ⟨[], sqT_new upd_same, rfl, fun t ht => (nomatch ht)⟩, fun z hz => (nomatch hz), Nat.zero_le _, fun z => absurd (mk.mem_iff.mpr z) (of_decide_eq_false c0)⟩
    · obtain ⟨x1, x2, x3, x4, x5, x6, x7, x8, x9, x10, x11, x12, x13, x14, x15, x16, x17, x18, x19, x20, x21, x22, x23, rfl, sZ⟩ := h
      exact q Z
end
end Kb
namespace Kb
open PySem PySem.Spec PyProof.Rows L2
/-! ### the end: what the top has written -/
theorem all_mk {l : PySem.W.OpenLaw} {w : World} {K : PySem.W.Frag} {h : Heap} {mg : Str → Option Value} {fa CB aF : Addr} {ddF ddS : Option Addr} {nF nS : Nat} {slF slS : Array (Option Value)} {tF0 tF1 tS0 tS1 : Tok} {aS : Addr} (X : K.In h) (G : h.Ns mainGlobals mg) (hfa : mg "law" = some (.ref fa))
    {fIi fIn fNt fNm fLt fIl fAs fCe fCt fIc fAe fAt fIs fDi fLe fPf fSo fSu fAi fSe fWp fWc fLw fLys fFw fBc fSw fPw fSd fDc fAd fLpr fPys fCal fBx fTk fPk fLx fLst fLc fLcs fLle fLen fLai fLmo fLde fLsu fLcl fLmr fLa fBi fBd fBn fBsg fBst fBfr fBie : Addr} {odIi anIi odIn anIn odNt anNt odNm anNm odLt anLt odIl anIl odAs anAs odCe anCe odCt anCt odIc anIc odAe anAe odAt anAt odIs anIs odDi anDi odLe anLe odPf anPf odSo anSo odSu anSu odAi anAi odSe anSe odWp anWp odWc anWc odLw anLw odLys anLys odFw anFw odBc anBc odSw anSw odPw anPw odSd anSd odDc anDc odAd anAd odLpr anLpr odPys anPys odCal anCal odBx anBx odTk anTk odPk anPk odLx anLx odLst anLst odLc anLc odLcs anLcs odLle anLle odLen anLen odLai anLai odLmo anLmo odLde anLde odLsu anLsu odLcl anLcl odLmr anLmr odLa anLa odBi anBi odBd anBd odBn anBn odBsg anBsg odBst anBst odBfr anBfr odBie anBie : Option Addr} {slIi slIn slNt slNm slLt slIl slAs slCe slCt slIc slAe slAt slIs slDi slLe slPf slSo slSu slAi slSe slWp slWc slLw slLys slFw slBc slSw slPw slSd slDc slAd slLpr slPys slCal slBx slTk slPk slLx slLst slLc slLcs slLle slLen slLai slLmo slLde slLsu slLcl slLmr slLa slBi slBd slBn slBsg slBst slBfr slBie : Array (Option Value)}
    {ocIi dcIi pmIi ctIi cdIi kVIi ocIn dcIn pmIn ctIn cdIn kVIn ocNt dcNt pmNt ctNt cdNt kVNt ocNm dcNm pmNm ctNm cdNm kVNm ocLt dcLt pmLt ctLt cdLt kVLt ocIl dcIl pmIl ctIl cdIl kVIl ocAs dcAs pmAs ctAs cdAs kVAs ocCe dcCe pmCe ctCe cdCe kVCe ocCt dcCt pmCt ctCt cdCt kVCt ocIc dcIc pmIc ctIc cdIc kVIc ocAe dcAe pmAe ctAe cdAe kVAe ocAt dcAt pmAt ctAt cdAt kVAt ocIs dcIs pmIs ctIs cdIs kVIs ocDi dcDi pmDi ctDi cdDi kVDi ocLe dcLe pmLe ctLe cdLe kVLe ocPf dcPf pmPf ctPf cdPf kVPf ocSo dcSo pmSo ctSo cdSo kVSo ocSu dcSu pmSu ctSu cdSu kVSu ocAi dcAi pmAi ctAi cdAi kVAi ocSe dcSe pmSe ctSe cdSe kVSe ocWp dcWp pmWp ctWp cdWp kVWp ocWc dcWc pmWc ctWc cdWc kVWc ocLw dcLw pmLw ctLw cdLw kVLw ocLys dcLys pmLys ctLys cdLys kVLys ocFw dcFw pmFw ctFw cdFw kVFw ocBc dcBc pmBc ctBc cdBc kVBc ocSw dcSw pmSw ctSw cdSw kVSw ocPw dcPw pmPw ctPw cdPw kVPw ocSd dcSd pmSd ctSd cdSd kVSd ocDc dcDc pmDc ctDc cdDc kVDc ocAd dcAd pmAd ctAd cdAd kVAd ocLpr dcLpr pmLpr ctLpr cdLpr kVLpr ocPys dcPys pmPys ctPys cdPys kVPys ocCal dcCal pmCal ctCal cdCal kVCal ocBx dcBx pmBx ctBx cdBx kVBx ocTk dcTk pmTk ctTk cdTk kVTk ocPk dcPk pmPk ctPk cdPk kVPk ocLx dcLx pmLx ctLx cdLx kVLx ocLst dcLst pmLst ctLst cdLst kVLst ocLc dcLc pmLc ctLc cdLc kVLc ocLcs dcLcs pmLcs ctLcs cdLcs kVLcs ocLle dcLle pmLle ctLle cdLle kVLle ocLen dcLen pmLen ctLen cdLen kVLen ocLai dcLai pmLai ctLai cdLai kVLai ocLmo dcLmo pmLmo ctLmo cdLmo kVLmo ocLde dcLde pmLde ctLde cdLde kVLde ocLsu dcLsu pmLsu ctLsu cdLsu kVLsu ocLcl dcLcl pmLcl ctLcl cdLcl kVLcl ocLmr dcLmr pmLmr ctLmr cdLmr kVLmr ocLa dcLa pmLa ctLa cdLa kVLa ocBi dcBi pmBi ctBi cdBi kVBi ocBd dcBd pmBd ctBd cdBd kVBd ocBn dcBn pmBn ctBn cdBn kVBn ocBsg dcBsg pmBsg ctBsg cdBsg kVBsg ocBst dcBst pmBst ctBst cdBst kVBst ocBfr dcBfr pmBfr ctBfr cdBfr kVBfr ocBie dcBie pmBie ctBie cdBie kVBie : Value} {t_LONGEST_NAME t_MOST_COURSES t_MOST_STAGES t_MOST_STAGES_TOGETHER t_MOST_DEEDS : Tok}
    (nIi : PySem.W.nsIn K mainGlobals "is_integer" = some (some (.ref fIi)))
    (lIi : K.lookup fIi = some ⟨ocIi, odIi, .func (PySem.W.fnOf "is_integer" "is_integer" (defArgs sIsInt) (defBody sIsInt) (defScope sIsInt) .none kVIi dcIi pmIi anIi cdIi ctIi), slIi⟩)
    (cIi : PySem.W.codeIn K cdIi "is_integer" = true) (kIi : PySem.W.keepIn K (.ref fIi) = true)
    (nIn : PySem.W.nsIn K mainGlobals "is_number" = some (some (.ref fIn)))
    (lIn : K.lookup fIn = some ⟨ocIn, odIn, .func (PySem.W.fnOf "is_number" "is_number" (defArgs sIsNum) (defBody sIsNum) (defScope sIsNum) .none kVIn dcIn pmIn anIn cdIn ctIn), slIn⟩)
    (cIn : PySem.W.codeIn K cdIn "is_number" = true) (kIn : PySem.W.keepIn K (.ref fIn) = true)
    (nNt : PySem.W.nsIn K mainGlobals "is_number_to" = some (some (.ref fNt)))
    (lNt : K.lookup fNt = some ⟨ocNt, odNt, .func (PySem.W.fnOf "is_number_to" "is_number_to" (defArgs sIsNumTo) (defBody sIsNumTo) (defScope sIsNumTo) .none kVNt dcNt pmNt anNt cdNt ctNt), slNt⟩)
    (cNt : PySem.W.codeIn K cdNt "is_number_to" = true) (kNt : PySem.W.keepIn K (.ref fNt) = true)
    (nNm : PySem.W.nsIn K mainGlobals "is_name" = some (some (.ref fNm)))
    (lNm : K.lookup fNm = some ⟨ocNm, odNm, .func (PySem.W.fnOf "is_name" "is_name" (defArgs sName) (defBody sName) (defScope sName) .none kVNm dcNm pmNm anNm cdNm ctNm), slNm⟩)
    (cNm : PySem.W.codeIn K cdNm "is_name" = true) (kNm : PySem.W.keepIn K (.ref fNm) = true)
    (nLt : PySem.W.nsIn K mainGlobals "is_letter" = some (some (.ref fLt)))
    (lLt : K.lookup fLt = some ⟨ocLt, odLt, .func (PySem.W.fnOf "is_letter" "is_letter" (defArgs sLetter) (defBody sLetter) (defScope sLetter) .none kVLt dcLt pmLt anLt cdLt ctLt), slLt⟩)
    (cLt : PySem.W.codeIn K cdLt "is_letter" = true) (kLt : PySem.W.keepIn K (.ref fLt) = true)
    (nIl : PySem.W.nsIn K mainGlobals "is_lot" = some (some (.ref fIl)))
    (lIl : K.lookup fIl = some ⟨ocIl, odIl, .func (PySem.W.fnOf "is_lot" "is_lot" (defArgs sIsLot) (defBody sIsLot) (defScope sIsLot) .none kVIl dcIl pmIl anIl cdIl ctIl), slIl⟩)
    (cIl : PySem.W.codeIn K cdIl "is_lot" = true) (kIl : PySem.W.keepIn K (.ref fIl) = true)
    (nAs : PySem.W.nsIn K mainGlobals "ascending" = some (some (.ref fAs)))
    (lAs : K.lookup fAs = some ⟨ocAs, odAs, .func (PySem.W.fnOf "ascending" "ascending" (defArgs sAscending) (defBody sAscending) (defScope sAscending) .none kVAs dcAs pmAs anAs cdAs ctAs), slAs⟩)
    (cAs : PySem.W.codeIn K cdAs "ascending" = true) (kAs : PySem.W.keepIn K (.ref fAs) = true)
    (nCe : PySem.W.nsIn K mainGlobals "check_each" = some (some (.ref fCe)))
    (lCe : K.lookup fCe = some ⟨ocCe, odCe, .func (PySem.W.fnOf "check_each" "check_each" (defArgs sChEach) (defBody sChEach) (defScope sChEach) .none kVCe dcCe pmCe anCe cdCe ctCe), slCe⟩)
    (cCe : PySem.W.codeIn K cdCe "check_each" = true) (kCe : PySem.W.keepIn K (.ref fCe) = true)
    (nCt : PySem.W.nsIn K mainGlobals "check_together" = some (some (.ref fCt)))
    (lCt : K.lookup fCt = some ⟨ocCt, odCt, .func (PySem.W.fnOf "check_together" "check_together" (defArgs sChTog) (defBody sChTog) (defScope sChTog) .none kVCt dcCt pmCt anCt cdCt ctCt), slCt⟩)
    (cCt : PySem.W.codeIn K cdCt "check_together" = true) (kCt : PySem.W.keepIn K (.ref fCt) = true)
    (nIc : PySem.W.nsIn K mainGlobals "is_course" = some (some (.ref fIc)))
    (lIc : K.lookup fIc = some ⟨ocIc, odIc, .func (PySem.W.fnOf "is_course" "is_course" (defArgs sIsCourse) (defBody sIsCourse) (defScope sIsCourse) .none kVIc dcIc pmIc anIc cdIc ctIc), slIc⟩)
    (cIc : PySem.W.codeIn K cdIc "is_course" = true) (kIc : PySem.W.keepIn K (.ref fIc) = true)
    (nAe : PySem.W.nsIn K mainGlobals "are_ends" = some (some (.ref fAe)))
    (lAe : K.lookup fAe = some ⟨ocAe, odAe, .func (PySem.W.fnOf "are_ends" "are_ends" (defArgs sAreEnds) (defBody sAreEnds) (defScope sAreEnds) .none kVAe dcAe pmAe anAe cdAe ctAe), slAe⟩)
    (cAe : PySem.W.codeIn K cdAe "are_ends" = true) (kAe : PySem.W.keepIn K (.ref fAe) = true)
    (nAt : PySem.W.nsIn K mainGlobals "are_steps" = some (some (.ref fAt)))
    (lAt : K.lookup fAt = some ⟨ocAt, odAt, .func (PySem.W.fnOf "are_steps" "are_steps" (defArgs sAreSteps) (defBody sAreSteps) (defScope sAreSteps) .none kVAt dcAt pmAt anAt cdAt ctAt), slAt⟩)
    (cAt : PySem.W.codeIn K cdAt "are_steps" = true) (kAt : PySem.W.keepIn K (.ref fAt) = true)
    (nIs : PySem.W.nsIn K mainGlobals "is_step" = some (some (.ref fIs)))
    (lIs : K.lookup fIs = some ⟨ocIs, odIs, .func (PySem.W.fnOf "is_step" "is_step" (defArgs sIsStep) (defBody sIsStep) (defScope sIsStep) .none kVIs dcIs pmIs anIs cdIs ctIs), slIs⟩)
    (cIs : PySem.W.codeIn K cdIs "is_step" = true) (kIs : PySem.W.keepIn K (.ref fIs) = true)
    (nDi : PySem.W.nsIn K mainGlobals "deeds_in" = some (some (.ref fDi)))
    (lDi : K.lookup fDi = some ⟨ocDi, odDi, .func (PySem.W.fnOf "deeds_in" "deeds_in" (defArgs sDeedsIn) (defBody sDeedsIn) (defScope sDeedsIn) .none kVDi dcDi pmDi anDi cdDi ctDi), slDi⟩)
    (cDi : PySem.W.codeIn K cdDi "deeds_in" = true) (kDi : PySem.W.keepIn K (.ref fDi) = true)
    (nLe : PySem.W.nsIn K mainGlobals "leaving_of" = some (some (.ref fLe)))
    (lLe : K.lookup fLe = some ⟨ocLe, odLe, .func (PySem.W.fnOf "leaving_of" "leaving_of" (defArgs sLeaving) (defBody sLeaving) (defScope sLeaving) .none kVLe dcLe pmLe anLe cdLe ctLe), slLe⟩)
    (cLe : PySem.W.codeIn K cdLe "leaving_of" = true) (kLe : PySem.W.keepIn K (.ref fLe) = true)
    (nPf : PySem.W.nsIn K mainGlobals "parts_of" = some (some (.ref fPf)))
    (lPf : K.lookup fPf = some ⟨ocPf, odPf, .func (PySem.W.fnOf "parts_of" "parts_of" (defArgs sPartsOf) (defBody sPartsOf) (defScope sPartsOf) .none kVPf dcPf pmPf anPf cdPf ctPf), slPf⟩)
    (cPf : PySem.W.codeIn K cdPf "parts_of" = true) (kPf : PySem.W.keepIn K (.ref fPf) = true)
    (nSo : PySem.W.nsIn K mainGlobals "steps_into" = some (some (.ref fSo)))
    (lSo : K.lookup fSo = some ⟨ocSo, odSo, .func (PySem.W.fnOf "steps_into" "steps_into" (defArgs sStepsInto) (defBody sStepsInto) (defScope sStepsInto) .none kVSo dcSo pmSo anSo cdSo ctSo), slSo⟩)
    (cSo : PySem.W.codeIn K cdSo "steps_into" = true) (kSo : PySem.W.keepIn K (.ref fSo) = true)
    (nSu : PySem.W.nsIn K mainGlobals "steps_out" = some (some (.ref fSu)))
    (lSu : K.lookup fSu = some ⟨ocSu, odSu, .func (PySem.W.fnOf "steps_out" "steps_out" (defArgs sStepsOut) (defBody sStepsOut) (defScope sStepsOut) .none kVSu dcSu pmSu anSu cdSu ctSu), slSu⟩)
    (cSu : PySem.W.codeIn K cdSu "steps_out" = true) (kSu : PySem.W.keepIn K (.ref fSu) = true)
    (nAi : PySem.W.nsIn K mainGlobals "all_in" = some (some (.ref fAi)))
    (lAi : K.lookup fAi = some ⟨ocAi, odAi, .func (PySem.W.fnOf "all_in" "all_in" (defArgs sAllIn) (defBody sAllIn) (defScope sAllIn) .none kVAi dcAi pmAi anAi cdAi ctAi), slAi⟩)
    (cAi : PySem.W.codeIn K cdAi "all_in" = true) (kAi : PySem.W.keepIn K (.ref fAi) = true)
    (nSe : PySem.W.nsIn K mainGlobals "settled" = some (some (.ref fSe)))
    (lSe : K.lookup fSe = some ⟨ocSe, odSe, .func (PySem.W.fnOf "settled" "settled" (defArgs sSettled) (defBody sSettled) (defScope sSettled) .none kVSe dcSe pmSe anSe cdSe ctSe), slSe⟩)
    (cSe : PySem.W.codeIn K cdSe "settled" = true) (kSe : PySem.W.keepIn K (.ref fSe) = true)
    (nWp : PySem.W.nsIn K mainGlobals "with_parts" = some (some (.ref fWp)))
    (lWp : K.lookup fWp = some ⟨ocWp, odWp, .func (PySem.W.fnOf "with_parts" "with_parts" (defArgs sWithParts) (defBody sWithParts) (defScope sWithParts) .none kVWp dcWp pmWp anWp cdWp ctWp), slWp⟩)
    (cWp : PySem.W.codeIn K cdWp "with_parts" = true) (kWp : PySem.W.keepIn K (.ref fWp) = true)
    (nWc : PySem.W.nsIn K mainGlobals "way_costs" = some (some (.ref fWc)))
    (lWc : K.lookup fWc = some ⟨ocWc, odWc, .func (PySem.W.fnOf "way_costs" "way_costs" (defArgs sWayCosts) (defBody sWayCosts) (defScope sWayCosts) .none kVWc dcWc pmWc anWc cdWc ctWc), slWc⟩)
    (cWc : PySem.W.codeIn K cdWc "way_costs" = true) (kWc : PySem.W.keepIn K (.ref fWc) = true)
    (nLw : PySem.W.nsIn K mainGlobals "least_weights" = some (some (.ref fLw)))
    (lLw : K.lookup fLw = some ⟨ocLw, odLw, .func (PySem.W.fnOf "least_weights" "least_weights" (defArgs sLeastWeights) (defBody sLeastWeights) (defScope sLeastWeights) .none kVLw dcLw pmLw anLw cdLw ctLw), slLw⟩)
    (cLw : PySem.W.codeIn K cdLw "least_weights" = true) (kLw : PySem.W.keepIn K (.ref fLw) = true)
    (nLys : PySem.W.nsIn K mainGlobals "least_ways" = some (some (.ref fLys)))
    (lLys : K.lookup fLys = some ⟨ocLys, odLys, .func (PySem.W.fnOf "least_ways" "least_ways" (defArgs sLeastWays) (defBody sLeastWays) (defScope sLeastWays) .none kVLys dcLys pmLys anLys cdLys ctLys), slLys⟩)
    (cLys : PySem.W.codeIn K cdLys "least_ways" = true) (kLys : PySem.W.keepIn K (.ref fLys) = true)
    (nFw : PySem.W.nsIn K mainGlobals "first_way" = some (some (.ref fFw)))
    (lFw : K.lookup fFw = some ⟨ocFw, odFw, .func (PySem.W.fnOf "first_way" "first_way" (defArgs sFirstWay) (defBody sFirstWay) (defScope sFirstWay) .none kVFw dcFw pmFw anFw cdFw ctFw), slFw⟩)
    (cFw : PySem.W.codeIn K cdFw "first_way" = true) (kFw : PySem.W.keepIn K (.ref fFw) = true)
    (nBc : PySem.W.nsIn K mainGlobals "base_cost" = some (some (.ref fBc)))
    (lBc : K.lookup fBc = some ⟨ocBc, odBc, .func (PySem.W.fnOf "base_cost" "base_cost" (defArgs sBaseCost) (defBody sBaseCost) (defScope sBaseCost) .none kVBc dcBc pmBc anBc cdBc ctBc), slBc⟩)
    (cBc : PySem.W.codeIn K cdBc "base_cost" = true) (kBc : PySem.W.keepIn K (.ref fBc) = true)
    (nSw : PySem.W.nsIn K mainGlobals "step_of_way" = some (some (.ref fSw)))
    (lSw : K.lookup fSw = some ⟨ocSw, odSw, .func (PySem.W.fnOf "step_of_way" "step_of_way" (defArgs sStepOfWay) (defBody sStepOfWay) (defScope sStepOfWay) .none kVSw dcSw pmSw anSw cdSw ctSw), slSw⟩)
    (cSw : PySem.W.codeIn K cdSw "step_of_way" = true) (kSw : PySem.W.keepIn K (.ref fSw) = true)
    (nPw : PySem.W.nsIn K mainGlobals "parts_of_way" = some (some (.ref fPw)))
    (lPw : K.lookup fPw = some ⟨ocPw, odPw, .func (PySem.W.fnOf "parts_of_way" "parts_of_way" (defArgs sPartsOfWay) (defBody sPartsOfWay) (defScope sPartsOfWay) .none kVPw dcPw pmPw anPw cdPw ctPw), slPw⟩)
    (cPw : PySem.W.codeIn K cdPw "parts_of_way" = true) (kPw : PySem.W.keepIn K (.ref fPw) = true)
    (nSd : PySem.W.nsIn K mainGlobals "sound_order" = some (some (.ref fSd)))
    (lSd : K.lookup fSd = some ⟨ocSd, odSd, .func (PySem.W.fnOf "sound_order" "sound_order" (defArgs sSoundOrder) (defBody sSoundOrder) (defScope sSoundOrder) .none kVSd dcSd pmSd anSd cdSd ctSd), slSd⟩)
    (cSd : PySem.W.codeIn K cdSd "sound_order" = true) (kSd : PySem.W.keepIn K (.ref fSd) = true)
    (nDc : PySem.W.nsIn K mainGlobals "deed_counts" = some (some (.ref fDc)))
    (lDc : K.lookup fDc = some ⟨ocDc, odDc, .func (PySem.W.fnOf "deed_counts" "deed_counts" (defArgs sDeedCounts) (defBody sDeedCounts) (defScope sDeedCounts) .none kVDc dcDc pmDc anDc cdDc ctDc), slDc⟩)
    (cDc : PySem.W.codeIn K cdDc "deed_counts" = true) (kDc : PySem.W.keepIn K (.ref fDc) = true)
    (nAd : PySem.W.nsIn K mainGlobals "added" = some (some (.ref fAd)))
    (lAd : K.lookup fAd = some ⟨ocAd, odAd, .func (PySem.W.fnOf "added" "added" (defArgs sAdded) (defBody sAdded) (defScope sAdded) .none kVAd dcAd pmAd anAd cdAd ctAd), slAd⟩)
    (cAd : PySem.W.codeIn K cdAd "added" = true) (kAd : PySem.W.keepIn K (.ref fAd) = true)
    (nLpr : PySem.W.nsIn K mainGlobals "least_prices" = some (some (.ref fLpr)))
    (lLpr : K.lookup fLpr = some ⟨ocLpr, odLpr, .func (PySem.W.fnOf "least_prices" "least_prices" (defArgs sLeastPrices) (defBody sLeastPrices) (defScope sLeastPrices) .none kVLpr dcLpr pmLpr anLpr cdLpr ctLpr), slLpr⟩)
    (cLpr : PySem.W.codeIn K cdLpr "least_prices" = true) (kLpr : PySem.W.keepIn K (.ref fLpr) = true)
    (nPys : PySem.W.nsIn K mainGlobals "price_ways" = some (some (.ref fPys)))
    (lPys : K.lookup fPys = some ⟨ocPys, odPys, .func (PySem.W.fnOf "price_ways" "price_ways" (defArgs sPriceWays) (defBody sPriceWays) (defScope sPriceWays) .none kVPys dcPys pmPys anPys cdPys ctPys), slPys⟩)
    (cPys : PySem.W.codeIn K cdPys "price_ways" = true) (kPys : PySem.W.keepIn K (.ref fPys) = true)
    (nCal : PySem.W.nsIn K mainGlobals "counts_along" = some (some (.ref fCal)))
    (lCal : K.lookup fCal = some ⟨ocCal, odCal, .func (PySem.W.fnOf "counts_along" "counts_along" (defArgs sCountsAlong) (defBody sCountsAlong) (defScope sCountsAlong) .none kVCal dcCal pmCal anCal cdCal ctCal), slCal⟩)
    (cCal : PySem.W.codeIn K cdCal "counts_along" = true) (kCal : PySem.W.keepIn K (.ref fCal) = true)
    (nBx : PySem.W.nsIn K mainGlobals "_law_box" = some (some (.ref fBx)))
    (lBx : K.lookup fBx = some ⟨ocBx, odBx, .func (PySem.W.fnOf "_law_box" "_law_box" (defArgs sBox) (defBody sBox) (defScope sBox) .none kVBx dcBx pmBx anBx cdBx ctBx), slBx⟩)
    (cBx : PySem.W.codeIn K cdBx "_law_box" = true) (kBx : PySem.W.keepIn K (.ref fBx) = true)
    (nTk : PySem.W.nsIn K mainGlobals "_law_take" = some (some (.ref fTk)))
    (lTk : K.lookup fTk = some ⟨ocTk, odTk, .func (PySem.W.fnOf "_law_take" "_law_take" (defArgs sTake) (defBody sTake) (defScope sTake) .none kVTk dcTk pmTk anTk cdTk ctTk), slTk⟩)
    (cTk : PySem.W.codeIn K cdTk "_law_take" = true) (kTk : PySem.W.keepIn K (.ref fTk) = true)
    (nPk : PySem.W.nsIn K mainGlobals "_law_pick" = some (some (.ref fPk)))
    (lPk : K.lookup fPk = some ⟨ocPk, odPk, .func (PySem.W.fnOf "_law_pick" "_law_pick" (defArgs sPick) (defBody sPick) (defScope sPick) .none kVPk dcPk pmPk anPk cdPk ctPk), slPk⟩)
    (cPk : PySem.W.codeIn K cdPk "_law_pick" = true) (kPk : PySem.W.keepIn K (.ref fPk) = true)
    (nLx : PySem.W.nsIn K mainGlobals "_law_mixed" = some (some (.ref fLx)))
    (lLx : K.lookup fLx = some ⟨ocLx, odLx, .func (PySem.W.fnOf "_law_mixed" "_law_mixed" (defArgs sLawMixed) (defBody sLawMixed) (defScope sLawMixed) .none kVLx dcLx pmLx anLx cdLx ctLx), slLx⟩)
    (cLx : PySem.W.codeIn K cdLx "_law_mixed" = true) (kLx : PySem.W.keepIn K (.ref fLx) = true)
    (nLst : PySem.W.nsIn K mainGlobals "_law_step" = some (some (.ref fLst)))
    (lLst : K.lookup fLst = some ⟨ocLst, odLst, .func (PySem.W.fnOf "_law_step" "_law_step" (defArgs sLawStep) (defBody sLawStep) (defScope sLawStep) .none kVLst dcLst pmLst anLst cdLst ctLst), slLst⟩)
    (cLst : PySem.W.codeIn K cdLst "_law_step" = true) (kLst : PySem.W.keepIn K (.ref fLst) = true)
    (nLc : PySem.W.nsIn K mainGlobals "_law_course" = some (some (.ref fLc)))
    (lLc : K.lookup fLc = some ⟨ocLc, odLc, .func (PySem.W.fnOf "_law_course" "_law_course" (defArgs sLawCourse) (defBody sLawCourse) (defScope sLawCourse) .none kVLc dcLc pmLc anLc cdLc ctLc), slLc⟩)
    (cLc : PySem.W.codeIn K cdLc "_law_course" = true) (kLc : PySem.W.keepIn K (.ref fLc) = true)
    (nLcs : PySem.W.nsIn K mainGlobals "_law_courses" = some (some (.ref fLcs)))
    (lLcs : K.lookup fLcs = some ⟨ocLcs, odLcs, .func (PySem.W.fnOf "_law_courses" "_law_courses" (defArgs sLawCourses) (defBody sLawCourses) (defScope sLawCourses) .none kVLcs dcLcs pmLcs anLcs cdLcs ctLcs), slLcs⟩)
    (cLcs : PySem.W.codeIn K cdLcs "_law_courses" = true) (kLcs : PySem.W.keepIn K (.ref fLcs) = true)
    (nLle : PySem.W.nsIn K mainGlobals "_law_leaving" = some (some (.ref fLle)))
    (lLle : K.lookup fLle = some ⟨ocLle, odLle, .func (PySem.W.fnOf "_law_leaving" "_law_leaving" (defArgs sLawLeaving) (defBody sLawLeaving) (defScope sLawLeaving) .none kVLle dcLle pmLle anLle cdLle ctLle), slLle⟩)
    (cLle : PySem.W.codeIn K cdLle "_law_leaving" = true) (kLle : PySem.W.keepIn K (.ref fLle) = true)
    (nLen : PySem.W.nsIn K mainGlobals "_law_ends" = some (some (.ref fLen)))
    (lLen : K.lookup fLen = some ⟨ocLen, odLen, .func (PySem.W.fnOf "_law_ends" "_law_ends" (defArgs sLawEnds) (defBody sLawEnds) (defScope sLawEnds) .none kVLen dcLen pmLen anLen cdLen ctLen), slLen⟩)
    (cLen : PySem.W.codeIn K cdLen "_law_ends" = true) (kLen : PySem.W.keepIn K (.ref fLen) = true)
    (nLai : PySem.W.nsIn K mainGlobals "_law_all_in" = some (some (.ref fLai)))
    (lLai : K.lookup fLai = some ⟨ocLai, odLai, .func (PySem.W.fnOf "_law_all_in" "_law_all_in" (defArgs sLawAllIn) (defBody sLawAllIn) (defScope sLawAllIn) .none kVLai dcLai pmLai anLai cdLai ctLai), slLai⟩)
    (cLai : PySem.W.codeIn K cdLai "_law_all_in" = true) (kLai : PySem.W.keepIn K (.ref fLai) = true)
    (nLmo : PySem.W.nsIn K mainGlobals "_law_moves" = some (some (.ref fLmo)))
    (lLmo : K.lookup fLmo = some ⟨ocLmo, odLmo, .func (PySem.W.fnOf "_law_moves" "_law_moves" (defArgs sLawMoves) (defBody sLawMoves) (defScope sLawMoves) .none kVLmo dcLmo pmLmo anLmo cdLmo ctLmo), slLmo⟩)
    (cLmo : PySem.W.codeIn K cdLmo "_law_moves" = true) (kLmo : PySem.W.keepIn K (.ref fLmo) = true)
    (nLde : PySem.W.nsIn K mainGlobals "_law_deeds" = some (some (.ref fLde)))
    (lLde : K.lookup fLde = some ⟨ocLde, odLde, .func (PySem.W.fnOf "_law_deeds" "_law_deeds" (defArgs sLawDeeds) (defBody sLawDeeds) (defScope sLawDeeds) .none kVLde dcLde pmLde anLde cdLde ctLde), slLde⟩)
    (cLde : PySem.W.codeIn K cdLde "_law_deeds" = true) (kLde : PySem.W.keepIn K (.ref fLde) = true)
    (nLsu : PySem.W.nsIn K mainGlobals "_law_sum" = some (some (.ref fLsu)))
    (lLsu : K.lookup fLsu = some ⟨ocLsu, odLsu, .func (PySem.W.fnOf "_law_sum" "_law_sum" (defArgs sLawSum) (defBody sLawSum) (defScope sLawSum) .none kVLsu dcLsu pmLsu anLsu cdLsu ctLsu), slLsu⟩)
    (cLsu : PySem.W.codeIn K cdLsu "_law_sum" = true) (kLsu : PySem.W.keepIn K (.ref fLsu) = true)
    (nLcl : PySem.W.nsIn K mainGlobals "_law_closing" = some (some (.ref fLcl)))
    (lLcl : K.lookup fLcl = some ⟨ocLcl, odLcl, .func (PySem.W.fnOf "_law_closing" "_law_closing" (defArgs sLawClosing) (defBody sLawClosing) (defScope sLawClosing) .none kVLcl dcLcl pmLcl anLcl cdLcl ctLcl), slLcl⟩)
    (cLcl : PySem.W.codeIn K cdLcl "_law_closing" = true) (kLcl : PySem.W.keepIn K (.ref fLcl) = true)
    (nLmr : PySem.W.nsIn K mainGlobals "_law_moment_right" = some (some (.ref fLmr)))
    (lLmr : K.lookup fLmr = some ⟨ocLmr, odLmr, .func (PySem.W.fnOf "_law_moment_right" "_law_moment_right" (defArgs sLawMomentRight) (defBody sLawMomentRight) (defScope sLawMomentRight) .none kVLmr dcLmr pmLmr anLmr cdLmr ctLmr), slLmr⟩)
    (cLmr : PySem.W.codeIn K cdLmr "_law_moment_right" = true) (kLmr : PySem.W.keepIn K (.ref fLmr) = true)
    (nLa : PySem.W.nsIn K mainGlobals "law" = some (some (.ref fLa)))
    (lLa : K.lookup fLa = some ⟨ocLa, odLa, .func (PySem.W.fnOf "law" "law" (defArgs sLaw) (defBody sLaw) (defScope sLaw) .none kVLa dcLa pmLa anLa cdLa ctLa), slLa⟩)
    (cLa : PySem.W.codeIn K cdLa "law" = true) (kLa : PySem.W.keepIn K (.ref fLa) = true)
    (aCB : PySem.W.nsIn K mainGlobals "Book" = some (some (.ref CB))) (pgB : PySem.W.plainGet K CB Str.empty = true) (hdB : PySem.W.hasDictIn K CB = true) (poB : PySem.W.plainOver K CB = true) (saB : PySem.W.findIn K (.ref CB) "__setattr__" = some (some (.builtin "object.__setattr__"))) (mkB : PySem.W.makesIn K CB = true) (kcB : PySem.W.keepIn K (.ref CB) = true)
    (aBi : PySem.W.findIn K (.ref CB) "__init__" = some (some (.ref fBi))) (iBi : PySem.W.isFn K (.ref fBi) = true)
    (lBi : K.lookup fBi = some ⟨ocBi, odBi, .func (PySem.W.fnOf "__init__" "Book.__init__" (defArgs sBkInit) (defBody sBkInit) (defScope sBkInit) .none kVBi dcBi pmBi anBi cdBi ctBi), slBi⟩)
    (cBi : PySem.W.codeIn K cdBi "Book.__init__" = true) (kBi : PySem.W.keepIn K (.ref fBi) = true)
    (aBd : PySem.W.findIn K (.ref CB) "deeds" = some (some (.ref fBd))) (iBd : PySem.W.isFn K (.ref fBd) = true)
    (lBd : K.lookup fBd = some ⟨ocBd, odBd, .func (PySem.W.fnOf "deeds" "Book.deeds" (defArgs sBkDeeds) (defBody sBkDeeds) (defScope sBkDeeds) .none kVBd dcBd pmBd anBd cdBd ctBd), slBd⟩)
    (cBd : PySem.W.codeIn K cdBd "Book.deeds" = true) (kBd : PySem.W.keepIn K (.ref fBd) = true)
    (aBn : PySem.W.findIn K (.ref CB) "names" = some (some (.ref fBn))) (iBn : PySem.W.isFn K (.ref fBn) = true)
    (lBn : K.lookup fBn = some ⟨ocBn, odBn, .func (PySem.W.fnOf "names" "Book.names" (defArgs sBkNames) (defBody sBkNames) (defScope sBkNames) .none kVBn dcBn pmBn anBn cdBn ctBn), slBn⟩)
    (cBn : PySem.W.codeIn K cdBn "Book.names" = true) (kBn : PySem.W.keepIn K (.ref fBn) = true)
    (aBsg : PySem.W.findIn K (.ref CB) "stages" = some (some (.ref fBsg))) (iBsg : PySem.W.isFn K (.ref fBsg) = true)
    (lBsg : K.lookup fBsg = some ⟨ocBsg, odBsg, .func (PySem.W.fnOf "stages" "Book.stages" (defArgs sBkStages) (defBody sBkStages) (defScope sBkStages) .none kVBsg dcBsg pmBsg anBsg cdBsg ctBsg), slBsg⟩)
    (cBsg : PySem.W.codeIn K cdBsg "Book.stages" = true) (kBsg : PySem.W.keepIn K (.ref fBsg) = true)
    (aBst : PySem.W.findIn K (.ref CB) "steps" = some (some (.ref fBst))) (iBst : PySem.W.isFn K (.ref fBst) = true)
    (lBst : K.lookup fBst = some ⟨ocBst, odBst, .func (PySem.W.fnOf "steps" "Book.steps" (defArgs sBkSteps) (defBody sBkSteps) (defScope sBkSteps) .none kVBst dcBst pmBst anBst cdBst ctBst), slBst⟩)
    (cBst : PySem.W.codeIn K cdBst "Book.steps" = true) (kBst : PySem.W.keepIn K (.ref fBst) = true)
    (aBfr : PySem.W.findIn K (.ref CB) "steps_from" = some (some (.ref fBfr))) (iBfr : PySem.W.isFn K (.ref fBfr) = true)
    (lBfr : K.lookup fBfr = some ⟨ocBfr, odBfr, .func (PySem.W.fnOf "steps_from" "Book.steps_from" (defArgs sBkFrom) (defBody sBkFrom) (defScope sBkFrom) .none kVBfr dcBfr pmBfr anBfr cdBfr ctBfr), slBfr⟩)
    (cBfr : PySem.W.codeIn K cdBfr "Book.steps_from" = true) (kBfr : PySem.W.keepIn K (.ref fBfr) = true)
    (aBie : PySem.W.findIn K (.ref CB) "is_end" = some (some (.ref fBie))) (iBie : PySem.W.isFn K (.ref fBie) = true)
    (lBie : K.lookup fBie = some ⟨ocBie, odBie, .func (PySem.W.fnOf "is_end" "Book.is_end" (defArgs sBkIsEnd) (defBody sBkIsEnd) (defScope sBkIsEnd) .none kVBie dcBie pmBie anBie cdBie ctBie), slBie⟩)
    (cBie : PySem.W.codeIn K cdBie "Book.is_end" = true) (kBie : PySem.W.keepIn K (.ref fBie) = true)
    (naB0 : PySem.W.findIn K (.ref CB) "courses" = some none)
    (naB1 : PySem.W.findIn K (.ref CB) "_places" = some none)
    (naB2 : PySem.W.findIn K (.ref CB) "_stages" = some none)
    (naB3 : PySem.W.findIn K (.ref CB) "_ends" = some none)
    (naB4 : PySem.W.findIn K (.ref CB) "_leaving" = some none)
    (v_LONGEST_NAME : PySem.W.nsIn K mainGlobals "LONGEST_NAME" = some (some (.int 5 t_LONGEST_NAME)))
    (v_MOST_COURSES : PySem.W.nsIn K mainGlobals "MOST_COURSES" = some (some (.int 8 t_MOST_COURSES)))
    (v_MOST_STAGES : PySem.W.nsIn K mainGlobals "MOST_STAGES" = some (some (.int 20 t_MOST_STAGES)))
    (v_MOST_STAGES_TOGETHER : PySem.W.nsIn K mainGlobals "MOST_STAGES_TOGETHER" = some (some (.int 60 t_MOST_STAGES_TOGETHER)))
    (v_MOST_DEEDS : PySem.W.nsIn K mainGlobals "MOST_DEEDS" = some (some (.int 12 t_MOST_DEEDS)))
    (xhp : PySem.W.nsIn K mainGlobals "heappush" = some (some (.builtin "_heapq.heappush")))
    (xho : PySem.W.nsIn K mainGlobals "heappop" = some (some (.builtin "_heapq.heappop")))
    (xF : PySem.W.nsIn K mainGlobals "FREE" = some (some (.ref aF)))
    (lkF : K.lookup aF = some ⟨.type "tuple", ddF, .seq #[.int 0 tF0, .int 0 tF1] nF, slF⟩)
    (xS : PySem.W.nsIn K mainGlobals "ONE_STEP" = some (some (.ref aS)))
    (lkS : K.lookup aS = some ⟨.type "tuple", ddS, .seq #[.int 0 tS0, .int 1 tS1] nS, slS⟩)
    (z_len : PySem.W.nsIn K mainGlobals "len" = some none) (z_range : PySem.W.nsIn K mainGlobals "range" = some none) (z_iter : PySem.W.nsIn K mainGlobals "iter" = some none) (z_enumerate : PySem.W.nsIn K mainGlobals "enumerate" = some none) (z_reversed : PySem.W.nsIn K mainGlobals "reversed" = some none) (z_tuple : PySem.W.nsIn K mainGlobals "tuple" = some none) (z_list : PySem.W.nsIn K mainGlobals "list" = some none) (z_sorted : PySem.W.nsIn K mainGlobals "sorted" = some none) (z_any : PySem.W.nsIn K mainGlobals "any" = some none) (z_all : PySem.W.nsIn K mainGlobals "all" = some none) (z_int : PySem.W.nsIn K mainGlobals "int" = some none) (z_str : PySem.W.nsIn K mainGlobals "str" = some none) (z_bool : PySem.W.nsIn K mainGlobals "bool" = some none) (z_abs : PySem.W.nsIn K mainGlobals "abs" = some none) (z_min : PySem.W.nsIn K mainGlobals "min" = some none) (z_max : PySem.W.nsIn K mainGlobals "max" = some none) (z_sum : PySem.W.nsIn K mainGlobals "sum" = some none) (z_isinstance : PySem.W.nsIn K mainGlobals "isinstance" = some none) (z_ValueError : PySem.W.nsIn K mainGlobals "ValueError" = some none) (z_zip : PySem.W.nsIn K mainGlobals "zip" = some none) (z_set : PySem.W.nsIn K mainGlobals "set" = some none) :
    LamX.LawAtS l w K CX0 10 63 "script" mg fa h := by
  have e := hfa.symm.trans (PySem.W.mg_of X G nLa)
  cases e
  have m_len := PySem.W.mg_none_of X G z_len
  have m_range := PySem.W.mg_none_of X G z_range
  have m_iter := PySem.W.mg_none_of X G z_iter
  have m_enumerate := PySem.W.mg_none_of X G z_enumerate
  have m_reversed := PySem.W.mg_none_of X G z_reversed
  have m_tuple := PySem.W.mg_none_of X G z_tuple
  have m_list := PySem.W.mg_none_of X G z_list
  have m_sorted := PySem.W.mg_none_of X G z_sorted
  have m_any := PySem.W.mg_none_of X G z_any
  have m_all := PySem.W.mg_none_of X G z_all
  have m_int := PySem.W.mg_none_of X G z_int
  have m_str := PySem.W.mg_none_of X G z_str
  have m_bool := PySem.W.mg_none_of X G z_bool
  have m_abs := PySem.W.mg_none_of X G z_abs
  have m_min := PySem.W.mg_none_of X G z_min
  have m_max := PySem.W.mg_none_of X G z_max
  have m_sum := PySem.W.mg_none_of X G z_sum
  have m_isinstance := PySem.W.mg_none_of X G z_isinstance
  have m_ValueError := PySem.W.mg_none_of X G z_ValueError
  have m_zip := PySem.W.mg_none_of X G z_zip
  have m_set := PySem.W.mg_none_of X G z_set
  have N : Nones mg := ⟨m_len, m_range, m_iter, m_enumerate, m_reversed, m_tuple, m_list, m_sorted, m_any, m_all, m_int, m_str, m_bool, m_abs, m_min, m_max, m_sum, m_isinstance, m_ValueError⟩
  have FIi := fun_mk (st := sIsInt) lIi cIi kIi
  have bIi := FIi.binds (ps := ["value"]) fun _ _ _ _ _ _ us hl => match us, hl with | [_], _ => rfl
  have gIi := PySem.W.mg_of X G nIi
  have CIi : CallC K mg "is_integer" ["value"] fIi _ := ⟨gIi, kIi, bIi⟩
  have FIn := fun_mk (st := sIsNum) lIn cIn kIn
  have bIn := FIn.binds (ps := ["value"]) fun _ _ _ _ _ _ us hl => match us, hl with | [_], _ => rfl
  have gIn := PySem.W.mg_of X G nIn
  have CIn : CallC K mg "is_number" ["value"] fIn _ := ⟨gIn, kIn, bIn⟩
  have FNt := fun_mk (st := sIsNumTo) lNt cNt kNt
  have bNt := FNt.binds (ps := ["value", "most"]) fun _ _ _ _ _ _ us hl => match us, hl with | [_, _], _ => rfl
  have gNt := PySem.W.mg_of X G nNt
  have CNt : CallC K mg "is_number_to" ["value", "most"] fNt _ := ⟨gNt, kNt, bNt⟩
  have FNm := fun_mk (st := sName) lNm cNm kNm
  have bNm := FNm.binds (ps := ["value"]) fun _ _ _ _ _ _ us hl => match us, hl with | [_], _ => rfl
  have gNm := PySem.W.mg_of X G nNm
  have CNm : CallC K mg "is_name" ["value"] fNm _ := ⟨gNm, kNm, bNm⟩
  have FLt := fun_mk (st := sLetter) lLt cLt kLt
  have bLt := FLt.binds (ps := ["sign"]) fun _ _ _ _ _ _ us hl => match us, hl with | [_], _ => rfl
  have gLt := PySem.W.mg_of X G nLt
  have CLt : CallC K mg "is_letter" ["sign"] fLt _ := ⟨gLt, kLt, bLt⟩
  have FIl := fun_mk (st := sIsLot) lIl cIl kIl
  have bIl := FIl.binds (ps := ["values"]) fun _ _ _ _ _ _ us hl => match us, hl with | [_], _ => rfl
  have gIl := PySem.W.mg_of X G nIl
  have CIl : CallC K mg "is_lot" ["values"] fIl _ := ⟨gIl, kIl, bIl⟩
  have FAs := fun_mk (st := sAscending) lAs cAs kAs
  have bAs := FAs.binds (ps := ["table"]) fun _ _ _ _ _ _ us hl => match us, hl with | [_], _ => rfl
  have gAs := PySem.W.mg_of X G nAs
  have CAs : CallC K mg "ascending" ["table"] fAs _ := ⟨gAs, kAs, bAs⟩
  have FCe := fun_mk (st := sChEach) lCe cCe kCe
  have bCe := FCe.binds (ps := ["courses"]) fun _ _ _ _ _ _ us hl => match us, hl with | [_], _ => rfl
  have gCe := PySem.W.mg_of X G nCe
  have CCe : CallC K mg "check_each" ["courses"] fCe _ := ⟨gCe, kCe, bCe⟩
  have FCt := fun_mk (st := sChTog) lCt cCt kCt
  have bCt := FCt.binds (ps := ["courses"]) fun _ _ _ _ _ _ us hl => match us, hl with | [_], _ => rfl
  have gCt := PySem.W.mg_of X G nCt
  have CCt : CallC K mg "check_together" ["courses"] fCt _ := ⟨gCt, kCt, bCt⟩
  have FIc := fun_mk (st := sIsCourse) lIc cIc kIc
  have bIc := FIc.binds (ps := ["value"]) fun _ _ _ _ _ _ us hl => match us, hl with | [_], _ => rfl
  have gIc := PySem.W.mg_of X G nIc
  have CIc : CallC K mg "is_course" ["value"] fIc _ := ⟨gIc, kIc, bIc⟩
  have FAe := fun_mk (st := sAreEnds) lAe cAe kAe
  have bAe := FAe.binds (ps := ["ends", "stages"]) fun _ _ _ _ _ _ us hl => match us, hl with | [_, _], _ => rfl
  have gAe := PySem.W.mg_of X G nAe
  have CAe : CallC K mg "are_ends" ["ends", "stages"] fAe _ := ⟨gAe, kAe, bAe⟩
  have FAt := fun_mk (st := sAreSteps) lAt cAt kAt
  have bAt := FAt.binds (ps := ["steps", "stages"]) fun _ _ _ _ _ _ us hl => match us, hl with | [_, _], _ => rfl
  have gAt := PySem.W.mg_of X G nAt
  have CAt : CallC K mg "are_steps" ["steps", "stages"] fAt _ := ⟨gAt, kAt, bAt⟩
  have FIs := fun_mk (st := sIsStep) lIs cIs kIs
  have bIs := FIs.binds (ps := ["value", "stages"]) fun _ _ _ _ _ _ us hl => match us, hl with | [_, _], _ => rfl
  have gIs := PySem.W.mg_of X G nIs
  have CIs : CallC K mg "is_step" ["value", "stages"] fIs _ := ⟨gIs, kIs, bIs⟩
  have FDi := fun_mk (st := sDeedsIn) lDi cDi kDi
  have bDi := FDi.binds (ps := ["courses"]) fun _ _ _ _ _ _ us hl => match us, hl with | [_], _ => rfl
  have gDi := PySem.W.mg_of X G nDi
  have CDi : CallC K mg "deeds_in" ["courses"] fDi _ := ⟨gDi, kDi, bDi⟩
  have FLe := fun_mk (st := sLeaving) lLe cLe kLe
  have bLe := FLe.binds (ps := ["courses"]) fun _ _ _ _ _ _ us hl => match us, hl with | [_], _ => rfl
  have gLe := PySem.W.mg_of X G nLe
  have CLe : CallC K mg "leaving_of" ["courses"] fLe _ := ⟨gLe, kLe, bLe⟩
  have FPf := fun_mk (st := sPartsOf) lPf cPf kPf
  have bPf := FPf.binds (ps := ["course", "step"]) fun _ _ _ _ _ _ us hl => match us, hl with | [_, _], _ => rfl
  have gPf := PySem.W.mg_of X G nPf
  have CPf : CallC K mg "parts_of" ["course", "step"] fPf _ := ⟨gPf, kPf, bPf⟩
  have FSo := fun_mk (st := sStepsInto) lSo cSo kSo
  have bSo := FSo.binds (ps := ["book"]) fun _ _ _ _ _ _ us hl => match us, hl with | [_], _ => rfl
  have gSo := PySem.W.mg_of X G nSo
  have CSo : CallC K mg "steps_into" ["book"] fSo _ := ⟨gSo, kSo, bSo⟩
  have FSu := fun_mk (st := sStepsOut) lSu cSu kSu
  have bSu := FSu.binds (ps := ["book", "stage"]) fun _ _ _ _ _ _ us hl => match us, hl with | [_, _], _ => rfl
  have gSu := PySem.W.mg_of X G nSu
  have CSu : CallC K mg "steps_out" ["book", "stage"] fSu _ := ⟨gSu, kSu, bSu⟩
  have FAi := fun_mk (st := sAllIn) lAi cAi kAi
  have bAi := FAi.binds (ps := ["parts", "table"]) fun _ _ _ _ _ _ us hl => match us, hl with | [_, _], _ => rfl
  have gAi := PySem.W.mg_of X G nAi
  have CAi : CallC K mg "all_in" ["parts", "table"] fAi _ := ⟨gAi, kAi, bAi⟩
  have FSe := fun_mk (st := sSettled) lSe cSe kSe
  have bSe := FSe.binds (ps := ["book", "end", "deed_costs", "call"]) fun _ _ _ _ _ _ us hl => match us, hl with | [_, _, _, _], _ => rfl
  have gSe := PySem.W.mg_of X G nSe
  have CSe : CallC K mg "settled" ["book", "end", "deed_costs", "call"] fSe _ := ⟨gSe, kSe, bSe⟩
  have FWp := fun_mk (st := sWithParts) lWp cWp kWp
  have bWp := FWp.binds (ps := ["base", "parts", "costs"]) fun _ _ _ _ _ _ us hl => match us, hl with | [_, _, _], _ => rfl
  have gWp := PySem.W.mg_of X G nWp
  have CWp : CallC K mg "with_parts" ["base", "parts", "costs"] fWp _ := ⟨gWp, kWp, bWp⟩
  have FWc := fun_mk (st := sWayCosts) lWc cWc kWc
  have bWc := FWc.binds (ps := ["book", "weights"]) fun _ _ _ _ _ _ us hl => match us, hl with | [_, _], _ => rfl
  have gWc := PySem.W.mg_of X G nWc
  have CWc : CallC K mg "way_costs" ["book", "weights"] fWc _ := ⟨gWc, kWc, bWc⟩
  have FLw := fun_mk (st := sLeastWeights) lLw cLw kLw
  have bLw := FLw.binds (ps := ["book", "weights"]) fun _ _ _ _ _ _ us hl => match us, hl with | [_, _], _ => rfl
  have gLw := PySem.W.mg_of X G nLw
  have CLw : CallC K mg "least_weights" ["book", "weights"] fLw _ := ⟨gLw, kLw, bLw⟩
  have FLys := fun_mk (st := sLeastWays) lLys cLys kLys
  have bLys := FLys.binds (ps := ["book", "weights"]) fun _ _ _ _ _ _ us hl => match us, hl with | [_, _], _ => rfl
  have gLys := PySem.W.mg_of X G nLys
  have CLys : CallC K mg "least_ways" ["book", "weights"] fLys _ := ⟨gLys, kLys, bLys⟩
  have FFw := fun_mk (st := sFirstWay) lFw cFw kFw
  have bFw := FFw.binds (ps := ["book", "weights", "costs", "stage"]) fun _ _ _ _ _ _ us hl => match us, hl with | [_, _, _, _], _ => rfl
  have gFw := PySem.W.mg_of X G nFw
  have CFw : CallC K mg "first_way" ["book", "weights", "costs", "stage"] fFw _ := ⟨gFw, kFw, bFw⟩
  have FBc := fun_mk (st := sBaseCost) lBc cBc kBc
  have bBc := FBc.binds (ps := ["step", "weights"]) fun _ _ _ _ _ _ us hl => match us, hl with | [_, _], _ => rfl
  have gBc := PySem.W.mg_of X G nBc
  have CBc : CallC K mg "base_cost" ["step", "weights"] fBc _ := ⟨gBc, kBc, bBc⟩
  have FSw := fun_mk (st := sStepOfWay) lSw cSw kSw
  have bSw := FSw.binds (ps := ["book", "stage", "way"]) fun _ _ _ _ _ _ us hl => match us, hl with | [_, _, _], _ => rfl
  have gSw := PySem.W.mg_of X G nSw
  have CSw : CallC K mg "step_of_way" ["book", "stage", "way"] fSw _ := ⟨gSw, kSw, bSw⟩
  have FPw := fun_mk (st := sPartsOfWay) lPw cPw kPw
  have bPw := FPw.binds (ps := ["book", "stage", "way"]) fun _ _ _ _ _ _ us hl => match us, hl with | [_, _, _], _ => rfl
  have gPw := PySem.W.mg_of X G nPw
  have CPw : CallC K mg "parts_of_way" ["book", "stage", "way"] fPw _ := ⟨gPw, kPw, bPw⟩
  have FSd := fun_mk (st := sSoundOrder) lSd cSd kSd
  have bSd := FSd.binds (ps := ["book", "chosen"]) fun _ _ _ _ _ _ us hl => match us, hl with | [_, _], _ => rfl
  have gSd := PySem.W.mg_of X G nSd
  have CSd : CallC K mg "sound_order" ["book", "chosen"] fSd _ := ⟨gSd, kSd, bSd⟩
  have FDc := fun_mk (st := sDeedCounts) lDc cDc kDc
  have bDc := FDc.binds (ps := ["book", "row"]) fun _ _ _ _ _ _ us hl => match us, hl with | [_, _], _ => rfl
  have gDc := PySem.W.mg_of X G nDc
  have CDc : CallC K mg "deed_counts" ["book", "row"] fDc _ := ⟨gDc, kDc, bDc⟩
  have FAd := fun_mk (st := sAdded) lAd cAd kAd
  have bAd := FAd.binds (ps := ["count", "other"]) fun _ _ _ _ _ _ us hl => match us, hl with | [_, _], _ => rfl
  have gAd := PySem.W.mg_of X G nAd
  have CAd : CallC K mg "added" ["count", "other"] fAd _ := ⟨gAd, kAd, bAd⟩
  have FLpr := fun_mk (st := sLeastPrices) lLpr cLpr kLpr
  have bLpr := FLpr.binds (ps := ["book", "prices"]) fun _ _ _ _ _ _ us hl => match us, hl with | [_, _], _ => rfl
  have gLpr := PySem.W.mg_of X G nLpr
  have CLpr : CallC K mg "least_prices" ["book", "prices"] fLpr _ := ⟨gLpr, kLpr, bLpr⟩
  have FPys := fun_mk (st := sPriceWays) lPys cPys kPys
  have bPys := FPys.binds (ps := ["book", "prices"]) fun _ _ _ _ _ _ us hl => match us, hl with | [_, _], _ => rfl
  have gPys := PySem.W.mg_of X G nPys
  have CPys : CallC K mg "price_ways" ["book", "prices"] fPys _ := ⟨gPys, kPys, bPys⟩
  have FCal := fun_mk (st := sCountsAlong) lCal cCal kCal
  have bCal := FCal.binds (ps := ["book", "chosen"]) fun _ _ _ _ _ _ us hl => match us, hl with | [_, _], _ => rfl
  have gCal := PySem.W.mg_of X G nCal
  have CCal : CallC K mg "counts_along" ["book", "chosen"] fCal _ := ⟨gCal, kCal, bCal⟩
  have FBx := fun_mk (st := sBox) lBx cBx kBx
  have bBx := FBx.binds (ps := ["script", "k"]) fun _ _ _ _ _ _ us hl => match us, hl with | [_, _], _ => rfl
  have gBx := PySem.W.mg_of X G nBx
  have CBx : CallC K mg "_law_box" ["script", "k"] fBx _ := ⟨gBx, kBx, bBx⟩
  have FTk := fun_mk (st := sTake) lTk cTk kTk
  have bTk := FTk.binds (ps := ["box", "many"]) fun _ _ _ _ _ _ us hl => match us, hl with | [_, _], _ => rfl
  have gTk := PySem.W.mg_of X G nTk
  have CTk : CallC K mg "_law_take" ["box", "many"] fTk _ := ⟨gTk, kTk, bTk⟩
  have FPk := fun_mk (st := sPick) lPk cPk kPk
  have bPk := FPk.binds (ps := ["box", "some"]) fun _ _ _ _ _ _ us hl => match us, hl with | [_, _], _ => rfl
  have gPk := PySem.W.mg_of X G nPk
  have CPk : CallC K mg "_law_pick" ["box", "some"] fPk _ := ⟨gPk, kPk, bPk⟩
  have FLx := fun_mk (st := sLawMixed) lLx cLx kLx
  have bLx := FLx.binds (ps := ["box", "some"]) fun _ _ _ _ _ _ us hl => match us, hl with | [_, _], _ => rfl
  have gLx := PySem.W.mg_of X G nLx
  have CLx : CallC K mg "_law_mixed" ["box", "some"] fLx _ := ⟨gLx, kLx, bLx⟩
  have FLst := fun_mk (st := sLawStep) lLst cLst kLst
  have bLst := FLst.binds (ps := ["box", "names", "at", "stages", "begin"]) fun _ _ _ _ _ _ us hl => match us, hl with | [_, _, _, _, _], _ => rfl
  have gLst := PySem.W.mg_of X G nLst
  have CLst : CallC K mg "_law_step" ["box", "names", "at", "stages", "begin"] fLst _ := ⟨gLst, kLst, bLst⟩
  have FLc := fun_mk (st := sLawCourse) lLc cLc kLc
  have bLc := FLc.binds (ps := ["box", "names", "at"]) fun _ _ _ _ _ _ us hl => match us, hl with | [_, _, _], _ => rfl
  have gLc := PySem.W.mg_of X G nLc
  have CLc : CallC K mg "_law_course" ["box", "names", "at"] fLc _ := ⟨gLc, kLc, bLc⟩
  have FLcs := fun_mk (st := sLawCourses) lLcs cLcs kLcs
  have bLcs := FLcs.binds (ps := ["box"]) fun _ _ _ _ _ _ us hl => match us, hl with | [_], _ => rfl
  have gLcs := PySem.W.mg_of X G nLcs
  have CLcs : CallC K mg "_law_courses" ["box"] fLcs _ := ⟨gLcs, kLcs, bLcs⟩
  have FLle := fun_mk (st := sLawLeaving) lLle cLle kLle
  have bLle := FLle.binds (ps := ["courses"]) fun _ _ _ _ _ _ us hl => match us, hl with | [_], _ => rfl
  have gLle := PySem.W.mg_of X G nLle
  have CLle : CallC K mg "_law_leaving" ["courses"] fLle _ := ⟨gLle, kLle, bLle⟩
  have FLen := fun_mk (st := sLawEnds) lLen cLen kLen
  have bLen := FLen.binds (ps := ["courses"]) fun _ _ _ _ _ _ us hl => match us, hl with | [_], _ => rfl
  have gLen := PySem.W.mg_of X G nLen
  have CLen : CallC K mg "_law_ends" ["courses"] fLen _ := ⟨gLen, kLen, bLen⟩
  have FLai := fun_mk (st := sLawAllIn) lLai cLai kLai
  have bLai := FLai.binds (ps := ["some", "others"]) fun _ _ _ _ _ _ us hl => match us, hl with | [_, _], _ => rfl
  have gLai := PySem.W.mg_of X G nLai
  have CLai : CallC K mg "_law_all_in" ["some", "others"] fLai _ := ⟨gLai, kLai, bLai⟩
  have FLmo := fun_mk (st := sLawMoves) lLmo cLmo kLmo
  have bLmo := FLmo.binds (ps := ["leaving", "ends", "pile"]) fun _ _ _ _ _ _ us hl => match us, hl with | [_, _, _], _ => rfl
  have gLmo := PySem.W.mg_of X G nLmo
  have CLmo : CallC K mg "_law_moves" ["leaving", "ends", "pile"] fLmo _ := ⟨gLmo, kLmo, bLmo⟩
  have FLde := fun_mk (st := sLawDeeds) lLde cLde kLde
  have bLde := FLde.binds (ps := ["courses"]) fun _ _ _ _ _ _ us hl => match us, hl with | [_], _ => rfl
  have gLde := PySem.W.mg_of X G nLde
  have CLde : CallC K mg "_law_deeds" ["courses"] fLde _ := ⟨gLde, kLde, bLde⟩
  have FLsu := fun_mk (st := sLawSum) lLsu cLsu kLsu
  have bLsu := FLsu.binds (ps := ["table", "pile"]) fun _ _ _ _ _ _ us hl => match us, hl with | [_, _], _ => rfl
  have gLsu := PySem.W.mg_of X G nLsu
  have CLsu : CallC K mg "_law_sum" ["table", "pile"] fLsu _ := ⟨gLsu, kLsu, bLsu⟩
  have FLcl := fun_mk (st := sLawClosing) lLcl cLcl kLcl
  have bLcl := FLcl.binds (ps := ["leaving", "deeds", "chosen", "pile"]) fun _ _ _ _ _ _ us hl => match us, hl with | [_, _, _, _], _ => rfl
  have gLcl := PySem.W.mg_of X G nLcl
  have CLcl : CallC K mg "_law_closing" ["leaving", "deeds", "chosen", "pile"] fLcl _ := ⟨gLcl, kLcl, bLcl⟩
  have FLmr := fun_mk (st := sLawMomentRight) lLmr cLmr kLmr
  have bLmr := FLmr.binds (ps := ["leaving", "deeds", "told", "others", "pile"]) fun _ _ _ _ _ _ us hl => match us, hl with | [_, _, _, _, _], _ => rfl
  have gLmr := PySem.W.mg_of X G nLmr
  have CLmr : CallC K mg "_law_moment_right" ["leaving", "deeds", "told", "others", "pile"] fLmr _ := ⟨gLmr, kLmr, bLmr⟩
  have FLa := fun_mk (st := sLaw) lLa cLa kLa
  have bLa := FLa.binds (ps := ["script"]) fun _ _ _ _ _ _ us hl => match us, hl with | [_], _ => rfl
  have FBi := fun_mk (st := sBkInit) lBi cBi kBi
  have bBi := FBi.binds (ps := ["self", "courses"]) fun _ _ _ _ _ _ us hl => match us, hl with | [_, _], _ => rfl
  have FBd := fun_mk (st := sBkDeeds) lBd cBd kBd
  have bBd := FBd.binds (ps := ["self"]) fun _ _ _ _ _ _ us hl => match us, hl with | [_], _ => rfl
  have FBn := fun_mk (st := sBkNames) lBn cBn kBn
  have bBn := FBn.binds (ps := ["self"]) fun _ _ _ _ _ _ us hl => match us, hl with | [_], _ => rfl
  have FBsg := fun_mk (st := sBkStages) lBsg cBsg kBsg
  have bBsg := FBsg.binds (ps := ["self"]) fun _ _ _ _ _ _ us hl => match us, hl with | [_], _ => rfl
  have FBst := fun_mk (st := sBkSteps) lBst cBst kBst
  have bBst := FBst.binds (ps := ["self", "course"]) fun _ _ _ _ _ _ us hl => match us, hl with | [_, _], _ => rfl
  have FBfr := fun_mk (st := sBkFrom) lBfr cBfr kBfr
  have bBfr := FBfr.binds (ps := ["self", "stage"]) fun _ _ _ _ _ _ us hl => match us, hl with | [_, _], _ => rfl
  have FBie := fun_mk (st := sBkIsEnd) lBie cBie kBie
  have bBie := FBie.binds (ps := ["self", "stage"]) fun _ _ _ _ _ _ us hl => match us, hl with | [_, _], _ => rfl
  have gCB := PySem.W.mg_of X G aCB
  have MkB : Mk K CB fBi := ⟨mkB, aBi, iBi, kcB⟩
  have MBd : Meth K CB "deeds" fBd := ⟨aBd, iBd, kBd⟩
  have MBn : Meth K CB "names" fBn := ⟨aBn, iBn, kBn⟩
  have MBsg : Meth K CB "stages" fBsg := ⟨aBsg, iBsg, kBsg⟩
  have MBst : Meth K CB "steps" fBst := ⟨aBst, iBst, kBst⟩
  have MBfr : Meth K CB "steps_from" fBfr := ⟨aBfr, iBfr, kBfr⟩
  have MBie : Meth K CB "is_end" fBie := ⟨aBie, iBie, kBie⟩
  have g_LONGEST_NAME := PySem.W.mg_of X G v_LONGEST_NAME
  have g_MOST_COURSES := PySem.W.mg_of X G v_MOST_COURSES
  have g_MOST_STAGES := PySem.W.mg_of X G v_MOST_STAGES
  have g_MOST_STAGES_TOGETHER := PySem.W.mg_of X G v_MOST_STAGES_TOGETHER
  have g_MOST_DEEDS := PySem.W.mg_of X G v_MOST_DEEDS
  refine ⟨PySem.W.fnOf "law" "law" (defArgs sLaw) (defBody sLaw) (defScope sLaw) .none kVLa dcLa pmLa anLa cdLa ctLa, [], spLaw K, (fun p hp => by cases hp), (fun p hp => by cases hp), (fun p hp => by cases hp), fun s u => BindsTo.of_eq rfl, fun H a ns hl hb hP hS => ?_, fun base hb hg hTB => ?_⟩
  · exact ⟨a, ns, rfl, hS, fun H' => rfl⟩
  · skip
    have B : BkC K mg CB := ⟨⟨pgB, hdB, poB, saB⟩, naB0, naB1, naB2, naB3, naB4, gCB⟩
    have g_F : FreeG K mg aF aS := ⟨PySem.W.mg_of X G xF, ktup_int2 lkF, PySem.W.mg_of X G xS, ktup_int2 lkS⟩
    have GIi := ok_isint (P := l.prog) (w := w) (base := base) (mg := mg) FIi N
    have GIn := ok_isnum FIn N GIi CIi
    have GNt := ok_isnumto FNt GIn CIn
    have GNm := ok_name (P := l.prog) (w := w) (base := base) (mg := mg) FNm FLt bLt gLt g_LONGEST_NAME N.isinstance N.str N.len N.all
    have GIl := ok_islot (P := l.prog) (w := w) (base := base) (mg := mg) FIl N
    have GIs := ok_isstep FIs N GNt CNt GNm CNm
    have GAe := ok_areends FAe N GNt CNt GIl CIl
    have GAt := ok_aresteps FAt N GIs CIs
    have GIc := ok_iscourse FIc N g_MOST_STAGES GNt CNt GNm CNm GAe CAe GAt CAt
    have GDi := ok_deedsin (P := l.prog) (w := w) (base := base) (mg := mg) FDi
    have GCe := ok_cheach FCe N g_MOST_COURSES GIc CIc
    have GCt := ok_chtog FCt N g_MOST_STAGES_TOGETHER g_MOST_DEEDS GDi CDi
    have GLe := ok_leaving (P := l.prog) (w := w) (base := base) (mg := mg) FLe N
    have GBi := ok_bkinit FBi N B GCe CCe GCt CCt GLe CLe
    have GBd := ok_bkdeeds FBd N B GDi CDi
    have GBst := ok_bksteps (P := l.prog) (w := w) (base := base) (mg := mg) FBst B
    have GBie := ok_bkisend (P := l.prog) (w := w) (base := base) (mg := mg) FBie B
    have GBsg := ok_bkstages (P := l.prog) (w := w) (base := base) (mg := mg) FBsg B
    have GBn := ok_bknames (P := l.prog) (w := w) (base := base) (mg := mg) FBn N B
    have GBfr := ok_bkfrom (P := l.prog) (w := w) (base := base) (mg := mg) FBfr B
    have GAs := ok_asc (P := l.prog) (w := w) (base := base) (mg := mg) FAs N
    have GPf := ok_partsof (P := l.prog) (w := w) (base := base) (mg := mg) FPf
    have GAi := ok_allin (P := l.prog) (w := w) (base := base) (mg := mg) FAi N
    have GSo := ok_into FSo B GBsg bBsg MBsg GBn bBn MBn GBst bBst MBst GPf CPf
    have GWp := ok_withp (P := l.prog) (w := w) (base := base) (mg := mg) FWp
    have GSu := ok_stepsout FSu B GBst bBst MBst GBfr bBfr MBfr GPf CPf
    have GSe := ok_settled FSe B (PySem.W.mg_of X G xhp) (PySem.W.mg_of X G xho) GSo CSo GBsg bBsg MBsg GBie bBie MBie GAi CAi GWp CWp
    have GWc := ok_waycosts FWc N B g_F GBd bBd MBd GSe CSe GAs CAs
    have GLw := ok_leastw FLw GWc CWc
    have GBc := ok_basecost (P := l.prog) (w := w) (base := base) (mg := mg) FBc g_F
    have GFw := ok_firstway FFw B GBie bBie MBie GBst bBst MBst GSu CSu GAi CAi GWp CWp GBc CBc
    have GLys := ok_leastways FLys GWc CWc GFw CFw
    have GSw := ok_stepofway FSw N B GBst bBst MBst
    have GPw := ok_partsofway FPw B GBie bBie MBie GSw CSw GPf CPf
    have GSd := ok_sound FSd N B GPw CPw GAi CAi
    have GDc := ok_deedcounts FDc N B GBd bBd MBd
    have GAd := ok_added (P := l.prog) (w := w) (base := base) (mg := mg) FAd N
    have GLpr := ok_leastprices FLpr GLw CLw
    have GPys := ok_priceways FPys GLys CLys
    have GCal := ok_along FCal N B GBd bBd MBd GDc CDc GSd CSd GBst bBst MBst GPf CPf GAd CAd GAs CAs
    have GBx := ok_box (P := l.prog) (w := w) (base := base) (mg := mg) FBx N.int N.len N.abs
    have GTk := ok_take (P := l.prog) (w := w) (base := base) (mg := mg) FTk N.int
    have GPk := ok_pick (P := l.prog) (w := w) (base := base) (mg := mg) FPk FTk bTk gTk N.int N.len
    have GLx := ok_lawmixed FLx N GTk CTk
    have GLst := ok_lawstep FLst N GTk CTk GPk CPk
    have GLc := ok_lawcourse FLc N GTk CTk GLst CLst GLx CLx
    have GLcs := ok_lawcourses FLcs N GTk CTk GLx CLx GLc CLc
    have GLle := ok_lawleav (P := l.prog) (w := w) (base := base) (mg := mg) FLle N
    have GLen := ok_lawends (P := l.prog) (w := w) (base := base) (mg := mg) FLen N
    have GLai := ok_lawallin (P := l.prog) (w := w) (base := base) (mg := mg) FLai N
    have GLmo := ok_lawmoves (P := l.prog) (w := w) (base := base) (mg := mg) FLmo N
    have GLde := ok_lawdeeds (P := l.prog) (w := w) (base := base) (mg := mg) FLde N m_set
    have GLsu := ok_lawsum (P := l.prog) (w := w) (base := base) (mg := mg) FLsu N
    have GLcl := ok_lawclo (P := l.prog) (w := w) (base := base) (mg := mg) FLcl N
    have GLmr := ok_lawmom FLmr N m_zip GLcl CLcl GLsu CLsu
    exact ok_law FLa N B MkB GBi bBi GBx CBx GLcs CLcs GLle CLle GLen CLen GLde CLde GTk CTk GPys CPys GLpr CLpr GCal CCal GLmr CLmr GLmo CLmo GLai CLai GPk CPk GLsu CLsu
end Kb
open PySem PySem.W PyProof.Rows in
set_option maxHeartbeats 0 in
theorem PySem.Challenge.cw_stillowed_k43_whole_prices_at_all_moment_holds : PySem.Challenge.rw_stillowed_k43_whole_prices_at_all_moment.Holds := by
  w_on; o_law; k_head; (case hw => w_witness2)
  k_fill
  refine LamX.walk_ofTs (l := PySem.Challenge.rw_stillowed_k43_whole_prices_at_all_moment) (n := 63) (k := 10) (x := "script") (CX := fun _ => L2.CX0) rfl (by decide) rfl ⟨rfl, by decide, by decide⟩ (fun w h Y => PySem.W.kIn_of Y) ?F (fun _ _ _ _ _ z => z)
  case F =>
    intro w mg fa h Y KX G hmg
    refine' Kb.all_mk KX G hmg ?nIi ?lIi ?cIi ?kIi ?nIn ?lIn ?cIn ?kIn ?nNt ?lNt ?cNt ?kNt ?nNm ?lNm ?cNm ?kNm ?nLt ?lLt ?cLt ?kLt ?nIl ?lIl ?cIl ?kIl ?nAs ?lAs ?cAs ?kAs ?nCe ?lCe ?cCe ?kCe ?nCt ?lCt ?cCt ?kCt ?nIc ?lIc ?cIc ?kIc ?nAe ?lAe ?cAe ?kAe ?nAt ?lAt ?cAt ?kAt ?nIs ?lIs ?cIs ?kIs ?nDi ?lDi ?cDi ?kDi ?nLe ?lLe ?cLe ?kLe ?nPf ?lPf ?cPf ?kPf ?nSo ?lSo ?cSo ?kSo ?nSu ?lSu ?cSu ?kSu ?nAi ?lAi ?cAi ?kAi ?nSe ?lSe ?cSe ?kSe ?nWp ?lWp ?cWp ?kWp ?nWc ?lWc ?cWc ?kWc ?nLw ?lLw ?cLw ?kLw ?nLys ?lLys ?cLys ?kLys ?nFw ?lFw ?cFw ?kFw ?nBc ?lBc ?cBc ?kBc ?nSw ?lSw ?cSw ?kSw ?nPw ?lPw ?cPw ?kPw ?nSd ?lSd ?cSd ?kSd ?nDc ?lDc ?cDc ?kDc ?nAd ?lAd ?cAd ?kAd ?nLpr ?lLpr ?cLpr ?kLpr ?nPys ?lPys ?cPys ?kPys ?nCal ?lCal ?cCal ?kCal ?nBx ?lBx ?cBx ?kBx ?nTk ?lTk ?cTk ?kTk ?nPk ?lPk ?cPk ?kPk ?nLx ?lLx ?cLx ?kLx ?nLst ?lLst ?cLst ?kLst ?nLc ?lLc ?cLc ?kLc ?nLcs ?lLcs ?cLcs ?kLcs ?nLle ?lLle ?cLle ?kLle ?nLen ?lLen ?cLen ?kLen ?nLai ?lLai ?cLai ?kLai ?nLmo ?lLmo ?cLmo ?kLmo ?nLde ?lLde ?cLde ?kLde ?nLsu ?lLsu ?cLsu ?kLsu ?nLcl ?lLcl ?cLcl ?kLcl ?nLmr ?lLmr ?cLmr ?kLmr ?nLa ?lLa ?cLa ?kLa ?aCB ?pgB ?hdB ?poB ?saB ?mkB ?kcB ?aBi ?iBi ?lBi ?cBi ?kBi ?aBd ?iBd ?lBd ?cBd ?kBd ?aBn ?iBn ?lBn ?cBn ?kBn ?aBsg ?iBsg ?lBsg ?cBsg ?kBsg ?aBst ?iBst ?lBst ?cBst ?kBst ?aBfr ?iBfr ?lBfr ?cBfr ?kBfr ?aBie ?iBie ?lBie ?cBie ?kBie ?naB0 ?naB1 ?naB2 ?naB3 ?naB4 ?v_LONGEST_NAME ?v_MOST_COURSES ?v_MOST_STAGES ?v_MOST_STAGES_TOGETHER ?v_MOST_DEEDS ?xhp ?xho ?xF ?lkF ?xS ?lkS ?z_len ?z_range ?z_iter ?z_enumerate ?z_reversed ?z_tuple ?z_list ?z_sorted ?z_any ?z_all ?z_int ?z_str ?z_bool ?z_abs ?z_min ?z_max ?z_sum ?z_isinstance ?z_ValueError ?z_zip ?z_set
    (case nIi => k_is)
    (case lIi => k_is)
    (case cIi => k_is)
    (case kIi => k_is)
    (case nIn => k_is)
    (case lIn => k_is)
    (case cIn => k_is)
    (case kIn => k_is)
    (case nNt => k_is)
    (case lNt => k_is)
    (case cNt => k_is)
    (case kNt => k_is)
    (case nNm => k_is)
    (case lNm => k_is)
    (case cNm => k_is)
    (case kNm => k_is)
    (case nLt => k_is)
    (case lLt => k_is)
    (case cLt => k_is)
    (case kLt => k_is)
    (case nIl => k_is)
    (case lIl => k_is)
    (case cIl => k_is)
    (case kIl => k_is)
    (case nAs => k_is)
    (case lAs => k_is)
    (case cAs => k_is)
    (case kAs => k_is)
    (case nCe => k_is)
    (case lCe => k_is)
    (case cCe => k_is)
    (case kCe => k_is)
    (case nCt => k_is)
    (case lCt => k_is)
    (case cCt => k_is)
    (case kCt => k_is)
    (case nIc => k_is)
    (case lIc => k_is)
    (case cIc => k_is)
    (case kIc => k_is)
    (case nAe => k_is)
    (case lAe => k_is)
    (case cAe => k_is)
    (case kAe => k_is)
    (case nAt => k_is)
    (case lAt => k_is)
    (case cAt => k_is)
    (case kAt => k_is)
    (case nIs => k_is)
    (case lIs => k_is)
    (case cIs => k_is)
    (case kIs => k_is)
    (case nDi => k_is)
    (case lDi => k_is)
    (case cDi => k_is)
    (case kDi => k_is)
    (case nLe => k_is)
    (case lLe => k_is)
    (case cLe => k_is)
    (case kLe => k_is)
    (case nPf => k_is)
    (case lPf => k_is)
    (case cPf => k_is)
    (case kPf => k_is)
    (case nSo => k_is)
    (case lSo => k_is)
    (case cSo => k_is)
    (case kSo => k_is)
    (case nSu => k_is)
    (case lSu => k_is)
    (case cSu => k_is)
    (case kSu => k_is)
    (case nAi => k_is)
    (case lAi => k_is)
    (case cAi => k_is)
    (case kAi => k_is)
    (case nSe => k_is)
    (case lSe => k_is)
    (case cSe => k_is)
    (case kSe => k_is)
    (case nWp => k_is)
    (case lWp => k_is)
    (case cWp => k_is)
    (case kWp => k_is)
    (case nWc => k_is)
    (case lWc => k_is)
    (case cWc => k_is)
    (case kWc => k_is)
    (case nLw => k_is)
    (case lLw => k_is)
    (case cLw => k_is)
    (case kLw => k_is)
    (case nLys => k_is)
    (case lLys => k_is)
    (case cLys => k_is)
    (case kLys => k_is)
    (case nFw => k_is)
    (case lFw => k_is)
    (case cFw => k_is)
    (case kFw => k_is)
    (case nBc => k_is)
    (case lBc => k_is)
    (case cBc => k_is)
    (case kBc => k_is)
    (case nSw => k_is)
    (case lSw => k_is)
    (case cSw => k_is)
    (case kSw => k_is)
    (case nPw => k_is)
    (case lPw => k_is)
    (case cPw => k_is)
    (case kPw => k_is)
    (case nSd => k_is)
    (case lSd => k_is)
    (case cSd => k_is)
    (case kSd => k_is)
    (case nDc => k_is)
    (case lDc => k_is)
    (case cDc => k_is)
    (case kDc => k_is)
    (case nAd => k_is)
    (case lAd => k_is)
    (case cAd => k_is)
    (case kAd => k_is)
    (case nLpr => k_is)
    (case lLpr => k_is)
    (case cLpr => k_is)
    (case kLpr => k_is)
    (case nPys => k_is)
    (case lPys => k_is)
    (case cPys => k_is)
    (case kPys => k_is)
    (case nCal => k_is)
    (case lCal => k_is)
    (case cCal => k_is)
    (case kCal => k_is)
    (case nBx => k_is)
    (case lBx => k_is)
    (case cBx => k_is)
    (case kBx => k_is)
    (case nTk => k_is)
    (case lTk => k_is)
    (case cTk => k_is)
    (case kTk => k_is)
    (case nPk => k_is)
    (case lPk => k_is)
    (case cPk => k_is)
    (case kPk => k_is)
    (case nLx => k_is)
    (case lLx => k_is)
    (case cLx => k_is)
    (case kLx => k_is)
    (case nLst => k_is)
    (case lLst => k_is)
    (case cLst => k_is)
    (case kLst => k_is)
    (case nLc => k_is)
    (case lLc => k_is)
    (case cLc => k_is)
    (case kLc => k_is)
    (case nLcs => k_is)
    (case lLcs => k_is)
    (case cLcs => k_is)
    (case kLcs => k_is)
    (case nLle => k_is)
    (case lLle => k_is)
    (case cLle => k_is)
    (case kLle => k_is)
    (case nLen => k_is)
    (case lLen => k_is)
    (case cLen => k_is)
    (case kLen => k_is)
    (case nLai => k_is)
    (case lLai => k_is)
    (case cLai => k_is)
    (case kLai => k_is)
    (case nLmo => k_is)
    (case lLmo => k_is)
    (case cLmo => k_is)
    (case kLmo => k_is)
    (case nLde => k_is)
    (case lLde => k_is)
    (case cLde => k_is)
    (case kLde => k_is)
    (case nLsu => k_is)
    (case lLsu => k_is)
    (case cLsu => k_is)
    (case kLsu => k_is)
    (case nLcl => k_is)
    (case lLcl => k_is)
    (case cLcl => k_is)
    (case kLcl => k_is)
    (case nLmr => k_is)
    (case lLmr => k_is)
    (case cLmr => k_is)
    (case kLmr => k_is)
    (case nLa => k_is)
    (case lLa => k_is)
    (case cLa => k_is)
    (case kLa => k_is)
    (case aCB => k_is)
    (case pgB => k_is)
    (case hdB => k_is)
    (case poB => k_is)
    (case saB => k_is)
    (case mkB => k_is)
    (case kcB => k_is)
    (case aBi => k_is)
    (case iBi => k_is)
    (case lBi => k_is)
    (case cBi => k_is)
    (case kBi => k_is)
    (case aBd => k_is)
    (case iBd => k_is)
    (case lBd => k_is)
    (case cBd => k_is)
    (case kBd => k_is)
    (case aBn => k_is)
    (case iBn => k_is)
    (case lBn => k_is)
    (case cBn => k_is)
    (case kBn => k_is)
    (case aBsg => k_is)
    (case iBsg => k_is)
    (case lBsg => k_is)
    (case cBsg => k_is)
    (case kBsg => k_is)
    (case aBst => k_is)
    (case iBst => k_is)
    (case lBst => k_is)
    (case cBst => k_is)
    (case kBst => k_is)
    (case aBfr => k_is)
    (case iBfr => k_is)
    (case lBfr => k_is)
    (case cBfr => k_is)
    (case kBfr => k_is)
    (case aBie => k_is)
    (case iBie => k_is)
    (case lBie => k_is)
    (case cBie => k_is)
    (case kBie => k_is)
    (case naB0 => k_is)
    (case naB1 => k_is)
    (case naB2 => k_is)
    (case naB3 => k_is)
    (case naB4 => k_is)
    (case v_LONGEST_NAME => k_is)
    (case v_MOST_COURSES => k_is)
    (case v_MOST_STAGES => k_is)
    (case v_MOST_STAGES_TOGETHER => k_is)
    (case v_MOST_DEEDS => k_is)
    (case xhp => k_is)
    (case xho => k_is)
    (case xF => k_is)
    (case lkF => k_is)
    (case xS => k_is)
    (case lkS => k_is)
    (case z_len => k_is)
    (case z_range => k_is)
    (case z_iter => k_is)
    (case z_enumerate => k_is)
    (case z_reversed => k_is)
    (case z_tuple => k_is)
    (case z_list => k_is)
    (case z_sorted => k_is)
    (case z_any => k_is)
    (case z_all => k_is)
    (case z_int => k_is)
    (case z_str => k_is)
    (case z_bool => k_is)
    (case z_abs => k_is)
    (case z_min => k_is)
    (case z_max => k_is)
    (case z_sum => k_is)
    (case z_isinstance => k_is)
    (case z_ValueError => k_is)
    (case z_zip => k_is)
    (case z_set => k_is)
