/-
  Which bytes the document calls public, reckoned of the file's bytes alone; and that the plain program tells the same. No walk in it.
-/
import Derived.Test.YteibjmlimcpaoaaGreatDoorRvS
import Derived.Test.YteibjmlimcpaoaaGreatDoorPa
set_option linter.unusedVariables false
set_option linter.unusedSimpArgs false
namespace Go.Proofs.YteibjmlimcpaoaaGreatDoor.V

theorem hidN_any (P : Pol) (l : List UInt8) (j : Nat) : ∀ k, hidN P l j k = (List.range k).any fun i => decide (plF l i ≤ j ∧ j < plT l i) && heldI P l i
  | 0 => rfl
  | k + 1 => by
    rw [hidN, hidN_any P l j k, List.range_succ, List.any_append]
    simp only [List.any_cons, List.any_nil, Bool.or_false]
    by_cases h : plF l k ≤ j ∧ j < plT l k
    · rw [if_pos h, decide_eq_true h, Bool.true_and]
    · rw [if_neg h, decide_eq_false h, Bool.false_and, Bool.or_false]
theorem opnN_any (P : Pol) (l : List UInt8) (j : Nat) : ∀ k, opnN P l j k = (List.range k).any fun i => decide (plF l i ≤ j ∧ j < plT l i) && (!heldI P l i && decide (plT l i ≤ l.length))
  | 0 => rfl
  | k + 1 => by
    rw [opnN, opnN_any P l j k, List.range_succ, List.any_append]
    simp only [List.any_cons, List.any_nil, Bool.or_false]
    by_cases h : plF l k ≤ j ∧ j < plT l k
    · rw [if_pos h, decide_eq_true h, Bool.true_and]
    · rw [if_neg h, decide_eq_false h, Bool.false_and, Bool.or_false]
theorem hide_get (P : Pol) (l : List UInt8) (n fr i : Nat) : ∀ (k : Nat) (L : List Bool),
    (hideK P l n fr k L)[i]? = L[i]?.map fun x => x && !(decide (fr + (6 + 12 * n) ≤ i ∧ i < fr + (6 + 12 * n + k)) && (hidN P l (i - fr) n && !opnN P l (i - fr) n))
  | 0, L => by
    have d : decide (fr + (6 + 12 * n) ≤ i ∧ i < fr + (6 + 12 * n + 0)) = false := decide_eq_false (by omega)
    rw [hideK, d]
    simp
  | k + 1, L => by
    have ih := hide_get P l n fr i k L
    rw [hideK]
    by_cases he : i = fr + (6 + 12 * n + k)
    · have e1 : i - fr = 6 + 12 * n + k := by omega
      have d1 : decide (fr + (6 + 12 * n) ≤ i ∧ i < fr + (6 + 12 * n + (k + 1))) = true := decide_eq_true (by omega)
      have d0 : decide (fr + (6 + 12 * n) ≤ i ∧ i < fr + (6 + 12 * n + k)) = false := decide_eq_false (by omega)
      rw [d0] at ih
      rw [e1, d1]
      simp only [Bool.false_and, Bool.not_false, Bool.and_true, Option.map_id'] at ih
      rw [Bool.true_and]
      cases hc : (hidN P l (6 + 12 * n + k) n && !opnN P l (6 + 12 * n + k) n) with
      | true =>
        rw [if_pos rfl, ← he, List.getElem?_set, if_pos rfl, hideK_length]
        by_cases hl : i < L.length
        · rw [if_pos hl, List.getElem?_eq_getElem hl]
          simp
        · rw [if_neg hl, List.getElem?_eq_none (by omega)]
          rfl
      | false =>
        rw [if_neg (by simp), ih]
        simp
    · have d1 : decide (fr + (6 + 12 * n) ≤ i ∧ i < fr + (6 + 12 * n + (k + 1))) = decide (fr + (6 + 12 * n) ≤ i ∧ i < fr + (6 + 12 * n + k)) := decide_eq_decide.2 (by omega)
      rw [d1]
      split
      · rw [List.getElem?_set, if_neg (by omega), ih]
      · exact ih

def marksD (l : List Wd) (L : List Bool) : List Bool := l.foldl (fun p x => if x.st = 0 then markL ⟨x.fr, x.to - x.fr⟩ true p else p) L
def docP (P : Pol) (D : List UInt8) : List Bool :=
  if ¬ ((kindL D).1 = 1 ∨ (kindL D).1 = 2) then markL ⟨0, min D.length 12⟩ true (List.replicate D.length false)
  else if (tbl P D tagName).2.2 = 0 ∧ countL (tbl P D tagName).1 6 12 = 0 then
    hideK P (tbl P D tagName).1 (num2 (tbl P D tagName).1 2) (tbl P D tagName).2.1 ((tbl P D tagName).1.length - (6 + 12 * num2 (tbl P D tagName).1 2))
      (marksD (winsR P D (kindL D).2 (kindL D).2) (markL ⟨0, 12 + 16 * (kindL D).2⟩ true (markL ⟨0, min D.length 12⟩ true (List.replicate D.length false))))
  else marksD (winsR P D (kindL D).2 (kindL D).2) (markL ⟨0, 12 + 16 * (kindL D).2⟩ true (markL ⟨0, min D.length 12⟩ true (List.replicate D.length false)))

theorem marksD_get (l : List Wd) (L : List Bool) (i : Nat) : (marksD l L)[i]? = L[i]?.map fun x => x || l.any fun t => decide (t.st = 0) && (Wn.mk t.fr (t.to - t.fr)).hasB i := by
  have := marks_true (fun t : Wd => decide (t.st = 0)) (fun t => Wn.mk t.fr (t.to - t.fr)) i l L
  simp only [decide_eq_true_eq] at this
  exact this
theorem any_of {α β : Type} (l : List α) (f : α → β) (p : β → Bool) (q : α → Bool) (h : ∀ x ∈ l, p (f x) = q x) : (l.map f).any p = l.any q := by
  induction l with
  | nil => rfl
  | cons x l ih =>
    rw [List.map_cons, List.any_cons, List.any_cons, h x List.mem_cons_self, ih (fun y hy => h y (List.mem_cons_of_mem _ hy))]
theorem table_mem (tag : List UInt8) : ∀ (l : List Tw), (tableOf tag l).2 = 0 → ∃ t ∈ l, t.st = 0 ∧ t.v = (tableOf tag l).1
  | [], h => by simp [tableOf] at h
  | t :: l, h => by
    rw [tableOf] at h ⊢
    split at h
    · rename_i hc
      rw [if_pos hc]
      exact ⟨t, List.mem_cons_self, h, rfl⟩
    · rename_i hc
      rw [if_neg hc]
      obtain ⟨x, hx, h1, h2⟩ := table_mem tag l h
      exact ⟨x, List.mem_cons_of_mem _ hx, h1, h2⟩
theorem cut_has (v : Wn) (f s i : Nat) : (v.cut f s).hasB i = (decide (v.b ≤ i ∧ i < v.b + v.s) && decide (f ≤ i - v.b ∧ i - v.b < f + s)) := by
  unfold Wn.cut Wn.hasB
  rw [Bool.eq_iff_iff]
  simp only [Bool.and_eq_true, decide_eq_true_eq]
  omega
theorem rep_get (n i : Nat) : (List.replicate n false)[i]? = if i < n then some false else none := by rw [List.getElem?_replicate]

/-- the document's answer is the plain program's -/
theorem doc_pub (P : Pol) (D : List UInt8) : docP P D = pubL D.length (dirOf P D) (nsOf P D) := by
  obtain ⟨hk, ht, hyes, hno⟩ := dir_is P D
  have e3 : nsOf P D = _ := naming_eq D P (dirOf P D).tabs (table_in P D tagName)
  have hin := table_in P D tagName
  have p3 := tbl_is P D tagName
  apply List.ext_getElem?
  intro i
  rw [pub_get]
  unfold docP pubB
  by_cases hkk : (kindL D).1 = 1 ∨ (kindL D).1 = 2
  · obtain ⟨hr, hh, h16, hn⟩ := hyes hkk
    rw [if_neg (fun h => h hkk)]
    have hok := winsR_ok P D (kindL D).2 (kindL D).2
    have htabs : ((dirOf P D).tabs.any fun t => decide (t.st = 0) && t.v.hasB i) = (winsR P D (kindL D).2 (kindL D).2).any fun t => decide (t.st = 0) && (Wn.mk t.fr (t.to - t.fr)).hasB i := by
      rw [ht]
      apply any_of
      intro x hx
      show (decide (x.st = 0) && _) = _
      by_cases h0 : x.st = 0
      · have := (hok x hx).here (.inl h0)
        have hv : (twOf D.length (12 + 16 * (kindL D).2) x).v = ⟨x.fr, x.to - x.fr⟩ := by
          unfold twOf
          exact if_neg (by omega)
        rw [hv]
      · simp [h0]
    have hmem := table_mem tagName (dirOf P D).tabs
    have hbase : (marksD (winsR P D (kindL D).2 (kindL D).2) (markL ⟨0, 12 + 16 * (kindL D).2⟩ true (markL ⟨0, min D.length 12⟩ true (List.replicate D.length false))))[i]? =
        if i < D.length then some ((decide (i < 12) || (dirOf P D).recs.hasB i) || (dirOf P D).tabs.any fun t => decide (t.st = 0) && t.v.hasB i) else none := by
      rw [marksD_get, mark_get, mark_get, rep_get, htabs, hr]
      by_cases hi : i < D.length
      · simp only [if_pos hi, Option.map_some]
        congr 2
        unfold Wn.hasB
        simp only [Nat.zero_le, true_and, Nat.zero_add]
        by_cases a1 : i < 12 + 16 * (kindL D).2
        · by_cases a2 : i < 12
          · simp [a1, a2, hi]
          · have : 12 ≤ i := by omega
            simp [a1, a2, this]
        · have a2 : ¬ i < 12 := by omega
          have a3 : ¬ (i < min D.length 12) := by omega
          simp [a1, a2, a3]
      · simp only [if_neg hi, Option.map_none]
    generalize hB : ((decide (i < 12) || (dirOf P D).recs.hasB i) || (dirOf P D).tabs.any fun t => decide (t.st = 0) && t.v.hasB i) = B at *
    have hBv : (tableOf tagName (dirOf P D).tabs).2 = 0 → (tableOf tagName (dirOf P D).tabs).1.hasB i = true → B = true := by
      intro h1 h2
      obtain ⟨t, tm, t0, tv⟩ := hmem h1
      rw [← hB]
      have : ((dirOf P D).tabs.any fun t => decide (t.st = 0) && t.v.hasB i) = true := List.any_eq_true.2 ⟨t, tm, by rw [t0, tv, h2]; rfl⟩
      rw [this]
      simp
    rw [p3, e3]
    clear hmem htabs hB
    generalize (tableOf tagName (dirOf P D).tabs).1 = v at *
    generalize (tableOf tagName (dirOf P D).tabs).2 = st at *
    by_cases hst : st ≠ 0
    · simp only [if_pos hst]
      rw [if_neg (by simp [hst]), hbase]
      simp [Wn.hasB]
    · have hst0 : st = 0 := by omega
      simp only [if_neg hst]
      by_cases hc : countL (winL D v) 6 12 = 0
      · simp only [hc, and_self, if_true, ne_eq, not_true_eq_false, if_false]
        obtain ⟨m, hm⟩ : ∃ m, num2 (winL D v) 2 = m := ⟨_, rfl⟩
        have hlen := winL_length D v hin
        have hml : 6 + 12 * m ≤ v.s := by
          rcases countL_mem (winL D v) 6 12 with h | h
          · rw [hm, hlen] at h; exact h.2.2.2
          · rw [hc] at h; simp at h
        rw [hm, hide_get, hbase, hidN_any, opnN_any, hlen]
        have heach : ∀ (c : Nat → Bool), ((List.map (fun j => newN D P v (num2 (winL D v) 4) (v.cut (6 + 12 * j) 12)) (List.range m)).any fun x => c x.st && x.v.hasB i) = (List.range m).any fun j => c (nameL P (winL D v) j).1.st && (decide (v.b ≤ i ∧ i < v.b + v.s) && decide (plF (winL D v) j ≤ i - v.b ∧ i - v.b < plT (winL D v) j)) := by
          intro c
          apply any_of
          intro j hj
          have hj' := List.mem_range.1 hj
          rw [newN_eq D P v hin j (by omega)]
          simp only
          rw [cut_has]
          rfl
        have h4 := heach (fun s => decide (s = 4))
        have h0 := heach (fun s => decide (s = 0))
        rw [h4, h0, cut_has]
        clear heach h4 h0
        by_cases hiD : i < D.length
        · simp only [if_pos hiD, Option.map_some]
          congr 1
          by_cases hv : v.b ≤ i ∧ i < v.b + v.s
          · have hB1 := hBv hst0 (by unfold Wn.hasB; exact decide_eq_true hv)
            rw [hB1, decide_eq_true hv]
            simp only [Bool.true_and, Nat.zero_le, true_and, Nat.zero_add]
            have s4 : ∀ j, (decide ((nameL P (winL D v) j).1.st = 4) && decide (plF (winL D v) j ≤ i - v.b ∧ i - v.b < plT (winL D v) j)) = (decide (plF (winL D v) j ≤ i - v.b ∧ i - v.b < plT (winL D v) j) && heldI P (winL D v) j) := by
              intro j
              rw [Bool.and_comm]
              congr 1
              unfold nameL heldI
              simp only
              by_cases hq : P.ids.contains ((num2 (winL D v) (6 + 12 * j + 6) : Nat) : Int) = true
              · simp only [hq, if_true]
                rfl
              · have hq' : P.ids.contains ((num2 (winL D v) (6 + 12 * j + 6) : Nat) : Int) = false := by simpa using hq
                simp only [hq', Bool.false_eq_true, if_false]
                split <;> rfl
            have s0 : ∀ j, (decide ((nameL P (winL D v) j).1.st = 0) && decide (plF (winL D v) j ≤ i - v.b ∧ i - v.b < plT (winL D v) j)) = (decide (plF (winL D v) j ≤ i - v.b ∧ i - v.b < plT (winL D v) j) && (!heldI P (winL D v) j && decide (plT (winL D v) j ≤ v.s))) := by
              intro j
              rw [Bool.and_comm]
              congr 1
              unfold nameL heldI plT plF
              simp only [hlen]
              cases P.ids.contains ((num2 (winL D v) (6 + 12 * j + 6) : Nat) : Int) with
              | true => simp
              | false => simp only [Bool.false_eq_true, if_false, Bool.not_false, Bool.true_and]; split <;> simp_all
            simp only [s4, s0]
            generalize ((List.range m).any fun j => decide (plF (winL D v) j ≤ i - v.b ∧ i - v.b < plT (winL D v) j) && heldI P (winL D v) j) = X
            generalize ((List.range m).any fun j => decide (plF (winL D v) j ≤ i - v.b ∧ i - v.b < plT (winL D v) j) && (!heldI P (winL D v) j && decide (plT (winL D v) j ≤ v.s))) = Y
            by_cases ha : i - v.b < 6 + 12 * m
            · rw [decide_eq_true ha, decide_eq_false (by omega)]
              cases X <;> cases Y <;> rfl
            · rw [decide_eq_false ha, decide_eq_true (by omega)]
              cases X <;> cases Y <;> rfl
          · have af : ((List.range m).any fun j => false) = false := by
              rw [List.any_eq_false]
              intro x _
              simp
            rw [decide_eq_false hv, decide_eq_false (by omega)]
            simp only [Bool.false_and, Bool.and_false, af, Bool.not_false, Bool.and_true, Bool.or_false]
        · simp only [if_neg hiD, Option.map_none]
      · simp only [hc, and_false, if_false, ne_eq, not_false_eq_true, if_true]
        rw [hbase]
        simp [Wn.hasB]
  · obtain ⟨hr, hn0, hh⟩ := hno hkk
    rw [if_pos hkk, e3, hr]
    rw [hn0] at ht
    have ht2 : (dirOf P D).tabs = [] := ht
    rw [ht2]
    simp only [tableOf, ne_eq, Nat.reduceEqDiff, not_false_eq_true, if_true]
    rw [mark_get, rep_get]
    by_cases hi : i < D.length
    · simp only [if_pos hi, Option.map_some]
      congr 1
      unfold Wn.hasB
      by_cases a2 : i < 12
      · simp [a2]
        omega
      · simp [a2]
        omega
    · simp only [if_neg hi, Option.map_none]
end Go.Proofs.YteibjmlimcpaoaaGreatDoor.V
