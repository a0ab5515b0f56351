/-
  The document's own side: what visorref.cover answers, of a table's bytes.
-/
import Derived.Test.YteibjmlimcpaoaaGreatDoorRvL
import Derived.Test.YteibjmlimcpaoaaGreatDoorRc
set_option linter.unusedVariables false
set_option linter.unusedSimpArgs false
namespace Go.Proofs.YteibjmlimcpaoaaGreatDoor.V
open Go.RowKit Go.Sort
open Go.Proofs.YteibjmlimcpaoaaGreatDoor.W (at_below at_alloc new_at below_alloc cellsAt strV RowIs own_form)

theorem parts_le (l : List UInt8) : ∀ (k i b f : Nat), f < 4294967296 → (partsL l k i b f).1 ≤ b ∧ (partsL l k i b f).2 < 4294967296
  | 0, i, b, f, h => ⟨Nat.le_refl _, h⟩
  | k + 1, i, b, f, h => by
    rw [partsL]
    split
    · have := parts_le l k (i + 1) (rankOf (num2 l (4 + 8 * i)) (num2 l (4 + 8 * i + 2))) (num4 l (4 + 8 * i + 4)) (num4_lt _ _)
      omega
    · exact parts_le l k (i + 1) b f h
theorem num2_drop (l : List UInt8) (a i : Nat) : num2 (l.drop a) i = num2 l (a + i) := by
  unfold num2 num1
  simp [List.getD_eq_getElem?_getD, List.getElem?_drop, Nat.add_assoc]
theorem drop_is (l : List UInt8) (a : Nat) (h : a ≤ l.length) : (ByteArray.mk l.toArray).extract a l.length = ⟨(l.drop a).toArray⟩ := by
  rw [cut_is, List.take_of_length_le (by simp)]
set_option maxRecDepth 100000 in
set_option maxHeartbeats 1000000 in
theorem coverV (l : List UInt8) (w : World) (hl : l.length ≤ 2000) (ra rb rc : Int) (h1 : ((coverL l).1 : Int) = ra) (h2 : ((coverL l).2.1 : Int) = rb) (h3 : (coverL l).2.2 = rc) :
    Calls Tryz.prog 41 #[strV l] w fun e w' => e = .returned (.agg #[.int .i64 ra, .int .i64 rb, .int .i64 rc]) ∧ Below w.heap.size w w' := by
  unfold strV
  by_cases h4 : l.length < 4
  · have e : coverL l = (5, 0, 0) := by
      have hc : countL l 4 8 = 5 := by
        unfold countL
        rw [if_pos h4]
      unfold coverL
      rw [hc, if_pos (by omega)]
    rw [e] at h1 h2 h3
    obtain ⟨rfl, rfl, rfl⟩ : ra = 5 ∧ rb = 0 ∧ rc = 0 := by simp at h1 h2 h3; omega
    have c1 : (l.length : Int) < 4 := by omega
    clear e h1 h2 h3
    go_enter Tryz.func41, Tryz.ntmps41
    go_wp2
    have v0 := cellsAt (new_at w (.cells #[.int .i64 5, .int .i64 0, .int .i64 0] 37)) 0
    have v1 := cellsAt (new_at w (.cells #[.int .i64 5, .int .i64 0, .int .i64 0] 37)) 1
    have v2 := cellsAt (new_at w (.cells #[.int .i64 5, .int .i64 0, .int .i64 0] 37)) 2
    simp only [List.getElem?_toArray, List.getElem?_cons_zero, List.getElem?_cons_succ] at v0 v1 v2
    exact bodyPost_ret (v := .agg #[.int .i64 5, .int .i64 0, .int .i64 0]) (by simp [results, Tryz.results41, go_sem, v0, v1, v2]) rfl ⟨rfl, below_alloc _ _⟩
  have c1 : ¬ ((l.length : Int) < 4) := by omega
  obtain ⟨x, hx⟩ : ∃ x : Nat, num2 l 0 = x := ⟨_, rfl⟩
  obtain ⟨n, hn⟩ : ∃ x : Nat, num2 l 2 = x := ⟨_, rfl⟩
  have bn : n < 65536 := hn ▸ num2_lt l 2
  have N0 := Lib.hid (fun (w : World) (A : Int) (hA : A = ((0 : Nat) : Int)) => num2V l (by omega) w 0 A (x : Int) hA (by omega) (by rw [hx]))
  have N2 := Lib.hid (fun (w : World) (A : Int) (hA : A = ((2 : Nat) : Int)) => num2V l (by omega) w 2 A (n : Int) hA (by omega) (by rw [hn]))
  by_cases hx0 : x ≠ 0
  · have e : coverL l = (7, 0, 0) := by
      have hc : countL l 4 8 = 7 := by
        unfold countL
        rw [if_neg h4, hx, if_pos hx0]
      unfold coverL
      rw [hc, if_pos (by omega)]
    rw [e] at h1 h2 h3
    obtain ⟨rfl, rfl, rfl⟩ : ra = 7 ∧ rb = 0 ∧ rc = 0 := by simp at h1 h2 h3; omega
    have c2 : ¬ (x : Int) = 0 := by omega
    clear e h1 h2 h3
    go_enter Tryz.func41, Tryz.ntmps41
    go_wp2_with (first | (go_at_call 59; (first | refine (N0.out _ _ (by omega)).mono ?_ | refine (N2.out _ _ (by omega)).mono ?_); rintro e w1 ⟨rfl, hw1⟩; have hw1 := hw1.symm; subst hw1))
    have v0 := cellsAt (new_at w (.cells #[.int .i64 7, .int .i64 0, .int .i64 0] 37)) 0
    have v1 := cellsAt (new_at w (.cells #[.int .i64 7, .int .i64 0, .int .i64 0] 37)) 1
    have v2 := cellsAt (new_at w (.cells #[.int .i64 7, .int .i64 0, .int .i64 0] 37)) 2
    simp only [List.getElem?_toArray, List.getElem?_cons_zero, List.getElem?_cons_succ] at v0 v1 v2
    exact bodyPost_ret (v := .agg #[.int .i64 7, .int .i64 0, .int .i64 0]) (by simp [results, Tryz.results41, go_sem, v0, v1, v2]) rfl ⟨rfl, below_alloc _ _⟩
  have c2 : (x : Int) = 0 := by omega
  by_cases h20 : 20 < n
  · have e : coverL l = (6, 0, 0) := by
      have hc : countL l 4 8 = 6 := by
        unfold countL
        rw [if_neg h4, hx, if_neg hx0, hn, if_pos h20]
      unfold coverL
      rw [hc, if_pos (by omega)]
    rw [e] at h1 h2 h3
    obtain ⟨rfl, rfl, rfl⟩ : ra = 6 ∧ rb = 0 ∧ rc = 0 := by simp at h1 h2 h3; omega
    have c3 : (20 : Int) < (n : Int) := by omega
    clear e h1 h2 h3
    go_enter Tryz.func41, Tryz.ntmps41
    go_wp2_with (first | (go_at_call 59; (first | refine (N0.out _ _ (by omega)).mono ?_ | refine (N2.out _ _ (by omega)).mono ?_); rintro e w1 ⟨rfl, hw1⟩; have hw1 := hw1.symm; subst hw1))
    have v0 := cellsAt (new_at w (.cells #[.int .i64 6, .int .i64 0, .int .i64 0] 37)) 0
    have v1 := cellsAt (new_at w (.cells #[.int .i64 6, .int .i64 0, .int .i64 0] 37)) 1
    have v2 := cellsAt (new_at w (.cells #[.int .i64 6, .int .i64 0, .int .i64 0] 37)) 2
    simp only [List.getElem?_toArray, List.getElem?_cons_zero, List.getElem?_cons_succ] at v0 v1 v2
    exact bodyPost_ret (v := .agg #[.int .i64 6, .int .i64 0, .int .i64 0]) (by simp [results, Tryz.results41, go_sem, v0, v1, v2]) rfl ⟨rfl, below_alloc _ _⟩
  have c3 : ¬ (20 : Int) < (n : Int) := by omega
  by_cases h8 : ¬ 4 + 8 * n ≤ l.length
  · have e : coverL l = (5, 0, 0) := by
      have hc : countL l 4 8 = 5 := by
        unfold countL
        rw [if_neg h4, hx, if_neg hx0, hn, if_neg h20, if_neg h8]
      unfold coverL
      rw [hc, if_pos (by omega)]
    rw [e] at h1 h2 h3
    obtain ⟨rfl, rfl, rfl⟩ : ra = 5 ∧ rb = 0 ∧ rc = 0 := by simp at h1 h2 h3; omega
    have c4 : (l.length : Int) < 4 + 8 * (n : Int) := by omega
    clear e h1 h2 h3
    go_enter Tryz.func41, Tryz.ntmps41
    go_wp2_with (first | (go_at_call 59; (first | refine (N0.out _ _ (by omega)).mono ?_ | refine (N2.out _ _ (by omega)).mono ?_); rintro e w1 ⟨rfl, hw1⟩; have hw1 := hw1.symm; subst hw1))
    have v0 := cellsAt (new_at w (.cells #[.int .i64 5, .int .i64 0, .int .i64 0] 37)) 0
    have v1 := cellsAt (new_at w (.cells #[.int .i64 5, .int .i64 0, .int .i64 0] 37)) 1
    have v2 := cellsAt (new_at w (.cells #[.int .i64 5, .int .i64 0, .int .i64 0] 37)) 2
    simp only [List.getElem?_toArray, List.getElem?_cons_zero, List.getElem?_cons_succ] at v0 v1 v2
    exact bodyPost_ret (v := .agg #[.int .i64 5, .int .i64 0, .int .i64 0]) (by simp [results, Tryz.results41, go_sem, v0, v1, v2]) rfl ⟨rfl, below_alloc _ _⟩
  have c4 : ¬ (l.length : Int) < 4 + 8 * (n : Int) := by omega
  have hc0 : countL l 4 8 = 0 := by
    unfold countL
    rw [if_neg h4, hx, if_neg hx0, hn, if_neg h20, if_pos (by omega)]
  obtain ⟨bb, ff, hR⟩ : ∃ bb ff, partsL l n 0 3 0 = (bb, ff) := ⟨_, _, rfl⟩
  have hle := parts_le l n 0 3 0 (by omega)
  rw [hR] at hle
  simp only at hle
  have e0 : coverL l = if bb = 3 then (7, 0, 0) else if l.length < ff + 2 then (5, 0, 0) else
      let q := l.drop ff
      let form := num2 q 0
      let c := if form = 4 then fourL4 q else if form = 12 then twelveL q else (0, 7)
      if c.2 ≠ 0 then (c.2, 0, 0) else (0, form, c.1) := by
    unfold coverL
    rw [hc0, if_neg (by omega), hn, hR]
  rw [e0] at h1 h2 h3
  obtain ⟨q, hq⟩ : ∃ q, decide (bb < 3) = q := ⟨_, rfl⟩
  have PP := Lib.hid (fun (w : World) => partV l w hl (by omega) n hn (by omega) (by omega) bb ff hR q hq)
  unfold strV at PP
  clear hc0 e0
  by_cases hb3 : bb = 3
  · rw [if_pos hb3] at h1 h2 h3
    obtain ⟨rfl, rfl, rfl⟩ : ra = 7 ∧ rb = 0 ∧ rc = 0 := by simp at h1 h2 h3; omega
    obtain rfl : q = false := by rw [← hq]; exact decide_eq_false (by omega)
    clear h1 h2 h3 hq hR hx hn
    go_enter Tryz.func41, Tryz.ntmps41
    go_wp2_with (first | (go_at_call 64; refine (PP.out _).mono ?_; rintro e w1 ⟨rfl, hw1⟩; have hw1 := hw1.symm; subst hw1) | (go_at_call 59; (first | refine (N0.out _ _ (by omega)).mono ?_ | refine (N2.out _ _ (by omega)).mono ?_); rintro e w1 ⟨rfl, hw1⟩; have hw1 := hw1.symm; subst hw1))
    have v0 := cellsAt (new_at w (.cells #[.int .i64 7, .int .i64 0, .int .i64 0] 37)) 0
    have v1 := cellsAt (new_at w (.cells #[.int .i64 7, .int .i64 0, .int .i64 0] 37)) 1
    have v2 := cellsAt (new_at w (.cells #[.int .i64 7, .int .i64 0, .int .i64 0] 37)) 2
    simp only [List.getElem?_toArray, List.getElem?_cons_zero, List.getElem?_cons_succ] at v0 v1 v2
    exact bodyPost_ret (v := .agg #[.int .i64 7, .int .i64 0, .int .i64 0]) (by simp [results, Tryz.results41, go_sem, v0, v1, v2]) rfl ⟨rfl, below_alloc _ _⟩
  obtain rfl : q = true := by rw [← hq]; exact decide_eq_true (by omega)
  rw [if_neg hb3] at h1 h2 h3
  by_cases hf2 : l.length < ff + 2
  · rw [if_pos hf2] at h1 h2 h3
    obtain ⟨rfl, rfl, rfl⟩ : ra = 5 ∧ rb = 0 ∧ rc = 0 := by simp at h1 h2 h3; omega
    have c5 : (l.length : Int) < (ff : Int) + 2 := by omega
    clear h1 h2 h3 hq hR hx hn
    go_enter Tryz.func41, Tryz.ntmps41
    go_wp2_with (first | (go_at_call 64; refine (PP.out _).mono ?_; rintro e w1 ⟨rfl, hw1⟩; have hw1 := hw1.symm; subst hw1) | (go_at_call 59; (first | refine (N0.out _ _ (by omega)).mono ?_ | refine (N2.out _ _ (by omega)).mono ?_); rintro e w1 ⟨rfl, hw1⟩; have hw1 := hw1.symm; subst hw1))
    have v0 := cellsAt (new_at w (.cells #[.int .i64 5, .int .i64 0, .int .i64 0] 37)) 0
    have v1 := cellsAt (new_at w (.cells #[.int .i64 5, .int .i64 0, .int .i64 0] 37)) 1
    have v2 := cellsAt (new_at w (.cells #[.int .i64 5, .int .i64 0, .int .i64 0] 37)) 2
    simp only [List.getElem?_toArray, List.getElem?_cons_zero, List.getElem?_cons_succ] at v0 v1 v2
    exact bodyPost_ret (v := .agg #[.int .i64 5, .int .i64 0, .int .i64 0]) (by simp [results, Tryz.results41, go_sem, v0, v1, v2]) rfl ⟨rfl, below_alloc _ _⟩
  have c5 : ¬ (l.length : Int) < (ff : Int) + 2 := by omega
  rw [if_neg hf2] at h1 h2 h3
  simp only [num2_drop, Nat.add_zero] at h1 h2 h3
  obtain ⟨fm, hfm⟩ : ∃ x : Nat, num2 l ff = x := ⟨_, rfl⟩
  have bfm : fm < 65536 := hfm ▸ num2_lt l ff
  have NF := Lib.hid (fun (w : World) (A : Int) (hA : A = ((ff : Nat) : Int)) => num2V l (by omega) w ff A (fm : Int) hA (by omega) (by rw [hfm]))
  rw [hfm] at h1 h2 h3
  have hcut := drop_is l ff (by omega)
  have hsz : (⟨l.toArray⟩ : ByteArray).size = l.length := by show Array.size _ = _; simp
  have s1 : (ff : Int) ≤ (l.length : Int) := by omega
  have s2 : ff ≤ l.length := by omega
  have hdl : (l.drop ff).length ≤ 2000 := by simp; omega
  clear hq hR hx hn hfm
  by_cases hf : fm = 4 ∨ fm = 12
  · obtain ⟨V, hV⟩ : ∃ V, w.alloc (.cells #[.int .i64 0, .int .i64 0, .int .i64 0] 37) = V := ⟨_, rfl⟩
    have q0 : V.heap[w.heap.size]? = some (.cells #[.int .i64 0, .int .i64 0, .int .i64 0] 37 (0, 0)) := by rw [← hV]; exact new_at _ _
    have bV : Below w.heap.size w V := by rw [← hV]; exact below_alloc _ _
    have Q0 := Lib.hid q0
    clear q0
    have hres : finC (fm : Int) (if fm = 4 then fourL4 (l.drop ff) else twelveL (l.drop ff)) = (ra, rb, rc) := by
      unfold finC
      rcases hf with rfl | rfl
      · simp only [if_true] at h1 h2 h3 ⊢
        by_cases hz : (fourL4 (l.drop ff)).2 ≠ 0
        · rw [if_pos hz] at h1 h2 h3 ⊢
          simp only at h1 h2 h3
          rw [← h1, ← h2, ← h3]
          rfl
        · rw [if_neg hz] at h1 h2 h3 ⊢
          simp only at h1 h2 h3
          rw [← h1, ← h2, ← h3]
          rfl
      · simp only [show ¬ (12 : Nat) = 4 by omega, if_false, if_true] at h1 h2 h3 ⊢
        by_cases hz : (twelveL (l.drop ff)).2 ≠ 0
        · rw [if_pos hz] at h1 h2 h3 ⊢
          simp only at h1 h2 h3
          rw [← h1, ← h2, ← h3]
          rfl
        · rw [if_neg hz] at h1 h2 h3 ⊢
          simp only at h1 h2 h3
          rw [← h1, ← h2, ← h3]
          rfl
    clear h1 h2 h3
    rcases hf with rfl | rfl
    · have hres' : finC 4 (fourL4 (l.drop ff)) = (ra, rb, rc) := hres
      have C := Lib.hid (fun (w : World) => four4V (l.drop ff) w hdl ra rb rc hres')
      unfold strV at C
      clear hres hres'
      have z0 : ((4 : Nat) : Int) = 4 := rfl
      generalize ByteArray.mk (l.drop ff).toArray = S at *
      go_enter Tryz.func41, Tryz.ntmps41
      go_wp2_with (first | (go_at_call 65; refine (C.out _).mono ?_; rintro e w2 ⟨rfl, hb2⟩; refine Hid.out ?_) | (go_at_call 64; refine (PP.out _).mono ?_; rintro e w1 ⟨rfl, hw1⟩; have hw1 := hw1.symm; subst hw1) | (go_at_call 59; (first | refine (N0.out _ _ (by omega)).mono ?_ | refine (N2.out _ _ (by omega)).mono ?_ | refine (NF.out _ _ (by omega)).mono ?_); rintro e w1 ⟨rfl, hw1⟩; have hw1 := hw1.symm; subst hw1))
      have q1 := at_below Q0.out hb2
      have B2 : Hid (Below w.heap.size w w2) := Lib.hid (bV.trans (hb2.mono bV.size))
      have a0 := cellsAt q1 0
      have a1 := cellsAt q1 1
      have a2 := cellsAt q1 2
      have f0 := frozenAt q1 0
      have f1 := frozenAt q1 1
      have f2 := frozenAt q1 2
      simp only [List.getElem?_toArray, List.getElem?_cons_zero, List.getElem?_cons_succ] at a0 a1 a2
      have Q1 := Lib.hid q1
      clear q1
      have hz := endV (w := w) [.int .i64 ra, .int .i64 rb, .int .i64 rc] Q1.out rfl (Nat.le_refl _) B2.out
      simp only [setAll, Nat.zero_add, Nat.reduceAdd] at hz
      have v0 := cellsAt hz.1 0
      have v1 := cellsAt hz.1 1
      have v2 := cellsAt hz.1 2
      simp only [List.getElem?_toArray, List.getElem?_cons_zero, List.getElem?_cons_succ] at v0 v1 v2
      have VV := Lib.hid (And.intro v0 (And.intro v1 (And.intro v2 hz.2)))
      clear v0 v1 v2 hz
      refine Lib.hid ?_
      go_wp2
      obtain ⟨v0, v1, v2, hz2⟩ := VV.out
      exact bodyPost_ret (v := .agg #[.int .i64 ra, .int .i64 rb, .int .i64 rc]) (by simp [results, Tryz.results41, go_sem, v0, v1, v2]) rfl ⟨rfl, hz2⟩
    · have hres' : finC 12 (twelveL (l.drop ff)) = (ra, rb, rc) := hres
      have C := Lib.hid (fun (w : World) => twelveV (l.drop ff) w hdl ra rb rc hres')
      unfold strV at C
      clear hres hres'
      have z0 : ((12 : Nat) : Int) = 12 := rfl
      generalize ByteArray.mk (l.drop ff).toArray = S at *
      go_enter Tryz.func41, Tryz.ntmps41
      go_wp2_with (first | (go_at_call 66; refine (C.out _).mono ?_; rintro e w2 ⟨rfl, hb2⟩; refine Hid.out ?_) | (go_at_call 64; refine (PP.out _).mono ?_; rintro e w1 ⟨rfl, hw1⟩; have hw1 := hw1.symm; subst hw1) | (go_at_call 59; (first | refine (N0.out _ _ (by omega)).mono ?_ | refine (N2.out _ _ (by omega)).mono ?_ | refine (NF.out _ _ (by omega)).mono ?_); rintro e w1 ⟨rfl, hw1⟩; have hw1 := hw1.symm; subst hw1))
      have q1 := at_below Q0.out hb2
      have B2 : Hid (Below w.heap.size w w2) := Lib.hid (bV.trans (hb2.mono bV.size))
      have a0 := cellsAt q1 0
      have a1 := cellsAt q1 1
      have a2 := cellsAt q1 2
      have f0 := frozenAt q1 0
      have f1 := frozenAt q1 1
      have f2 := frozenAt q1 2
      simp only [List.getElem?_toArray, List.getElem?_cons_zero, List.getElem?_cons_succ] at a0 a1 a2
      have Q1 := Lib.hid q1
      clear q1
      have hz := endV (w := w) [.int .i64 ra, .int .i64 rb, .int .i64 rc] Q1.out rfl (Nat.le_refl _) B2.out
      simp only [setAll, Nat.zero_add, Nat.reduceAdd] at hz
      have v0 := cellsAt hz.1 0
      have v1 := cellsAt hz.1 1
      have v2 := cellsAt hz.1 2
      simp only [List.getElem?_toArray, List.getElem?_cons_zero, List.getElem?_cons_succ] at v0 v1 v2
      have VV := Lib.hid (And.intro v0 (And.intro v1 (And.intro v2 hz.2)))
      clear v0 v1 v2 hz
      refine Lib.hid ?_
      go_wp2
      obtain ⟨v0, v1, v2, hz2⟩ := VV.out
      exact bodyPost_ret (v := .agg #[.int .i64 ra, .int .i64 rb, .int .i64 rc]) (by simp [results, Tryz.results41, go_sem, v0, v1, v2]) rfl ⟨rfl, hz2⟩
  · have e1 : ¬ fm = 4 := fun h => hf (.inl h)
    have e2 : ¬ fm = 12 := fun h => hf (.inr h)
    rw [if_neg e1, if_neg e2] at h1 h2 h3
    obtain ⟨rfl, rfl, rfl⟩ : ra = 7 ∧ rb = 0 ∧ rc = 0 := by simp at h1 h2 h3; omega
    have c6 : ¬ (fm : Int) = 4 := by omega
    have c7 : ¬ (fm : Int) = 12 := by omega
    clear h1 h2 h3
    go_enter Tryz.func41, Tryz.ntmps41
    go_wp2_with (first | (go_at_call 64; refine (PP.out _).mono ?_; rintro e w1 ⟨rfl, hw1⟩; have hw1 := hw1.symm; subst hw1) | (go_at_call 59; (first | refine (N0.out _ _ (by omega)).mono ?_ | refine (N2.out _ _ (by omega)).mono ?_ | refine (NF.out _ _ (by omega)).mono ?_); rintro e w1 ⟨rfl, hw1⟩; have hw1 := hw1.symm; subst hw1))
    have v0 := cellsAt (new_at w (.cells #[.int .i64 7, .int .i64 0, .int .i64 0] 37)) 0
    have v1 := cellsAt (new_at w (.cells #[.int .i64 7, .int .i64 0, .int .i64 0] 37)) 1
    have v2 := cellsAt (new_at w (.cells #[.int .i64 7, .int .i64 0, .int .i64 0] 37)) 2
    simp only [List.getElem?_toArray, List.getElem?_cons_zero, List.getElem?_cons_succ] at v0 v1 v2
    exact bodyPost_ret (v := .agg #[.int .i64 7, .int .i64 0, .int .i64 0]) (by simp [results, Tryz.results41, go_sem, v0, v1, v2]) rfl ⟨rfl, below_alloc _ _⟩
end Go.Proofs.YteibjmlimcpaoaaGreatDoor.V
