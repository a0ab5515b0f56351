/-
  The document's own side: what visorref.twelve answers, of the bytes of a part of the table cmap.
-/
import Derived.Test.YteibjmlimcpaoaaGreatDoorRvK
import Derived.Test.YteibjmlimcpaoaaGreatDoorWd
set_option linter.unusedVariables false
set_option linter.unusedSimpArgs false
namespace Go.Proofs.YteibjmlimcpaoaaGreatDoor.V
open Go.RowKit Go.Sort
open Go.Proofs.YteibjmlimcpaoaaGreatDoor.W (at_below at_alloc new_at below_alloc cellsAt strV RowIs own_form)

set_option maxRecDepth 100000 in
set_option maxHeartbeats 1000000 in
theorem twelveV (l : List UInt8) (w : World) (hl : l.length ≤ 2000) (ra rb rc : Int) (hres : finC 12 (twelveL l) = (ra, rb, rc)) :
    Calls Tryz.prog 66 #[strV l] w fun e w' => e = .returned (.agg #[.int .i64 ra, .int .i64 rb, .int .i64 rc]) ∧ Below w.heap.size w w' := by
  unfold strV
  by_cases h4 : l.length < 16
  · have e : twelveL l = (0, 5) := by
      unfold twelveL
      rw [if_pos (by omega)]
    rw [e] at hres
    obtain ⟨rfl, rfl, rfl⟩ : ra = 5 ∧ rb = 0 ∧ rc = 0 := by simp [finC] at hres; omega
    have c1 : (l.length : Int) < 16 := by omega
    clear e hres
    go_enter Tryz.func66, Tryz.ntmps66
    go_wp2
    have v0 := cellsAt (new_at w (.cells #[.int .i64 5, .int .i64 0, .int .i64 0] 37)) 0
    have v1 := cellsAt (new_at w (.cells #[.int .i64 5, .int .i64 0, .int .i64 0] 37)) 1
    have v2 := cellsAt (new_at w (.cells #[.int .i64 5, .int .i64 0, .int .i64 0] 37)) 2
    simp only [List.getElem?_toArray, List.getElem?_cons_zero, List.getElem?_cons_succ] at v0 v1 v2
    exact bodyPost_ret (v := .agg #[.int .i64 5, .int .i64 0, .int .i64 0]) (by simp [results, Tryz.results66, go_sem, v0, v1, v2]) rfl ⟨rfl, below_alloc _ _⟩
  have c1 : ¬ ((l.length : Int) < 16) := by omega
  obtain ⟨sz, hsz⟩ : ∃ x : Nat, num4 l 4 = x := ⟨_, rfl⟩
  have bsz : sz < 4294967296 := hsz ▸ num4_lt l 4
  have N4 := Lib.hid (fun (w : World) (A : Int) (hA : A = ((4 : Nat) : Int)) => num4V l (by omega) w 4 A (sz : Int) hA (by omega) (by rw [hsz]))
  by_cases hlen : l.length < sz
  · have e : twelveL l = (0, 5) := by
      unfold twelveL
      rw [if_pos (by omega)]
    rw [e] at hres
    obtain ⟨rfl, rfl, rfl⟩ : ra = 5 ∧ rb = 0 ∧ rc = 0 := by simp [finC] at hres; omega
    have c3 : (l.length : Int) < (sz : Int) := by omega
    clear e hres
    go_enter Tryz.func66, Tryz.ntmps66
    go_wp2_with (first | (go_at_call_of 59 (Value.int IntKind.i64 4); (first | refine (N4.out _ _ (by omega)).mono ?_); rintro e w1 ⟨rfl, hw1⟩; have hw1 := hw1.symm; subst hw1))
    have v0 := cellsAt (new_at w (.cells #[.int .i64 5, .int .i64 0, .int .i64 0] 37)) 0
    have v1 := cellsAt (new_at w (.cells #[.int .i64 5, .int .i64 0, .int .i64 0] 37)) 1
    have v2 := cellsAt (new_at w (.cells #[.int .i64 5, .int .i64 0, .int .i64 0] 37)) 2
    simp only [List.getElem?_toArray, List.getElem?_cons_zero, List.getElem?_cons_succ] at v0 v1 v2
    exact bodyPost_ret (v := .agg #[.int .i64 5, .int .i64 0, .int .i64 0]) (by simp [results, Tryz.results66, go_sem, v0, v1, v2]) rfl ⟨rfl, below_alloc _ _⟩
  have c3 : ¬ (l.length : Int) < (sz : Int) := by omega
  obtain ⟨M, hM⟩ : ∃ x : Nat, num4 l 12 = x := ⟨_, rfl⟩
  have bM : M < 4294967296 := hM ▸ num4_lt l 12
  have N12 := Lib.hid (fun (w : World) (A : Int) (hA : A = ((12 : Nat) : Int)) => num4V l (by omega) w 12 A (M : Int) hA (by omega) (by rw [hM]))
  by_cases hsm : sz < 16 + 12 * M
  · have e : twelveL l = (0, 5) := by
      unfold twelveL
      rw [if_pos (by omega)]
    rw [e] at hres
    obtain ⟨rfl, rfl, rfl⟩ : ra = 5 ∧ rb = 0 ∧ rc = 0 := by simp [finC] at hres; omega
    have c6 : (sz : Int) < 16 + 12 * (M : Int) := by omega
    clear e hres
    go_enter Tryz.func66, Tryz.ntmps66
    go_wp2_with (first | (go_at_call_of 59 (Value.int IntKind.i64 4); (first | refine (N4.out _ _ (by omega)).mono ?_ | refine (N12.out _ _ (by omega)).mono ?_); rintro e w1 ⟨rfl, hw1⟩; have hw1 := hw1.symm; subst hw1))
    have v0 := cellsAt (new_at w (.cells #[.int .i64 5, .int .i64 0, .int .i64 0] 37)) 0
    have v1 := cellsAt (new_at w (.cells #[.int .i64 5, .int .i64 0, .int .i64 0] 37)) 1
    have v2 := cellsAt (new_at w (.cells #[.int .i64 5, .int .i64 0, .int .i64 0] 37)) 2
    simp only [List.getElem?_toArray, List.getElem?_cons_zero, List.getElem?_cons_succ] at v0 v1 v2
    exact bodyPost_ret (v := .agg #[.int .i64 5, .int .i64 0, .int .i64 0]) (by simp [results, Tryz.results66, go_sem, v0, v1, v2]) rfl ⟨rfl, below_alloc _ _⟩
  have c6 : ¬ (sz : Int) < 16 + 12 * (M : Int) := by omega
  have e : twelveL l = match rangesL (spans12 l) 0 (-1) with | none => (0, 6) | some (n, e) => if 1114111 < e then (0, 6) else ((n : Int), 0) := by
    unfold twelveL
    rw [if_neg (by omega)]
    rfl
  rw [e] at hres
  have HRES := Lib.hid hres
  clear e hres
  have hL : (spans12 l).length = M := by
    unfold spans12
    rw [List.length_map, List.length_range, hM]
  have hLx : ∀ k, k < M → (spans12 l)[k]? = some (num4 l (16 + 12 * k), num4 l (20 + 12 * k)) := by
    intro k hk
    unfold spans12
    rw [List.getElem?_map, List.getElem?_range (by rw [hM]; omega)]
    rfl
  have hLb : ∀ x ∈ spans12 l, x.1 < 4294967296 ∧ x.2 < 4294967296 := by
    intro x hx
    unfold spans12 at hx
    obtain ⟨k, _, rfl⟩ := List.mem_map.1 hx
    have := num4_lt l (16 + 12 * k)
    have := num4_lt l (20 + 12 * k)
    simp only
    omega
  generalize spans12 l = L at *
  have hL1 : L.length ≤ M := by omega
  have hL2 : M ≤ L.length := by omega
  clear hL
  have HLX := Lib.hid hLx
  have HLB := Lib.hid hLb
  clear hLx hLb
  obtain ⟨i0, hi, hz0, hz1, hz2⟩ := info_parts infoSp
  obtain ⟨V, hV⟩ : ∃ V, w.alloc (.cells #[.int .i64 0, .int .i64 0, .int .i64 0] 37) = V := ⟨_, rfl⟩
  have q0 : V.heap[w.heap.size]? = some (.cells #[.int .i64 0, .int .i64 0, .int .i64 0] 37 (0, 0)) := by rw [← hV]; exact new_at _ _
  have bV : Below w.heap.size w V := by rw [← hV]; exact below_alloc _ _
  have Q0 := Lib.hid q0
  clear q0
  go_enter Tryz.func66, Tryz.ntmps66
  go_wp2_with (first | (go_at_call_of 59 (Value.int IntKind.i64 4); (first | refine (N4.out _ _ (by omega)).mono ?_ | refine (N12.out _ _ (by omega)).mono ?_); rintro e w1 ⟨rfl, hw1⟩; have hw1 := hw1.symm; subst hw1))
  go_loopw [3, 4] (fun os is wr => ∃ (k : Nat), is = .int .i64 (k : Int) ∧ k ≤ M ∧ Below V.heap.size V wr ∧ wr.ownsRow V.heap.size 162 2 os k (spcells (L.take k))) (fun _ is _ => M - (intOf is).toNat)
  case atStart => exact ⟨0, rfl, Nat.zero_le _, Below.refl _ _, World.ownsRow_nil _ _ _ _⟩
  case round =>
    obtain ⟨k, rfl, hk, hbw, hown⟩ := hrel
    by_cases hk1 : k < M
    · obtain ⟨a, ha⟩ : ∃ x : Nat, num4 l (16 + 12 * k) = x := ⟨_, rfl⟩
      obtain ⟨b, hb⟩ : ∃ x : Nat, num4 l (20 + 12 * k) = x := ⟨_, rfl⟩
      have ba : a < 4294967296 := by have := num4_lt l (16 + 12 * k); omega
      have bb : b < 4294967296 := by have := num4_lt l (20 + 12 * k); omega
      have hx := HLX.out k hk1
      rw [ha, hb] at hx
      have A0 := Lib.hid (fun (w : World) (A : Int) (hA : A = (((16 + 12 * k) : Nat) : Int)) => num4V l (by omega) w (16 + 12 * k) A (a : Int) hA (by omega) (by rw [ha]))
      have A1 := Lib.hid (fun (w : World) (A : Int) (hA : A = (((20 + 12 * k) : Nat) : Int)) => num4V l (by omega) w (20 + 12 * k) A (b : Int) hA (by omega) (by rw [hb]))
      have htake : spcells (L.take (k + 1)) = spcells (L.take k) ++ [.int .i64 (a : Int), .int .i64 (b : Int)] := by
        rw [List.take_add_one, hx, spcells_append]
        rfl
      have HK := Lib.hid htake
      clear htake hx ha hb
      have ik : (k : Int) < (M : Int) := by omega
      have hsz2 := hbw.size
      obtain ⟨oa, oc, rfl⟩ := Go.Proofs.YteibjmlimcpaoaaGreatDoor.W.own_slice hown
      go_wp2_with (first | (go_at_call_of 59 (Value.int IntKind.i64 4); (first | refine (A0.out _ _ (by omega)).mono ?_ | refine (A1.out _ _ (by omega)).mono ?_ | refine (N4.out _ _ (by omega)).mono ?_ | refine (N12.out _ _ (by omega)).mono ?_); rintro e w1 ⟨rfl, hw1⟩; have hw1 := hw1.symm; subst hw1) | (at_builtin; refine wpList_append_own _ rfl _ _ 160 rfl V.heap.size 162 i0 (.agg #[.int .i64 0, .int .i64 0]) 2 16 Tryz.underlying160 hi hz0 hz1 hz2 rfl (by decide) _ _ _ rfl (hown.alloc _) ⟨wr.heap.size, 0, none⟩ 1 1 [.int .i64 (a : Int), .int .i64 (b : Int)] rfl rfl (newCells _ _ _) (fun x hx => by simp at hx; rcases hx with rfl | rfl <;> rfl) (by unfold maxLen; omega) (by omega) (by have := hbw.size; simp; omega) ?_; intro v' w3 hown' hgrow3 hnil3; refine Hid.out ?_))
      have own3 : w3.ownsRow V.heap.size 162 2 v' (k + 1) (spcells (L.take (k + 1))) := by
        rw [HK.out]
        exact hown'
      have b3 : Below V.heap.size V w3 := (hbw.alloc hbw.size _).grown hgrow3 (by have := hbw.size; simp; omega) (fun j hj => (hown.lt j hj).1)
      clear hown' hgrow3 hnil3 hown hbw
      refine Lib.hid ?_
      go_wp2
      exact ⟨⟨k + 1, by go_num, by omega, b3, own3⟩, by simp [intOf]; omega⟩
    · have hk2 : M ≤ k := by omega
      have ik : ¬ ((k : Int) < (M : Int)) := by omega
      rw [List.take_of_length_le (by omega)] at hown
      obtain ⟨oa, oc, rfl⟩ := Go.Proofs.YteibjmlimcpaoaaGreatDoor.W.own_slice hown
      have hrow : RowIs wr (.slice oa k oc) L.length (spcells L) := by rw [show L.length = k by omega]; exact rowOwn hown
      obtain ⟨c, q, hcq⟩ : ∃ c q, (match rangesL L 0 (-1) with | none => ((0 : Int), false) | some (n, _) => ((n : Int), true)) = (c, q) := ⟨_, _, rfl⟩
      have C := Lib.hid (countedV L (.slice oa k oc) wr hrow (by omega) HLB.out c q hcq)
      have HCQ := Lib.hid hcq
      have HO := Lib.hid hown
      clear hrow hcq hown
      go_wp2_with (first | (go_at_call 88; refine C.out.mono ?_; rintro e w2 ⟨rfl, hb2⟩; refine Hid.out ?_) | (go_at_call_of 59 (Value.int IntKind.i64 4); (first | refine (N4.out _ _ (by omega)).mono ?_ | refine (N12.out _ _ (by omega)).mono ?_); rintro e w1 ⟨rfl, hw1⟩; have hw1 := hw1.symm; subst hw1))
      have hbw2 := hbw.trans (hb2.mono hbw.size)
      have B2 : Hid (Below w.heap.size w w2) := Lib.hid (bV.trans (hbw2.mono bV.size))
      have q1 := at_below Q0.out hbw2
      have a0 := cellsAt q1 0
      have a1 := cellsAt q1 1
      have a2 := cellsAt q1 2
      have f0 := frozenAt q1 0
      have f1 := frozenAt q1 1
      have f2 := frozenAt q1 2
      simp only [List.getElem?_toArray, List.getElem?_cons_zero, List.getElem?_cons_succ] at a0 a1 a2
      have Q1 := Lib.hid q1
      clear q1
      have hres := HRES.out
      have hcq := HCQ.out
      cases hr : rangesL L 0 (-1) with
      | none =>
        rw [hr] at hres hcq
        simp only [Prod.mk.injEq] at hcq
        obtain ⟨rfl, rfl⟩ := hcq
        obtain ⟨rfl, rfl, rfl⟩ : ra = 6 ∧ rb = 0 ∧ rc = 0 := by simp [finC] at hres; omega
        clear hres hr
        have hz := endV (w := w) [.int .i64 6, .int .i64 0, .int .i64 0] Q1.out rfl (Nat.le_refl _) B2.out
        simp only [setAll, Nat.zero_add, Nat.reduceAdd] at hz
        have v0 := cellsAt hz.1 0
        have v1 := cellsAt hz.1 1
        have v2 := cellsAt hz.1 2
        simp only [List.getElem?_toArray, List.getElem?_cons_zero, List.getElem?_cons_succ] at v0 v1 v2
        have VV := Lib.hid (And.intro v0 (And.intro v1 (And.intro v2 hz.2)))
        clear v0 v1 v2 hz
        refine Lib.hid ?_
        go_wp2
        obtain ⟨v0, v1, v2, hz2⟩ := VV.out
        exact bodyPost_ret (v := .agg #[.int .i64 6, .int .i64 0, .int .i64 0]) (by simp [results, Tryz.results66, go_sem, v0, v1, v2]) rfl ⟨rfl, hz2⟩
      | some r =>
        obtain ⟨nn, ee⟩ := r
        rw [hr] at hres hcq
        simp only [Prod.mk.injEq] at hcq
        obtain ⟨rfl, rfl⟩ := hcq
        simp only at hres
        have hnn := rangesL_le L 0 (-1) nn ee hr (by omega)
        by_cases hz : M = 0
        · have hL0 : L = [] := List.eq_nil_of_length_eq_zero (by omega)
          rw [hL0, rangesL] at hr
          simp at hr
          obtain ⟨hr1, hr2⟩ := hr
          subst hr1 hr2
          obtain ⟨rfl, rfl, rfl⟩ : ra = 0 ∧ rb = 12 ∧ rc = 0 := by simp [finC] at hres; omega
          have z0 : (k : Int) = 0 := by omega
          clear hres
          have hz := endV (w := w) [.int .i64 0, .int .i64 12, .int .i64 0] Q1.out rfl (Nat.le_refl _) B2.out
          simp only [setAll, Nat.zero_add, Nat.reduceAdd] at hz
          have v0 := cellsAt hz.1 0
          have v1 := cellsAt hz.1 1
          have v2 := cellsAt hz.1 2
          simp only [List.getElem?_toArray, List.getElem?_cons_zero, List.getElem?_cons_succ] at v0 v1 v2
          have VV := Lib.hid (And.intro v0 (And.intro v1 (And.intro v2 hz.2)))
          clear v0 v1 v2 hz
          refine Lib.hid ?_
          go_wp2
          obtain ⟨v0, v1, v2, hz2⟩ := VV.out
          exact bodyPost_ret (v := .agg #[.int .i64 0, .int .i64 12, .int .i64 0]) (by simp [results, Tryz.results66, go_sem, v0, v1, v2]) rfl ⟨rfl, hz2⟩
        · obtain ⟨j, hj⟩ : ∃ j, M = j + 1 := ⟨M - 1, by omega⟩
          obtain ⟨x, hx⟩ : ∃ x, L[j]? = some x := ⟨_, List.getElem?_eq_getElem (by omega)⟩
          have hl2 := last_range L 0 (-1) nn ee j x hr (by omega) hx
          have hxb := HLB.out x (List.mem_of_getElem? hx)
          obtain ⟨t0, t1⟩ := spcells_at L j x hx
          obtain ⟨g, cap', cs, hve, hbg, hg⟩ := own_form HO.out (by omega)
          cases hve
          obtain ⟨_, _, hao, hrc⟩ := (rowOwn HO.out).on hb2
          cases hao
          obtain ⟨_, _, hgo, hcell⟩ := hrc (by omega)
          cases hgo
          have c10 := hcell _ _ t1
          rw [Nat.zero_add, hl2] at c10
          have kz : (k : Int) = (j : Int) + 1 := by omega
          have b31 : -1 ≤ ee ∧ ee < 4294967296 := by omega
          clear t0 t1 hx hg hrc hcell hl2 hxb x hr
          by_cases htop : 1114111 < ee
          · obtain ⟨rfl, rfl, rfl⟩ : ra = 6 ∧ rb = 0 ∧ rc = 0 := by simp [finC, htop] at hres; omega
            clear hres
            have hz := endV (w := w) [.int .i64 6, .int .i64 0, .int .i64 0] Q1.out rfl (Nat.le_refl _) B2.out
            simp only [setAll, Nat.zero_add, Nat.reduceAdd] at hz
            have v0 := cellsAt hz.1 0
            have v1 := cellsAt hz.1 1
            have v2 := cellsAt hz.1 2
            simp only [List.getElem?_toArray, List.getElem?_cons_zero, List.getElem?_cons_succ] at v0 v1 v2
            have VV := Lib.hid (And.intro v0 (And.intro v1 (And.intro v2 hz.2)))
            clear v0 v1 v2 hz
            refine Lib.hid ?_
            go_wp2
            obtain ⟨v0, v1, v2, hz2⟩ := VV.out
            exact bodyPost_ret (v := .agg #[.int .i64 6, .int .i64 0, .int .i64 0]) (by simp [results, Tryz.results66, go_sem, v0, v1, v2]) rfl ⟨rfl, hz2⟩
          · obtain ⟨rfl, rfl, rfl⟩ : ra = 0 ∧ rb = 12 ∧ rc = (nn : Int) := by simp [finC, htop] at hres; omega
            clear hres
            have hz := endV (w := w) [.int .i64 0, .int .i64 12, .int .i64 (nn : Int)] Q1.out rfl (Nat.le_refl _) B2.out
            simp only [setAll, Nat.zero_add, Nat.reduceAdd] at hz
            have v0 := cellsAt hz.1 0
            have v1 := cellsAt hz.1 1
            have v2 := cellsAt hz.1 2
            simp only [List.getElem?_toArray, List.getElem?_cons_zero, List.getElem?_cons_succ] at v0 v1 v2
            have VV := Lib.hid (And.intro v0 (And.intro v1 (And.intro v2 hz.2)))
            clear v0 v1 v2 hz
            refine Lib.hid ?_
            go_wp2
            obtain ⟨v0, v1, v2, hz2⟩ := VV.out
            exact bodyPost_ret (v := .agg #[.int .i64 0, .int .i64 12, .int .i64 (nn : Int)]) (by simp [results, Tryz.results66, go_sem, v0, v1, v2]) rfl ⟨rfl, hz2⟩
end Go.Proofs.YteibjmlimcpaoaaGreatDoor.V
