/-
  The document's own side: what visorref.rights answers, of a table's bytes.
  The document's own side: what visorref.part answers, of a table's bytes.
-/
import Derived.Test.YteibjmlimcpaoaaGreatDoorRb
set_option linter.unusedVariables false
set_option linter.unusedSimpArgs false
namespace Go.Proofs.YteibjmlimcpaoaaGreatDoor.V
open Go.RowKit Go.Sort
open Go.Proofs.YteibjmlimcpaoaaGreatDoor.W (at_below at_alloc new_at below_alloc cellsAt strV)

theorem new_at1 (w : World) (o p : Obj) : ((w.alloc o).alloc p).heap[w.heap.size + 1]? = some p := by
  have := new_at (w.alloc o) p
  simpa using this

def allV : Nat → Nat
  | 0 => 2
  | 1 => 4
  | 2 => 8
  | 3 => 256
  | _ => 512
def restK (b : Nat) : Nat → Int
  | 0 => b
  | k + 1 => restK b k - (if b / allV k % 2 = 1 then (allV k : Int) else 0)
def manyK (b : Nat) : Nat → Int
  | 0 => 0
  | k + 1 => manyK b k + (if b / allV k % 2 = 1 ∧ k < 3 then 1 else 0)
theorem bitIf (x a : Nat) : (if x % 2 = 1 then (a : Int) else 0) = (a : Int) * ((x % 2 : Nat) : Int) := by
  have h : x % 2 = 0 ∨ x % 2 = 1 := by omega
  rcases h with h | h <;> simp [h]
theorem rest_is (b : Nat) : 0 < restK b 5 ↔ otherBits b = true := by
  unfold otherBits
  rw [decide_eq_true_eq]
  simp only [restK, bitIf]
  simp only [allV]
  omega
theorem many_is (b : Nat) : manyK b 5 = ((usesOf b : Nat) : Int) := by
  unfold usesOf
  simp only [manyK, allV]
  have h1 : b / 2 % 2 = 0 ∨ b / 2 % 2 = 1 := by omega
  have h2 : b / 4 % 2 = 0 ∨ b / 4 % 2 = 1 := by omega
  have h3 : b / 8 % 2 = 0 ∨ b / 8 % 2 = 1 := by omega
  rcases h1 with h1 | h1 <;> rcases h2 with h2 | h2 <;> rcases h3 with h3 | h3 <;> simp [h1, h2, h3]
theorem rest_rng (b : Nat) (hb : b < 65536) : ∀ k, k ≤ 5 → -65536 < restK b k ∧ restK b k < 65536 := by
  intro k hk
  have hc : k = 0 ∨ k = 1 ∨ k = 2 ∨ k = 3 ∨ k = 4 ∨ k = 5 := by omega
  rcases hc with rfl | rfl | rfl | rfl | rfl | rfl
  all_goals ((try simp only [restK, bitIf]); (try simp only [allV]); omega)
theorem many_rng (b : Nat) : ∀ k, k ≤ 5 → 0 ≤ manyK b k ∧ manyK b k ≤ k
  | 0, _ => by simp [manyK]
  | k + 1, h => by
    have := many_rng b k (by omega)
    simp only [manyK]
    split <;> omega
set_option maxRecDepth 100000 in
set_option maxHeartbeats 2000000 in
theorem rightsV (l : List UInt8) (w : World) (hl : l.length ≤ 2000) :
    Calls Tryz.prog 38 #[strV l] w fun e w' => e = .returned (.agg #[.int .i64 (((rightsL l).1 : Nat) : Int), .int .i64 (((rightsL l).2.1 : Nat) : Int), .int .i64 (((rightsL l).2.2 : Nat) : Int)]) ∧ Below w.heap.size w w' := by
  unfold strV
  by_cases h1 : l.length < 10
  · have e : rightsL l = (5, 0, 0) := by unfold rightsL; rw [if_pos h1]
    rw [e]
    have c1 : (l.length : Int) < 10 := by omega
    go_enter Tryz.func38, Tryz.ntmps38
    go_wp2
    have v0 := cellsAt (new_at w (.cells #[.int .i64 5, .int .i64 0, .int .i64 0] 34)) 0
    have v1 := cellsAt (new_at w (.cells #[.int .i64 5, .int .i64 0, .int .i64 0] 34)) 1
    have v2 := cellsAt (new_at w (.cells #[.int .i64 5, .int .i64 0, .int .i64 0] 34)) 2
    simp only [List.getElem?_toArray, List.getElem?_cons_zero, List.getElem?_cons_succ] at v0 v1 v2
    exact bodyPost_ret (v := .agg #[.int .i64 5, .int .i64 0, .int .i64 0]) (by simp [results, Tryz.results38, go_sem, v0, v1, v2]) rfl ⟨rfl, below_alloc _ _⟩
  · have c1 : ¬ ((l.length : Int) < 10) := by omega
    obtain ⟨x, hx⟩ : ∃ x : Nat, num2 l 0 = x := ⟨_, rfl⟩
    obtain ⟨y, hy⟩ : ∃ y : Nat, num2 l 8 = y := ⟨_, rfl⟩
    have bx : x < 65536 := hx ▸ num2_lt l 0
    have by_ : y < 65536 := hy ▸ num2_lt l 8
    have N0 := Lib.hid (fun (w : World) (A : Int) (hA : A = ((0 : Nat) : Int)) => num2V l (by omega) w 0 A (x : Int) hA (by omega) (by rw [hx]))
    have N8 := Lib.hid (fun (w : World) (A : Int) (hA : A = ((8 : Nat) : Int)) => num2V l (by omega) w 8 A (y : Int) hA (by omega) (by rw [hy]))
    have e : rightsL l = if 5 < x then (7, 0, 0) else if otherBits y = true ∨ (3 ≤ x ∧ 1 < usesOf y) then (6, 0, 0) else (0, x, y) := by
      unfold rightsL
      rw [if_neg h1, hx, hy]
    rw [e]
    clear e hx hy h1
    by_cases h5 : 5 < x
    · rw [if_pos h5]
      have c2 : (5 : Int) < (x : Int) := by omega
      go_enter Tryz.func38, Tryz.ntmps38
      go_wp2_with (go_at_call 59; (first | refine (N0.out _ _ (by omega)).mono ?_ | refine (N8.out _ _ (by omega)).mono ?_); rintro e w1 ⟨rfl, hw1⟩; have hw1 := hw1.symm; subst hw1)
      have v0 := cellsAt (new_at w (.cells #[.int .i64 7, .int .i64 0, .int .i64 0] 34)) 0
      have v1 := cellsAt (new_at w (.cells #[.int .i64 7, .int .i64 0, .int .i64 0] 34)) 1
      have v2 := cellsAt (new_at w (.cells #[.int .i64 7, .int .i64 0, .int .i64 0] 34)) 2
      simp only [List.getElem?_toArray, List.getElem?_cons_zero, List.getElem?_cons_succ] at v0 v1 v2
      exact bodyPost_ret (v := .agg #[.int .i64 7, .int .i64 0, .int .i64 0]) (by simp [results, Tryz.results38, go_sem, v0, v1, v2]) rfl ⟨rfl, below_alloc _ _⟩
    · rw [if_neg h5]
      obtain ⟨ra, rb, rc, hres⟩ : ∃ ra rb rc : Nat, (if otherBits y = true ∨ (3 ≤ x ∧ 1 < usesOf y) then (6, 0, 0) else (0, x, y)) = (ra, rb, rc) := ⟨_, _, _, rfl⟩
      rw [hres]
      have HRES := Lib.hid hres
      clear hres
      simp only
      have c2 : ¬ ((5 : Int) < (x : Int)) := by omega
      obtain ⟨W, hW⟩ : ∃ W, (w.alloc (.cells #[.int .i64 0, .int .i64 0, .int .i64 0] 34)).alloc (.cells #[.int .i64 2, .int .i64 4, .int .i64 8, .int .i64 256, .int .i64 512] 3) = W := ⟨_, rfl⟩
      have q0 : W.heap[w.heap.size]? = some (.cells #[.int .i64 0, .int .i64 0, .int .i64 0] 34 (0, 0)) := by rw [← hW]; exact at_alloc (new_at _ _)
      have q1 : W.heap[w.heap.size + 1]? = some (.cells #[.int .i64 2, .int .i64 4, .int .i64 8, .int .i64 256, .int .i64 512] 3 (0, 0)) := by rw [← hW]; exact new_at1 _ _ _
      have hbW : Below w.heap.size w W := by rw [← hW]; exact (below_alloc _ _).alloc (by simp) _
      have a0 := cellsAt q0 0
      have a1 := cellsAt q0 1
      have a2 := cellsAt q0 2
      have f0 := frozenAt q0 0
      have f1 := frozenAt q0 1
      have f2 := frozenAt q0 2
      have d0 := cellsAt q1 0
      have d1 := cellsAt q1 1
      have d2 := cellsAt q1 2
      have d3 := cellsAt q1 3
      have d4 := cellsAt q1 4
      simp only [List.getElem?_toArray, List.getElem?_cons_zero, List.getElem?_cons_succ] at a0 a1 a2 d0 d1 d2 d3 d4
      have Q0 := Lib.hid q0
      clear q0 q1
      go_enter Tryz.func38, Tryz.ntmps38
      go_wp2_with (go_at_call 59; (first | refine (N0.out _ _ (by omega)).mono ?_ | refine (N8.out _ _ (by omega)).mono ?_); rintro e w1 ⟨rfl, hw1⟩; have hw1 := hw1.symm; subst hw1)
      go_loopw [5, 6, 8] (fun rs ms is wr => ∃ (k : Nat) (R M : Int), is = .int .i64 (k : Int) ∧ k ≤ 5 ∧ rs = .int .i64 R ∧ ms = .int .i64 M ∧ wr = W ∧ Hid (R = restK y k) ∧ Hid (M = manyK y k)) (fun _ _ is _ => 5 - (intOf is).toNat)
      case atStart => exact ⟨0, (y : Int), 0, rfl, by omega, rfl, rfl, rfl, Lib.hid rfl, Lib.hid rfl⟩
      case round =>
        obtain ⟨k, R, M, rfl, hk, rfl, rfl, rfl, HR, HM⟩ := hrel
        have r1 := rest_rng y by_ k hk
        have r2 := many_rng y k hk
        have r3 : -65536 < R ∧ R < 65536 := by rw [HR.out]; exact r1
        have r4 : 0 ≤ M ∧ M ≤ k := by rw [HM.out]; exact r2
        clear r1 r2
        by_cases hk5 : k < 5
        · have hR : restK y (k + 1) = R - (if y / allV k % 2 = 1 then (allV k : Int) else 0) := by rw [HR.out]; rfl
          have hM : manyK y (k + 1) = M + (if y / allV k % 2 = 1 ∧ k < 3 then 1 else 0) := by rw [HM.out]; rfl
          have hc : k = 0 ∨ k = 1 ∨ k = 2 ∨ k = 3 ∨ k = 4 := by omega
          have HR' := Lib.hid hR
          have HM' := Lib.hid hM
          clear hR hM HR HM
          rcases hc with rfl | rfl | rfl | rfl | rfl
          · by_cases hb : y / 2 % 2 = 1
            · have hb' : (y : Int) / 2 % 2 = 1 := by omega
              have z1 : R - 2 = restK y 1 := by rw [HR'.out]; simp [allV, hb]
              have z2 : M + 1 = manyK y 1 := by rw [HM'.out]; simp [allV, hb]
              have Z := Lib.hid (And.intro z1 z2)
              clear z1 z2 HR' HM'
              go_wp2
              exact ⟨⟨1, _, _, rfl, by omega, rfl, rfl, by first | rfl | trivial, Lib.hid Z.out.1, Lib.hid Z.out.2⟩, by simp [intOf]⟩
            · have hb' : ¬ (y : Int) / 2 % 2 = 1 := by omega
              have z1 : R = restK y 1 := by rw [HR'.out]; simp [allV, hb]
              have z2 : M = manyK y 1 := by rw [HM'.out]; simp [allV, hb]
              have Z := Lib.hid (And.intro z1 z2)
              clear z1 z2 HR' HM'
              go_wp2
              exact ⟨⟨1, _, _, rfl, by omega, rfl, rfl, by first | rfl | trivial, Lib.hid Z.out.1, Lib.hid Z.out.2⟩, by simp [intOf]⟩
          · by_cases hb : y / 4 % 2 = 1
            · have hb' : (y : Int) / 4 % 2 = 1 := by omega
              have z1 : R - 4 = restK y 2 := by rw [HR'.out]; simp [allV, hb]
              have z2 : M + 1 = manyK y 2 := by rw [HM'.out]; simp [allV, hb]
              have Z := Lib.hid (And.intro z1 z2)
              clear z1 z2 HR' HM'
              go_wp2
              exact ⟨⟨2, _, _, rfl, by omega, rfl, rfl, by first | rfl | trivial, Lib.hid Z.out.1, Lib.hid Z.out.2⟩, by simp [intOf]⟩
            · have hb' : ¬ (y : Int) / 4 % 2 = 1 := by omega
              have z1 : R = restK y 2 := by rw [HR'.out]; simp [allV, hb]
              have z2 : M = manyK y 2 := by rw [HM'.out]; simp [allV, hb]
              have Z := Lib.hid (And.intro z1 z2)
              clear z1 z2 HR' HM'
              go_wp2
              exact ⟨⟨2, _, _, rfl, by omega, rfl, rfl, by first | rfl | trivial, Lib.hid Z.out.1, Lib.hid Z.out.2⟩, by simp [intOf]⟩
          · by_cases hb : y / 8 % 2 = 1
            · have hb' : (y : Int) / 8 % 2 = 1 := by omega
              have z1 : R - 8 = restK y 3 := by rw [HR'.out]; simp [allV, hb]
              have z2 : M + 1 = manyK y 3 := by rw [HM'.out]; simp [allV, hb]
              have Z := Lib.hid (And.intro z1 z2)
              clear z1 z2 HR' HM'
              go_wp2
              exact ⟨⟨3, _, _, rfl, by omega, rfl, rfl, by first | rfl | trivial, Lib.hid Z.out.1, Lib.hid Z.out.2⟩, by simp [intOf]⟩
            · have hb' : ¬ (y : Int) / 8 % 2 = 1 := by omega
              have z1 : R = restK y 3 := by rw [HR'.out]; simp [allV, hb]
              have z2 : M = manyK y 3 := by rw [HM'.out]; simp [allV, hb]
              have Z := Lib.hid (And.intro z1 z2)
              clear z1 z2 HR' HM'
              go_wp2
              exact ⟨⟨3, _, _, rfl, by omega, rfl, rfl, by first | rfl | trivial, Lib.hid Z.out.1, Lib.hid Z.out.2⟩, by simp [intOf]⟩
          · by_cases hb : y / 256 % 2 = 1
            · have hb' : (y : Int) / 256 % 2 = 1 := by omega
              have z1 : R - 256 = restK y 4 := by rw [HR'.out]; simp [allV, hb]
              have z2 : M = manyK y 4 := by rw [HM'.out]; simp [allV, hb]
              have Z := Lib.hid (And.intro z1 z2)
              clear z1 z2 HR' HM'
              go_wp2
              exact ⟨⟨4, _, _, rfl, by omega, rfl, rfl, by first | rfl | trivial, Lib.hid Z.out.1, Lib.hid Z.out.2⟩, by simp [intOf]⟩
            · have hb' : ¬ (y : Int) / 256 % 2 = 1 := by omega
              have z1 : R = restK y 4 := by rw [HR'.out]; simp [allV, hb]
              have z2 : M = manyK y 4 := by rw [HM'.out]; simp [allV, hb]
              have Z := Lib.hid (And.intro z1 z2)
              clear z1 z2 HR' HM'
              go_wp2
              exact ⟨⟨4, _, _, rfl, by omega, rfl, rfl, by first | rfl | trivial, Lib.hid Z.out.1, Lib.hid Z.out.2⟩, by simp [intOf]⟩
          · by_cases hb : y / 512 % 2 = 1
            · have hb' : (y : Int) / 512 % 2 = 1 := by omega
              have z1 : R - 512 = restK y 5 := by rw [HR'.out]; simp [allV, hb]
              have z2 : M = manyK y 5 := by rw [HM'.out]; simp [allV, hb]
              have Z := Lib.hid (And.intro z1 z2)
              clear z1 z2 HR' HM'
              go_wp2
              exact ⟨⟨5, _, _, rfl, by omega, rfl, rfl, by first | rfl | trivial, Lib.hid Z.out.1, Lib.hid Z.out.2⟩, by simp [intOf]⟩
            · have hb' : ¬ (y : Int) / 512 % 2 = 1 := by omega
              have z1 : R = restK y 5 := by rw [HR'.out]; simp [allV, hb]
              have z2 : M = manyK y 5 := by rw [HM'.out]; simp [allV, hb]
              have Z := Lib.hid (And.intro z1 z2)
              clear z1 z2 HR' HM'
              go_wp2
              exact ⟨⟨5, _, _, rfl, by omega, rfl, rfl, by first | rfl | trivial, Lib.hid Z.out.1, Lib.hid Z.out.2⟩, by simp [intOf]⟩
        · obtain rfl : k = 5 := by omega
          have hr : 0 < R ↔ otherBits y = true := by rw [HR.out]; exact rest_is y
          have hm : M = ((usesOf y : Nat) : Int) := by rw [HM.out]; exact many_is y
          by_cases hbad : otherBits y = true ∨ (3 ≤ x ∧ 1 < usesOf y)
          · obtain ⟨rfl, rfl, rfl⟩ : ra = 6 ∧ rb = 0 ∧ rc = 0 := by
              have := HRES.out
              rw [if_pos hbad] at this
              simp at this
              omega
            have hcs : 0 < R ∨ (¬ 0 < R ∧ (3 : Int) ≤ (x : Int) ∧ 1 < M) := by
              rcases hbad with h | h
              · exact .inl (hr.2 h)
              · by_cases h0 : 0 < R
                · exact .inl h0
                · exact .inr ⟨h0, by omega, by omega⟩
            clear hr hm hbad HR HM
            have hz := endV (w := w) [.int .i64 6, .int .i64 0, .int .i64 0] Q0.out rfl (Nat.le_refl _) hbW
            simp only [setAll, Nat.zero_add, Nat.reduceAdd] at hz
            have v0 := cellsAt hz.1 0
            have v1 := cellsAt hz.1 1
            have v2 := cellsAt hz.1 2
            simp only [List.getElem?_toArray, List.getElem?_cons_zero, List.getElem?_cons_succ] at v0 v1 v2
            have V := Lib.hid (And.intro v0 (And.intro v1 (And.intro v2 hz.2)))
            clear v0 v1 v2 hz
            rcases hcs with g1 | ⟨g1, g2, g3⟩
            all_goals (
              go_wp2
              obtain ⟨v0, v1, v2, hz2⟩ := V.out
              exact bodyPost_ret (v := .agg #[.int .i64 6, .int .i64 0, .int .i64 0]) (by simp [results, Tryz.results38, go_sem, v0, v1, v2]) rfl ⟨rfl, hz2⟩)
          · obtain ⟨rfl, rfl, rfl⟩ : ra = 0 ∧ x = rb ∧ y = rc := by
              have := HRES.out
              rw [if_neg hbad] at this
              simp at this
              omega
            have g1 : ¬ 0 < R := fun h => hbad (.inl (hr.1 h))
            have hcs : (¬ (3 : Int) ≤ (x : Int)) ∨ ((3 : Int) ≤ (x : Int) ∧ ¬ 1 < M) := by
              by_cases h3 : 3 ≤ x
              · exact .inr ⟨by omega, fun h => hbad (.inr ⟨h3, by omega⟩)⟩
              · exact .inl (by omega)
            clear hr hm hbad HR HM
            have hz := endV (w := w) [.int .i64 0, .int .i64 (x : Int), .int .i64 (y : Int)] Q0.out rfl (Nat.le_refl _) hbW
            simp only [setAll, Nat.zero_add, Nat.reduceAdd] at hz
            have v0 := cellsAt hz.1 0
            have v1 := cellsAt hz.1 1
            have v2 := cellsAt hz.1 2
            simp only [List.getElem?_toArray, List.getElem?_cons_zero, List.getElem?_cons_succ] at v0 v1 v2
            have V := Lib.hid (And.intro v0 (And.intro v1 (And.intro v2 hz.2)))
            clear v0 v1 v2 hz
            rcases hcs with g2 | ⟨g2, g3⟩
            all_goals (
              go_wp2
              obtain ⟨v0, v1, v2, hz2⟩ := V.out
              exact bodyPost_ret (v := .agg #[.int .i64 0, .int .i64 (x : Int), .int .i64 (y : Int)]) (by simp [results, Tryz.results38, go_sem, v0, v1, v2]) rfl ⟨rfl, hz2⟩)
end Go.Proofs.YteibjmlimcpaoaaGreatDoor.V

set_option linter.unusedVariables false
set_option linter.unusedSimpArgs false
namespace Go.Proofs.YteibjmlimcpaoaaGreatDoor.V
open Go.RowKit Go.Sort
open Go.Proofs.YteibjmlimcpaoaaGreatDoor.W (at_below at_alloc new_at below_alloc cellsAt strV)

theorem rank_cases (p e : Nat) : ∃ r, rankOf p e = r ∧ (((p : Int) = 3 ∧ (e : Int) = 10 ∧ r = 0) ∨ ((p : Int) = 3 ∧ ¬ (e : Int) = 10 ∧ (e : Int) = 1 ∧ r = 2) ∨ ((p : Int) = 3 ∧ ¬ (e : Int) = 10 ∧ ¬ (e : Int) = 1 ∧ r = 3) ∨ (¬ (p : Int) = 3 ∧ (p : Int) = 0 ∧ r = 1) ∨ (¬ (p : Int) = 3 ∧ ¬ (p : Int) = 0 ∧ r = 3)) := by
  refine ⟨_, rfl, ?_⟩
  unfold rankOf
  repeat' split
  all_goals omega

set_option maxRecDepth 100000 in
set_option maxHeartbeats 2000000 in
theorem partV (l : List UInt8) (w : World) (hl : l.length ≤ 2000) (h4 : 4 ≤ l.length) (n : Nat) (hn : num2 l 2 = n) (hn20 : n ≤ 20) (hn8 : 4 + 8 * n ≤ l.length) (bb ff : Nat) (hR : partsL l n 0 3 0 = (bb, ff)) (q : Bool) (hq : decide (bb < 3) = q) :
    Calls Tryz.prog 64 #[strV l] w fun e w' => e = .returned (.tuple #[.int .i64 (ff : Int), .bool q]) ∧ w' = w := by
  have HR := Lib.hid hR
  have HQ := Lib.hid hq
  have N2 := Lib.hid (fun (w : World) (A : Int) (hA : A = ((2 : Nat) : Int)) => num2V l (by omega) w 2 A (n : Int) hA (by omega) (by rw [hn]))
  unfold strV
  clear hR hn hq
  go_enter Tryz.func64, Tryz.ntmps64
  go_wp2_with (go_at_call 59; refine (N2.out _ _ (by omega)).mono ?_; rintro e w1 ⟨rfl, hw1⟩; have hw1 := hw1.symm; subst hw1)
  go_loopw [5, 6, 7] (fun bs fs is wr => ∃ (k b f : Nat) (B : Int), is = .int .i64 (k : Int) ∧ k ≤ n ∧ bs = .int .i64 B ∧ fs = .int .i64 (f : Int) ∧ wr = w ∧ Hid (B = (b : Int) + 1 ∧ b ≤ 3) ∧ Hid (partsL l (n - k) k b f = (bb, ff))) (fun _ _ is _ => n - (intOf is).toNat)
  case atStart => exact ⟨0, 3, 0, 4, rfl, by omega, rfl, rfl, rfl, Lib.hid ⟨by omega, by omega⟩, HR⟩
  case round =>
    obtain ⟨k, b, f, B, rfl, hk, rfl, rfl, rfl, HB, H⟩ := hrel
    by_cases hk1 : k < n
    · obtain ⟨m, hm⟩ : ∃ m, n - k = m + 1 := ⟨n - k - 1, by omega⟩
      have hm' : n - (k + 1) = m := by omega
      have h1 := H.out
      rw [hm, partsL, ← hm'] at h1
      obtain ⟨hB, hb3⟩ := HB.out
      obtain ⟨p, hp⟩ : ∃ x : Nat, num2 l (4 + 8 * k) = x := ⟨_, rfl⟩
      obtain ⟨e, he⟩ : ∃ x : Nat, num2 l (4 + 8 * k + 2) = x := ⟨_, rfl⟩
      obtain ⟨z, hz⟩ : ∃ x : Nat, num4 l (4 + 8 * k + 4) = x := ⟨_, rfl⟩
      have bp : p < 65536 := hp ▸ num2_lt _ _
      have be : e < 65536 := he ▸ num2_lt _ _
      have bz : z < 4294967296 := hz ▸ num4_lt _ _
      rw [hp, he, hz] at h1
      have A0 := Lib.hid (fun (w : World) (A : Int) (hA : A = ((4 + 8 * k : Nat) : Int)) => num2V l (by omega) w (4 + 8 * k) A (p : Int) hA (by omega) (by rw [hp]))
      have A2 := Lib.hid (fun (w : World) (A : Int) (hA : A = ((4 + 8 * k + 2 : Nat) : Int)) => num2V l (by omega) w (4 + 8 * k + 2) A (e : Int) hA (by omega) (by rw [he]))
      have A4 := Lib.hid (fun (w : World) (A : Int) (hA : A = ((4 + 8 * k + 4 : Nat) : Int)) => num4V l (by omega) w (4 + 8 * k + 4) A (z : Int) hA (by omega) (by rw [hz]))
      obtain ⟨r, hr, hc⟩ := rank_cases p e
      rw [hr] at h1
      clear hp he hz hm hm' H HB hr
      have ik : (k : Int) < (n : Int) := by omega
      have k20 : k < 20 := by omega
      by_cases hlt : r < b
      · rw [if_pos hlt] at h1
        have H1 := Lib.hid h1
        have hB1 : B ≤ 4 := by omega
        have HB1 : Hid (b ≤ 3) := Lib.hid hb3
        clear h1
        rcases hc with ⟨c1, c2, c3⟩ | ⟨c1, c2, c3, c4⟩ | ⟨c1, c2, c3, c4⟩ | ⟨c1, c2, c3⟩ | ⟨c1, c2, c3⟩
        · subst c3
          have d1 : (1 : Int) < B := by omega
          clear hlt hB hb3
          go_wp2_with (first | (go_at_call_of 59 (Value.int IntKind.i64 4); refine (A4.out _ _ (by omega)).mono ?_; rintro e w1 ⟨rfl, hw1⟩; have hw1 := hw1.symm; subst hw1) | (go_at_call 59; (first | refine (A0.out _ _ (by omega)).mono ?_ | refine (A2.out _ _ (by omega)).mono ?_); rintro e w1 ⟨rfl, hw1⟩; have hw1 := hw1.symm; subst hw1))
          exact ⟨⟨k + 1, 0, z, 1, by go_num, by omega, rfl, rfl, by first | rfl | trivial, Lib.hid ⟨by omega, by omega⟩, H1⟩, by simp [intOf]; omega⟩
        · subst c4
          have d1 : (3 : Int) < B := by omega
          clear hlt hB hb3
          go_wp2_with (first | (go_at_call_of 59 (Value.int IntKind.i64 4); refine (A4.out _ _ (by omega)).mono ?_; rintro e w1 ⟨rfl, hw1⟩; have hw1 := hw1.symm; subst hw1) | (go_at_call 59; (first | refine (A0.out _ _ (by omega)).mono ?_ | refine (A2.out _ _ (by omega)).mono ?_); rintro e w1 ⟨rfl, hw1⟩; have hw1 := hw1.symm; subst hw1))
          exact ⟨⟨k + 1, 2, z, 3, by go_num, by omega, rfl, rfl, by first | rfl | trivial, Lib.hid ⟨by omega, by omega⟩, H1⟩, by simp [intOf]; omega⟩
        · omega
        · subst c3
          have d1 : (2 : Int) < B := by omega
          clear hlt hB hb3
          go_wp2_with (first | (go_at_call_of 59 (Value.int IntKind.i64 4); refine (A4.out _ _ (by omega)).mono ?_; rintro e w1 ⟨rfl, hw1⟩; have hw1 := hw1.symm; subst hw1) | (go_at_call 59; (first | refine (A0.out _ _ (by omega)).mono ?_ | refine (A2.out _ _ (by omega)).mono ?_); rintro e w1 ⟨rfl, hw1⟩; have hw1 := hw1.symm; subst hw1))
          exact ⟨⟨k + 1, 1, z, 2, by go_num, by omega, rfl, rfl, by first | rfl | trivial, Lib.hid ⟨by omega, by omega⟩, H1⟩, by simp [intOf]; omega⟩
        · omega
      · rw [if_neg hlt] at h1
        have H1 := Lib.hid h1
        have HB1 : Hid (B = (b : Int) + 1 ∧ b ≤ 3) := Lib.hid ⟨hB, hb3⟩
        have d1 : ¬ ((r : Int) + 1 < B) := by omega
        clear h1 hlt hB hb3
        rcases hc with ⟨c1, c2, c3⟩ | ⟨c1, c2, c3, c4⟩ | ⟨c1, c2, c3, c4⟩ | ⟨c1, c2, c3⟩ | ⟨c1, c2, c3⟩
        · subst c3
          have d2 : ¬ (1 : Int) < B := by omega
          clear d1
          go_wp2_with (go_at_call 59; (first | refine (A0.out _ _ (by omega)).mono ?_ | refine (A2.out _ _ (by omega)).mono ?_); rintro e w1 ⟨rfl, hw1⟩; have hw1 := hw1.symm; subst hw1)
          exact ⟨⟨k + 1, b, f, B, by go_num, by omega, rfl, rfl, by first | rfl | trivial, HB1, H1⟩, by simp [intOf]; omega⟩
        · subst c4
          have d2 : ¬ (3 : Int) < B := by omega
          clear d1
          go_wp2_with (go_at_call 59; (first | refine (A0.out _ _ (by omega)).mono ?_ | refine (A2.out _ _ (by omega)).mono ?_); rintro e w1 ⟨rfl, hw1⟩; have hw1 := hw1.symm; subst hw1)
          exact ⟨⟨k + 1, b, f, B, by go_num, by omega, rfl, rfl, by first | rfl | trivial, HB1, H1⟩, by simp [intOf]; omega⟩
        · subst c4
          have d2 : ¬ (4 : Int) < B := by omega
          clear d1
          go_wp2_with (go_at_call 59; (first | refine (A0.out _ _ (by omega)).mono ?_ | refine (A2.out _ _ (by omega)).mono ?_); rintro e w1 ⟨rfl, hw1⟩; have hw1 := hw1.symm; subst hw1)
          exact ⟨⟨k + 1, b, f, B, by go_num, by omega, rfl, rfl, by first | rfl | trivial, HB1, H1⟩, by simp [intOf]; omega⟩
        · subst c3
          have d2 : ¬ (2 : Int) < B := by omega
          clear d1
          go_wp2_with (go_at_call 59; (first | refine (A0.out _ _ (by omega)).mono ?_ | refine (A2.out _ _ (by omega)).mono ?_); rintro e w1 ⟨rfl, hw1⟩; have hw1 := hw1.symm; subst hw1)
          exact ⟨⟨k + 1, b, f, B, by go_num, by omega, rfl, rfl, by first | rfl | trivial, HB1, H1⟩, by simp [intOf]; omega⟩
        · subst c3
          have d2 : ¬ (4 : Int) < B := by omega
          clear d1
          go_wp2_with (go_at_call 59; (first | refine (A0.out _ _ (by omega)).mono ?_ | refine (A2.out _ _ (by omega)).mono ?_); rintro e w1 ⟨rfl, hw1⟩; have hw1 := hw1.symm; subst hw1)
          exact ⟨⟨k + 1, b, f, B, by go_num, by omega, rfl, rfl, by first | rfl | trivial, HB1, H1⟩, by simp [intOf]; omega⟩
    · have hkn : n - k = 0 := by omega
      have h1 := H.out
      rw [hkn, partsL] at h1
      have h2 : b = bb ∧ f = ff := by simpa using h1
      obtain ⟨h2, h3⟩ := h2
      obtain ⟨hB, hb3⟩ := HB.out
      have ik : ¬ ((k : Int) < (n : Int)) := by omega
      have HF : Hid ((f : Int) = (ff : Int)) := Lib.hid (by rw [h3])
      by_cases hB4 : B < 4
      · have HQ1 : Hid (true = q) := Lib.hid (by rw [← HQ.out]; symm; rw [decide_eq_true_eq]; omega)
        clear h1 h2 h3 H HB hB hb3
        go_wp2
        go_ret2
        exact ⟨tupIB HF.out HQ1.out, rfl⟩
      · have HQ1 : Hid (false = q) := Lib.hid (by rw [← HQ.out]; symm; rw [decide_eq_false_iff_not]; omega)
        clear h1 h2 h3 H HB hB hb3
        go_wp2
        go_ret2
        exact ⟨tupIB HF.out HQ1.out, rfl⟩
end Go.Proofs.YteibjmlimcpaoaaGreatDoor.V
