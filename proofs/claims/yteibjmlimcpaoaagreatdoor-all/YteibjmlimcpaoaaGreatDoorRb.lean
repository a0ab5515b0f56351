/-
  The document's own side: what visorref.tagged, held and place answer.
  The document's own side: what visorref.counted answers, of ranges that lie in a row.
-/
import Derived.Test.YteibjmlimcpaoaaGreatDoorRa
import Derived.Test.YteibjmlimcpaoaaGreatDoorRe
import Derived.Test.YteibjmlimcpaoaaGreatDoorWb
import Derived.Test.YteibjmlimcpaoaaGreatDoorEa
import Derived.Test.YteibjmlimcpaoaaGreatDoorPa
set_option linter.unusedVariables false
set_option linter.unusedSimpArgs false
namespace Go.Proofs.YteibjmlimcpaoaaGreatDoor.V
open Go.RowKit Go.Sort
open Go.Proofs.YteibjmlimcpaoaaGreatDoor.W (at_below at_alloc new_at below_alloc cellsAt PolIs pv strV scells icells str_eq str_ne mk_inj)

theorem num2V (l : List UInt8) (hl : l.length ≤ 9223372036854775807) (w : World) (a : Nat) (A x : Int) (hA : A = (a : Int)) (ha : a + 2 ≤ l.length) (hx : ((num2 l a : Nat) : Int) = x) :
    Calls Tryz.prog 59 #[.string ⟨l.toArray⟩, .int .i64 A, .int .i64 2] w fun e w' => e = .returned (.int .i64 x) ∧ w' = w := by
  subst hA hx
  exact number2 l a w ha hl
theorem num4V (l : List UInt8) (hl : l.length ≤ 9223372036854775807) (w : World) (a : Nat) (A x : Int) (hA : A = (a : Int)) (ha : a + 4 ≤ l.length) (hx : ((num4 l a : Nat) : Int) = x) :
    Calls Tryz.prog 59 #[.string ⟨l.toArray⟩, .int .i64 A, .int .i64 4] w fun e w' => e = .returned (.int .i64 x) ∧ w' = w := by
  subst hA hx
  exact number4 l a w ha hl
theorem tupIB {a b : Int} {p q : Bool} (h1 : a = b) (h2 : p = q) : Ending.returned (.tuple #[.int .i64 a, .bool p]) = .returned (.tuple #[.int .i64 b, .bool q]) := by rw [h1, h2]
theorem endV {w w1 : World} {k : Nat} {cs : Array Value} {T : TypeId} (vs : List Value) (q : w1.heap[k]? = some (.cells cs T (0, 0))) (l : cs.toList.length = vs.length) (hk : w.heap.size ≤ k) (hb : Below w.heap.size w w1) :
    (setAll w1 k 0 vs).heap[k]? = some (.cells vs.toArray T (0, 0)) ∧ Below w.heap.size w (setAll w1 k 0 vs) := by
  obtain ⟨c1, e1, e2⟩ := setAll_row k T vs 0 w1 cs [] cs.toList [] q (by simp) rfl l
  have t1 : c1 = vs.toArray := by rw [← Array.toList_inj]; simpa using e2
  rw [t1] at e1
  exact ⟨e1, setAll_below hk _ _ _ _ hb⟩

set_option maxRecDepth 100000 in
set_option maxHeartbeats 1000000 in
theorem taggedV (P : Pol) (T I : Value) (s : List UInt8) (w : World) (hp : PolIs P T I w) (hn : P.tags.length ≤ 8) (q : Bool) (hq : P.tags.contains s = q) :
    Calls Tryz.prog 60 #[pv T I P.text, strV s] w fun e w' => e = .returned (.bool q) ∧ Below w.heap.size w w' := by
  have HR := Lib.hid hq
  clear hq
  obtain ⟨ta, tc, hTe, _⟩ := id hp.tags
  obtain ⟨ia, ic, hIe, _⟩ := id hp.ids
  subst hTe hIe
  obtain ⟨W, hW⟩ : ∃ W, w.alloc (.cells #[.slice ta P.tags.length tc, .slice ia P.ids.length ic, .int .i64 P.text] 25) = W := ⟨_, rfl⟩
  have hbW : Below w.heap.size w W := by rw [← hW]; exact below_alloc _ _
  have n0 : W.heap[w.heap.size]? = some (.cells #[.slice ta P.tags.length tc, .slice ia P.ids.length ic, .int .i64 P.text] 25 (0, 0)) := by rw [← hW]; exact new_at _ _
  have TG := Lib.hid (hp.tags.on hbW)
  have y0 := cellsAt n0 0
  simp only [List.getElem?_toArray, List.getElem?_cons_zero, List.getElem?_cons_succ] at y0
  unfold pv strV
  clear n0 hp
  go_enter Tryz.func60, Tryz.ntmps60
  go_wp2
  go_loopw [5] (fun is wr => ∃ (k : Nat), is = .int .i64 (k : Int) ∧ k ≤ P.tags.length ∧ wr = W ∧ Hid ((P.tags.drop k).contains s = q)) (fun is _ => P.tags.length - (intOf is).toNat)
  case atStart => exact ⟨0, rfl, Nat.zero_le _, rfl, HR⟩
  case round =>
    obtain ⟨k, rfl, hk, rfl, H⟩ := hrel
    by_cases hk1 : k < P.tags.length
    · obtain ⟨_, _, hao, ha⟩ := TG.out
      cases hao
      obtain ⟨g, o, rfl, hca⟩ := ha (by omega)
      have hx : P.tags[k]? = some P.tags[k] := List.getElem?_eq_getElem hk1
      have c1 := hca k (strV P.tags[k]) (by unfold scells; rw [List.getElem?_map, hx]; rfl)
      have h1 := H.out
      rw [List.drop_eq_getElem_cons hk1, List.contains_cons] at h1
      generalize P.tags[k] = x at *
      unfold strV at c1
      have ik : (k : Int) < (P.tags.length : Int) := by omega
      have ik0 : (0 : Int) ≤ (k : Int) := by omega
      clear hx hca ha H
      by_cases ht : ByteArray.mk x.toArray = ByteArray.mk s.toArray
      · have e1 : (s == x) = true := by rw [mk_inj ht]; simp
        rw [e1, Bool.true_or] at h1
        have H1 := Lib.hid h1
        have q' := str_eq ht
        generalize ByteArray.mk s.toArray = S at *
        generalize ByteArray.mk x.toArray = X at *
        clear h1 ht e1
        go_wp2
        go_ret
        exact ⟨ret_boolV H1.out, hbW⟩
      · have e1 : (s == x) = false := by simp; intro e; exact ht (by rw [e])
        rw [e1, Bool.false_or] at h1
        have H1 := Lib.hid h1
        have q' := str_ne ht
        generalize ByteArray.mk s.toArray = S at *
        generalize ByteArray.mk x.toArray = X at *
        clear h1 ht e1
        go_wp2
        exact ⟨⟨k + 1, by go_num, by omega, by first | rfl | trivial, H1⟩, by simp [intOf]; omega⟩
    · have h1 := H.out
      rw [List.drop_eq_nil_of_le (by omega)] at h1
      have H1 := Lib.hid h1
      have ik : ¬ ((k : Int) < (P.tags.length : Int)) := by omega
      clear h1 H
      go_wp2
      go_ret
      exact ⟨ret_boolV H1.out, hbW⟩

set_option maxRecDepth 100000 in
set_option maxHeartbeats 1000000 in
theorem heldV (P : Pol) (T I : Value) (l : List UInt8) (i : Nat) (w : World) (hp : PolIs P T I w) (hn : P.ids.length ≤ 8) (hi : 6 + 12 * i + 12 ≤ l.length) (hl : l.length ≤ 2000) (q : Bool) (hq : P.ids.contains ((num2 l (6 + 12 * i + 6) : Nat) : Int) = q) :
    Calls Tryz.prog 61 #[pv T I P.text, strV l, .int .i64 (i : Int)] w fun e w' => e = .returned (.bool q) ∧ Below w.heap.size w w' := by
  have HR := Lib.hid hq
  clear hq
  obtain ⟨ta, tc, hTe, _⟩ := id hp.tags
  obtain ⟨ia, ic, hIe, _⟩ := id hp.ids
  subst hTe hIe
  obtain ⟨W, hW⟩ : ∃ W, w.alloc (.cells #[.slice ta P.tags.length tc, .slice ia P.ids.length ic, .int .i64 P.text] 25) = W := ⟨_, rfl⟩
  have hbW : Below w.heap.size w W := by rw [← hW]; exact below_alloc _ _
  have n0 : W.heap[w.heap.size]? = some (.cells #[.slice ta P.tags.length tc, .slice ia P.ids.length ic, .int .i64 P.text] 25 (0, 0)) := by rw [← hW]; exact new_at _ _
  have TG := Lib.hid (hp.ids.on hbW)
  have y0 := cellsAt n0 1
  simp only [List.getElem?_toArray, List.getElem?_cons_zero, List.getElem?_cons_succ] at y0
  obtain ⟨s, hs⟩ : ∃ s : Int, ((num2 l (6 + 12 * i + 6) : Nat) : Int) = s := ⟨_, rfl⟩
  rw [hs] at HR
  have N := Lib.hid (fun (w : World) (A : Int) (hA : A = ((6 + 12 * i + 6 : Nat) : Int)) => num2V l (by omega) w (6 + 12 * i + 6) A s hA (by omega) hs)
  unfold pv strV
  clear n0 hp hs
  have hi2 : i ≤ 200 := by omega
  go_enter Tryz.func61, Tryz.ntmps61
  go_wp2_with (go_at_call 59; refine (N.out _ _ (by omega)).mono ?_; rintro e w1 ⟨rfl, hw1⟩; have hw1 := hw1.symm; subst hw1)
  go_loopw [8] (fun is wr => ∃ (k : Nat), is = .int .i64 (k : Int) ∧ k ≤ P.ids.length ∧ wr = W ∧ Hid ((P.ids.drop k).contains s = q)) (fun is _ => P.ids.length - (intOf is).toNat)
  case atStart => exact ⟨0, rfl, Nat.zero_le _, rfl, HR⟩
  case round =>
    obtain ⟨k, rfl, hk, rfl, H⟩ := hrel
    by_cases hk1 : k < P.ids.length
    · obtain ⟨_, _, hao, ha⟩ := TG.out
      cases hao
      obtain ⟨g, o, rfl, hca⟩ := ha (by omega)
      have hx : P.ids[k]? = some P.ids[k] := List.getElem?_eq_getElem hk1
      have c1 := hca k (.int .i64 P.ids[k]) (by unfold icells; rw [List.getElem?_map, hx]; rfl)
      have h1 := H.out
      rw [List.drop_eq_getElem_cons hk1, List.contains_cons] at h1
      generalize P.ids[k] = x at *
      have ik : (k : Int) < (P.ids.length : Int) := by omega
      have ik0 : (0 : Int) ≤ (k : Int) := by omega
      clear hx hca ha H
      by_cases ht : x = s
      · have e1 : (s == x) = true := by rw [ht]; simp
        rw [e1, Bool.true_or] at h1
        have H1 := Lib.hid h1
        clear h1 e1
        go_wp2
        go_ret
        exact ⟨ret_boolV H1.out, hbW⟩
      · have e1 : (s == x) = false := by simp; intro e; exact ht e.symm
        rw [e1, Bool.false_or] at h1
        have H1 := Lib.hid h1
        clear h1 e1
        go_wp2
        exact ⟨⟨k + 1, by go_num, by omega, by first | rfl | trivial, H1⟩, by simp [intOf]; omega⟩
    · have h1 := H.out
      rw [List.drop_eq_nil_of_le (by omega)] at h1
      have H1 := Lib.hid h1
      have ik : ¬ ((k : Int) < (P.ids.length : Int)) := by omega
      clear h1 H
      go_wp2
      go_ret
      exact ⟨ret_boolV H1.out, hbW⟩

set_option maxRecDepth 100000 in
set_option maxHeartbeats 1000000 in
theorem placeV (l : List UInt8) (i : Nat) (w : World) (hi : 6 + 12 * i + 12 ≤ l.length) (hl : l.length ≤ 2000) (f t : Nat) (hf : num2 l 4 + num2 l (6 + 12 * i + 10) = f) (ht : f + num2 l (6 + 12 * i + 8) = t) (q : Bool) (hq : decide (t ≤ l.length) = q) :
    Calls Tryz.prog 62 #[strV l, .int .i64 (i : Int)] w fun e w' => e = .returned (.agg #[.int .i64 (f : Int), .int .i64 (t : Int), .bool q]) ∧ Below w.heap.size w w' := by
  obtain ⟨x4, h4⟩ : ∃ x : Int, ((num2 l 4 : Nat) : Int) = x := ⟨_, rfl⟩
  obtain ⟨x10, h10⟩ : ∃ x : Int, ((num2 l (6 + 12 * i + 10) : Nat) : Int) = x := ⟨_, rfl⟩
  obtain ⟨x8, h8⟩ : ∃ x : Int, ((num2 l (6 + 12 * i + 8) : Nat) : Int) = x := ⟨_, rfl⟩
  have b4 := num2_lt l 4
  have b10 := num2_lt l (6 + 12 * i + 10)
  have b8 := num2_lt l (6 + 12 * i + 8)
  have N4 := Lib.hid (fun (w : World) (A : Int) (hA : A = ((4 : Nat) : Int)) => num2V l (by omega) w 4 A x4 hA (by omega) h4)
  have N10 := Lib.hid (fun (w : World) (A : Int) (hA : A = ((6 + 12 * i + 10 : Nat) : Int)) => num2V l (by omega) w (6 + 12 * i + 10) A x10 hA (by omega) h10)
  have N8 := Lib.hid (fun (w : World) (A : Int) (hA : A = ((6 + 12 * i + 8 : Nat) : Int)) => num2V l (by omega) w (6 + 12 * i + 8) A x8 hA (by omega) h8)
  have e1 : (f : Int) = x4 + x10 := by omega
  have e2 : (t : Int) = x4 + x10 + x8 := by omega
  have r4 : 0 ≤ x4 ∧ x4 < 65536 := by omega
  have r10 : 0 ≤ x10 ∧ x10 < 65536 := by omega
  have r8 : 0 ≤ x8 ∧ x8 < 65536 := by omega
  have hq' : decide (x4 + x10 + x8 ≤ (l.length : Int)) = q := by
    rw [← hq]
    rw [decide_eq_decide]
    omega
  rw [e1, e2]
  clear e1 e2 h4 h10 h8 b4 b10 b8 hf ht hq
  have hi2 : i ≤ 200 := by omega
  unfold strV
  go_enter Tryz.func62, Tryz.ntmps62
  go_wp2_with (go_at_call 59; (first | refine (N4.out _ _ (by omega)).mono ?_ | refine (N10.out _ _ (by omega)).mono ?_ | refine (N8.out _ _ (by omega)).mono ?_); rintro e w1 ⟨rfl, hw1⟩; have hw1 := hw1.symm; subst hw1)
  have v0 := cellsAt (new_at w (.cells #[.int .i64 (x4 + x10), .int .i64 (x4 + x10 + x8), .bool q] 118)) 0
  have v1 := cellsAt (new_at w (.cells #[.int .i64 (x4 + x10), .int .i64 (x4 + x10 + x8), .bool q] 118)) 1
  have v2 := cellsAt (new_at w (.cells #[.int .i64 (x4 + x10), .int .i64 (x4 + x10 + x8), .bool q] 118)) 2
  simp only [List.getElem?_toArray, List.getElem?_cons_zero, List.getElem?_cons_succ] at v0 v1 v2
  exact bodyPost_ret (v := .agg #[.int .i64 (x4 + x10), .int .i64 (x4 + x10 + x8), .bool q]) (by simp [results, Tryz.results62, go_sem, v0, v1, v2]) rfl ⟨rfl, below_alloc _ _⟩
end Go.Proofs.YteibjmlimcpaoaaGreatDoor.V

set_option linter.unusedVariables false
set_option linter.unusedSimpArgs false
namespace Go.Proofs.YteibjmlimcpaoaaGreatDoor.V
open Go.RowKit Go.Sort
open Go.Proofs.YteibjmlimcpaoaaGreatDoor.W (at_below at_alloc new_at below_alloc cellsAt strV RowIs)

def spcells : List (Nat × Nat) → List Value
  | [] => []
  | x :: r => .int .i64 (x.1 : Int) :: .int .i64 (x.2 : Int) :: spcells r
theorem spcells_at : ∀ (l : List (Nat × Nat)) (k : Nat) (x : Nat × Nat), l[k]? = some x → (spcells l)[k * 2]? = some (.int .i64 (x.1 : Int)) ∧ (spcells l)[k * 2 + 1]? = some (.int .i64 (x.2 : Int))
  | [], k, t, h => by simp at h
  | x :: l, 0, t, h => by
    simp at h
    subst h
    exact ⟨rfl, rfl⟩
  | x :: l, k + 1, t, h => by
    have := spcells_at l k t (by simpa using h)
    rw [show (k + 1) * 2 = k * 2 + 2 by omega]
    exact this
theorem spcells_append (a b : List (Nat × Nat)) : spcells (a ++ b) = spcells a ++ spcells b := by
  induction a with
  | nil => rfl
  | cons x a ih => simp [spcells, ih]
theorem below_draws {B : Nat} {a w : World} (h : Below B a w) : ∀ q, Below B a (w.drewN q)
  | 0 => h
  | q + 1 => (below_draws h q).drew

set_option maxRecDepth 100000 in
set_option maxHeartbeats 2000000 in
theorem countedV (L : List (Nat × Nat)) (v : Value) (w : World) (hv : RowIs w v L.length (spcells L)) (hlen : L.length ≤ 100000) (hb : ∀ x ∈ L, x.1 < 4294967296 ∧ x.2 < 4294967296) (c : Int) (q : Bool)
    (hq : (match rangesL L 0 (-1) with | none => ((0 : Int), false) | some (n, _) => ((n : Int), true)) = (c, q)) :
    Calls Tryz.prog 88 #[v] w fun e w' => e = .returned (.tuple #[.int .i64 c, .bool q]) ∧ Below w.heap.size w w' := by
  have HV := Lib.hid hv
  obtain ⟨ao, cap, rfl, _⟩ := hv
  have HQ := Lib.hid hq
  have HB := Lib.hid hb
  clear hq hb
  go_enter Tryz.func88, Tryz.ntmps88
  go_wp2
  go_loopw [4, 5, 6] (fun ns es is wr => ∃ (k n : Nat) (E : Int), is = .int .i64 (k : Int) ∧ k ≤ L.length ∧ ns = .int .i64 (n : Int) ∧ es = .int .i64 E ∧ -1 ≤ E ∧ E < 4294967296 ∧ (n : Int) ≤ E + 1 ∧ Below w.heap.size w wr ∧ Hid ((match rangesL (L.drop k) n E with | none => ((0 : Int), false) | some (n, _) => ((n : Int), true)) = (c, q))) (fun _ _ is _ => L.length - (intOf is).toNat)
  case atStart => exact ⟨0, 0, -1, rfl, by omega, rfl, rfl, by omega, by omega, by omega, Below.refl _ _, HQ⟩
  case round =>
    obtain ⟨k, n, E, rfl, hk, rfl, rfl, e1, e2, e3, hbw, H⟩ := hrel
    by_cases hk1 : k < L.length
    · obtain ⟨x, hx⟩ : ∃ x, L[k]? = some x := ⟨_, List.getElem?_eq_getElem hk1⟩
      obtain ⟨_, _, hao, ha⟩ := HV.out.on hbw
      cases hao
      obtain ⟨g, o, rfl, hca⟩ := ha (by omega)
      obtain ⟨t0, t1⟩ := spcells_at L k x hx
      have c0 := hca _ _ t0
      have c1 := hca _ _ t1
      rw [← Nat.add_assoc] at c1
      have hbx := HB.out x (List.mem_of_getElem? hx)
      have hdr : L.drop k = x :: L.drop (k + 1) := by
        rw [List.drop_eq_getElem_cons hk1]
        congr 1
        exact Option.some.inj ((List.getElem?_eq_getElem hk1).symm.trans hx)
      have h1 := H.out
      rw [hdr, rangesL] at h1
      obtain ⟨a, b⟩ := x
      simp only at h1 c0 c1 hbx
      clear hx hca ha t0 t1 hdr H
      have ik : (k : Int) < (L.length : Int) := by omega
      have ik0 : (0 : Int) ≤ (k : Int) := by omega
      by_cases hc1 : b < a
      · rw [if_pos (.inl hc1)] at h1
        have H1 := Lib.hid h1
        have d1 : decide ((b : Int) < (a : Int)) = true := decide_eq_true (by omega)
        clear h1
        go_wp2_with fail
        go_quiet (fail)
        go_wp2
        go_ret2
        have h2 := H1.out
        simp only [Prod.mk.injEq] at h2
        exact ⟨tupIB h2.1 h2.2, below_draws hbw nq⟩
      · by_cases hc2 : (a : Int) ≤ E
        · rw [if_pos (.inr hc2)] at h1
          have H1 := Lib.hid h1
          have d1 : decide ((b : Int) < (a : Int)) = false := decide_eq_false (by omega)
          have d2 : decide ((a : Int) ≤ E) = true := decide_eq_true hc2
          clear h1
          go_wp2_with fail
          go_quiet (fail)
          go_wp2
          go_ret2
          have h2 := H1.out
          simp only [Prod.mk.injEq] at h2
          exact ⟨tupIB h2.1 h2.2, below_draws hbw nq⟩
        · rw [if_neg (by omega)] at h1
          have H1 := Lib.hid h1
          have d1 : decide ((b : Int) < (a : Int)) = false := decide_eq_false (by omega)
          have d2 : decide ((a : Int) ≤ E) = false := decide_eq_false hc2
          clear h1
          go_wp2_with fail
          go_quiet (fail)
          go_wp2
          exact ⟨⟨k + 1, n + (b - a + 1), (b : Int), by go_num, by omega, val_int (by omega), rfl, by omega, by omega, by omega, below_draws hbw nq, H1⟩, by simp [intOf]; omega⟩
    · have h1 := H.out
      rw [List.drop_eq_nil_of_le (by omega), rangesL] at h1
      have H1 := Lib.hid h1
      have ik : ¬ ((k : Int) < (L.length : Int)) := by omega
      clear h1 H
      go_wp2
      go_ret2
      have h2 := H1.out
      simp only [Prod.mk.injEq] at h2
      exact ⟨tupIB h2.1 h2.2, hbw⟩
end Go.Proofs.YteibjmlimcpaoaaGreatDoor.V
