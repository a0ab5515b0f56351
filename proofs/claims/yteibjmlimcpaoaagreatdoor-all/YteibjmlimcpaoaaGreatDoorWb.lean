/-
  What package look's policy, refusal and the library's Contains and ContainsFunc answer: as the plain program says; nothing that lay in memory turns.
  What package look's kindOf answers: the kind that the first four bytes tell.
  What the library's Contains answers of a policy's lists, and package look's policy and refusal: as the plain program says; nothing that lay in memory turns.
  What package look's policy and refusal answer: as the plain program says; nothing that lay in memory turns.
  What package look's countRecords and head answer: as the plain program says; nothing but the meter turns.
  What package look's head answers: as the plain program says; nothing but the meter turns.
-/
import Derived.Test.YteibjmlimcpaoaaGreatDoorWa
import Derived.Deep.QuietTactic
import Derived.Lib.QuietBelow
import Derived.Deep.DeepCutAuto
import Derived.Deep.CutBlock
set_option linter.unusedVariables false
set_option linter.unusedSimpArgs false
namespace Go.Proofs.YteibjmlimcpaoaaGreatDoor.W
open Go.RowKit Go.Sort

/-- a slice of n elements whose cells are xs, wherever it lies -/
def RowIs (w : World) (v : Value) (n : Nat) (xs : List Value) : Prop :=
  ∃ ao cap, v = .slice ao n cap ∧ (0 < n → ∃ g o, ao = some ⟨g, o, none⟩ ∧ ∀ (j : Nat) (u : Value), xs[j]? = some u → w.cell? ⟨g, o + j, none⟩ = some u)
theorem cell_lt {w : World} {g o : Nat} {u : Value} (h : w.cell? ⟨g, o, none⟩ = some u) : g < w.heap.size := by
  rcases Nat.lt_or_ge g w.heap.size with h' | h'
  · exact h'
  · simp [World.cell?, Array.getElem?_eq_none h'] at h
theorem RowIs.on {w w' : World} {v : Value} {n : Nat} {xs : List Value} (h : RowIs w v n xs) (hb : Below w.heap.size w w') : RowIs w' v n xs := by
  obtain ⟨ao, cap, rfl, hc⟩ := h
  refine ⟨ao, cap, rfl, fun hn => ?_⟩
  obtain ⟨g, o, rfl, hcell⟩ := hc hn
  refine ⟨g, o, rfl, fun j u hj => ?_⟩
  have := hcell j u hj
  rw [hb.cell (p := ⟨g, o + j, none⟩) (cell_lt this)]
  exact this

def strV (l : List UInt8) : Value := .string ⟨l.toArray⟩
def scells (l : List (List UInt8)) : List Value := l.map strV
def icells (l : List Int) : List Value := l.map (Value.int .i64)

theorem conv_bytes (w : World) (t : List UInt8) : ∃ cap w2, (convert 9 143 (.string ⟨t.toArray⟩)).run Tryz.prog w = .ok (.slice (some ⟨w.heap.size, 0, none⟩) t.length cap) w2 ∧ Below w.heap.size w w2 ∧ ∀ (j : Nat) (a : UInt8), t[j]? = some a → w2.cell? ⟨w.heap.size, j, none⟩ = some (.int .u8 (a.toNat : Nat)) := by
  have h := run_bytes_of_string (P := Tryz.prog) w 9 143 5 ⟨t.toArray⟩ Tryz.underlying9 Tryz.underlying143 Tryz.underlying5
  have hz : (ByteArray.mk t.toArray).size = t.length := by show Array.size _ = _; simp
  refine ⟨_, _, by rw [h, hz], (Below.refl _ _).drew.alloc (Nat.le_refl _) _, ?_⟩
  intro j a hj
  have hlt : j < t.length := (List.getElem?_eq_some_iff.1 hj).1
  have he : t[j] = a := Option.some.inj ((List.getElem?_eq_getElem hlt).symm.trans hj)
  have hc := cellsAt (new_at w.drew (.cells (bytesRow ⟨t.toArray⟩ (grownCap w t.length 0 5)) 5 ((bytesRow ⟨t.toArray⟩ (grownCap w t.length 0 5)).size, (bytesRow ⟨t.toArray⟩ (grownCap w t.length 0 5)).size + 1))) j
  have hd : (w.drew.heap.size) = w.heap.size := rfl
  rw [hd] at hc
  rw [hc, bytesRow_at _ _ _ (by simpa using hlt)]
  simp [he]

set_option maxRecDepth 100000 in
set_option maxHeartbeats 1000000 in
theorem noTagW (t : List UInt8) (w : World) (ht : t.length ≤ 9223372036854775807) :
    Calls Tryz.prog 116 #[strV t] w fun e w' => e = .returned (.bool (!tagB t)) ∧ Below w.heap.size w w' := by
  have hz : (ByteArray.mk t.toArray).size = t.length := by show Array.size _ = _; simp
  unfold strV tagB
  by_cases c : t.length = 4
  · obtain ⟨cap, w2, hcv, hb, hcell⟩ := conv_bytes w t
    have c4 : decide (t.length = 4) = true := decide_eq_true c
    rw [c4, Bool.true_and]
    obtain ⟨r, hr⟩ : ∃ r, (t.all fun c => decide (32 ≤ c.toNat ∧ c.toNat ≤ 126)) = r := ⟨_, rfl⟩
    rw [hr]
    have HR := Lib.hid hr
    clear hr
    rw [c] at hcv
    have z4 : ((ByteArray.mk t.toArray).size : Int) = 4 := by rw [hz, c]; rfl
    generalize ByteArray.mk t.toArray = S at *
    clear hz c4
    have HC := Lib.hid hcell
    clear hcell
    go_enter Tryz.func116, Tryz.ntmps116
    go_wp2
    go_loopw [11] (fun is wr => ∃ (k : Nat), is = .int .i64 (k : Int) ∧ k ≤ 4 ∧ wr = w2 ∧ Hid (r = ((t.drop k).all fun c => decide (32 ≤ c.toNat ∧ c.toNat ≤ 126)))) (fun is _ => 4 - (intOf is).toNat)
    case atStart => exact ⟨0, rfl, by omega, rfl, HR.out.symm⟩
    case round =>
      obtain ⟨k, rfl, hk, rfl, H⟩ := hrel
      by_cases hlt : k < 4
      · have hx : t[k]? = some t[k] := List.getElem?_eq_getElem (by omega)
        have c0 := HC.out k _ hx
        have h1 := H.out
        rw [List.drop_eq_getElem_cons (by omega), List.all_cons] at h1
        have hal := t[k].toNat_lt
        have ik : (k : Int) < 4 := by omega
        generalize t[k] = x at *
        obtain ⟨y, hy⟩ : ∃ y : Nat, x.toNat = y := ⟨_, rfl⟩
        rw [hy] at c0 hal h1
        clear hx hy
        by_cases g1 : (y : Int) < 32
        · have h2 : decide (32 ≤ y ∧ y ≤ 126) = false := decide_eq_false (by omega)
          rw [h2, Bool.false_and] at h1
          subst h1
          clear H h2 HR
          go_wp2
          go_ret
          exact ⟨rfl, hb⟩
        · by_cases g2 : (126 : Int) < (y : Int)
          · have h2 : decide (32 ≤ y ∧ y ≤ 126) = false := decide_eq_false (by omega)
            rw [h2, Bool.false_and] at h1
            subst h1
            clear H h2 HR
            go_wp2
            go_ret
            exact ⟨rfl, hb⟩
          · have h2 : decide (32 ≤ y ∧ y ≤ 126) = true := decide_eq_true (by omega)
            rw [h2, Bool.true_and] at h1
            have H1 := Lib.hid h1
            clear h1 H h2
            go_wp2
            refine ⟨⟨k + 1, by go_num, by omega, by first | rfl | trivial, H1⟩, by simp [intOf]; omega⟩
      · have h1 := H.out
        rw [List.drop_eq_nil_of_le (by omega)] at h1
        have ik : ¬ ((k : Int) < 4) := by omega
        subst h1
        clear H HR
        go_wp2
        go_ret
        exact ⟨rfl, hb⟩
  · have c4 : decide (t.length = 4) = false := decide_eq_false c
    rw [c4, Bool.false_and]
    have z4 : ¬ (((ByteArray.mk t.toArray).size : Int) = 4) := by rw [hz]; omega
    generalize ByteArray.mk t.toArray = S at *
    clear hz c4
    go_enter Tryz.func116, Tryz.ntmps116
    go_wp2
    go_ret
    exact ⟨rfl, Below.refl _ _⟩

set_option maxRecDepth 100000 in
set_option maxHeartbeats 1000000 in
theorem noIdW (i : Int) (w : World) :
    Calls Tryz.prog 118 #[.int .i64 i] w fun e w' => e = .returned (.bool (!idB i)) ∧ w' = w := by
  unfold idB
  by_cases g1 : i < 0
  · rw [show decide (0 ≤ i ∧ i ≤ 65535) = false from decide_eq_false (by omega)]
    go_enter Tryz.func118, Tryz.ntmps118
    go_wp2
    go_ret
    exact ⟨rfl, rfl⟩
  · rw [show (!decide (0 ≤ i ∧ i ≤ 65535)) = decide (65535 < i) by rw [← decide_not]; exact decide_eq_decide.2 (by omega)]
    go_enter Tryz.func118, Tryz.ntmps118
    go_wp2
    go_ret
    exact ⟨rfl, rfl⟩

/-- a policy's lists, wherever they lie -/
structure PolIs (P : Pol) (T I : Value) (w : World) : Prop where
  tags : RowIs w T P.tags.length (scells P.tags)
  ids : RowIs w I P.ids.length (icells P.ids)
  nt : P.tags.length ≤ 9223372036854775807
  ni : P.ids.length ≤ 9223372036854775807
  ts : ∀ t ∈ P.tags, t.length ≤ 9223372036854775807
theorem PolIs.on {P : Pol} {T I : Value} {w w' : World} (h : PolIs P T I w) (hb : Below w.heap.size w w') : PolIs P T I w' := ⟨h.tags.on hb, h.ids.on hb, h.nt, h.ni, h.ts⟩
def pv (T I : Value) (x : Int) : Value := .agg #[T, I, .int .i64 x]

set_option maxRecDepth 100000 in
set_option maxHeartbeats 1000000 in
theorem idxTagW (ts : List (List UInt8)) (v : Value) (w : World) (hn : ts.length ≤ 8) (hts : ∀ t ∈ ts, t.length ≤ 9223372036854775807) (h : RowIs w v ts.length (scells ts)) :
    Calls Tryz.prog 136 #[v, .func (.func 116) #[] #[]] w fun e w' => ∃ i : Int, e = .returned (.int .i64 i) ∧ decide (0 ≤ i) = !ts.all tagB ∧ Below w.heap.size w w' := by
  obtain ⟨ao, cap, rfl, hc⟩ := h
  have HT := Lib.hid (And.intro hts hc)
  clear hts hc
  go_enter Tryz.func136, Tryz.ntmps136
  go_wp2
  go_loopw [8] (fun is wr => ∃ (k : Nat), is = .int .i64 (k : Int) ∧ k ≤ ts.length ∧ Below w.heap.size w wr ∧ Hid (ts.all tagB = (ts.drop k).all tagB)) (fun is _ => ts.length - (intOf is).toNat)
  case atStart => exact ⟨0, rfl, by omega, Below.refl _ _, rfl⟩
  case round =>
    obtain ⟨k, rfl, hk, hbw, H⟩ := hrel
    by_cases hlt : k < ts.length
    · obtain ⟨g, o, rfl, hcell⟩ := HT.out.2 (by omega)
      have hx : ts[k]? = some ts[k] := List.getElem?_eq_getElem hlt
      have hm : ts[k] ∈ ts := List.getElem_mem hlt
      have c0 := hcell k (strV ts[k]) (by unfold scells; rw [List.getElem?_map, hx]; rfl)
      have hg := cell_lt c0
      have c1 : wr.cell? ⟨g, o + k, none⟩ = some (strV ts[k]) := by rw [hbw.cell (p := ⟨g, o + k, none⟩) hg]; exact c0
      have h1 := H.out
      rw [List.drop_eq_getElem_cons hlt, List.all_cons] at h1
      have A := Lib.hid (noTagW ts[k] wr (HT.out.1 _ hm))
      generalize ts[k] = x at *
      unfold strV at c1 A
      have ik : (k : Int) < (ts.length : Int) := by omega
      have ik0 : (0 : Int) ≤ (k : Int) := by omega
      clear hx hm hcell c0 H
      cases ht : tagB x with
      | false =>
        rw [ht] at A h1
        rw [Bool.false_and] at h1
        have H1 := Lib.hid h1
        simp only [Bool.not_false] at A
        clear h1 ht
        go_wp2_with (go_at_call 116; refine A.out.mono ?_; rintro e w1 ⟨rfl, hb1⟩)
        go_ret
        exact ⟨_, rfl, by rw [H1.out]; simp, hbw.trans (hb1.mono hbw.size)⟩
      | true =>
        rw [ht] at A h1
        rw [Bool.true_and] at h1
        have H1 := Lib.hid h1
        simp only [Bool.not_true] at A
        clear h1 ht
        go_wp2_with (go_at_call 116; refine A.out.mono ?_; rintro e w1 ⟨rfl, hb1⟩)
        exact ⟨⟨k + 1, by go_num, by omega, hbw.trans (hb1.mono hbw.size), H1⟩, by simp [intOf]; omega⟩
    · have h1 := H.out
      rw [List.drop_eq_nil_of_le (by omega)] at h1
      have H1 := Lib.hid h1
      have ik : ¬ ((k : Int) < (ts.length : Int)) := by omega
      clear h1 H
      go_wp2
      go_ret
      exact ⟨_, rfl, by rw [H1.out]; rfl, hbw⟩

set_option maxRecDepth 100000 in
set_option maxHeartbeats 1000000 in
theorem anyTagW (ts : List (List UInt8)) (v : Value) (w : World) (hn : ts.length ≤ 8) (hts : ∀ t ∈ ts, t.length ≤ 9223372036854775807) (h : RowIs w v ts.length (scells ts)) :
    Calls Tryz.prog 115 #[v, .func (.func 116) #[] #[]] w fun e w' => e = .returned (.bool (!ts.all tagB)) ∧ Below w.heap.size w w' := by
  have A := Lib.hid (idxTagW ts v w hn hts h)
  obtain ⟨ao, cap, rfl, _⟩ := h
  clear hts
  go_enter Tryz.func115, Tryz.ntmps115
  go_wp2_with (go_at_call 136; refine A.out.mono ?_; rintro e w1 ⟨i, rfl, hi, hb1⟩; replace hi := Lib.hid hi)
  go_ret
  exact ⟨by rw [← hi.out]; rfl, hb1⟩

set_option maxRecDepth 100000 in
set_option maxHeartbeats 1000000 in
theorem idxIdW (ids : List Int) (v : Value) (w : World) (hn : ids.length ≤ 8) (h : RowIs w v ids.length (icells ids)) :
    Calls Tryz.prog 137 #[v, .func (.func 118) #[] #[]] w fun e w' => ∃ i : Int, e = .returned (.int .i64 i) ∧ decide (0 ≤ i) = !ids.all idB ∧ w' = w := by
  obtain ⟨ao, cap, rfl, hc⟩ := h
  have HT := Lib.hid hc
  clear hc
  go_enter Tryz.func137, Tryz.ntmps137
  go_wp2
  go_loopw [8] (fun is wr => ∃ (k : Nat), is = .int .i64 (k : Int) ∧ k ≤ ids.length ∧ wr = w ∧ Hid (ids.all idB = (ids.drop k).all idB)) (fun is _ => ids.length - (intOf is).toNat)
  case atStart => exact ⟨0, rfl, by omega, rfl, rfl⟩
  case round =>
    obtain ⟨k, rfl, hk, rfl, H⟩ := hrel
    by_cases hlt : k < ids.length
    · obtain ⟨g, o, rfl, hcell⟩ := HT.out (by omega)
      have hx : ids[k]? = some ids[k] := List.getElem?_eq_getElem hlt
      have c1 := hcell k (.int .i64 ids[k]) (by unfold icells; rw [List.getElem?_map, hx]; rfl)
      have h1 := H.out
      rw [List.drop_eq_getElem_cons hlt, List.all_cons] at h1
      have A := Lib.hid (fun w => noIdW ids[k] w)
      generalize ids[k] = x at *
      have ik : (k : Int) < (ids.length : Int) := by omega
      have ik0 : (0 : Int) ≤ (k : Int) := by omega
      clear hx hcell H
      cases ht : idB x with
      | false =>
        rw [ht] at A h1
        rw [Bool.false_and] at h1
        have H1 := Lib.hid h1
        simp only [Bool.not_false] at A
        clear h1 ht
        go_wp2_with (go_at_call 118; refine (A.out _).mono ?_; rintro e w1 ⟨rfl, rfl⟩)
        go_ret
        exact ⟨_, rfl, by rw [H1.out]; simp, rfl⟩
      | true =>
        rw [ht] at A h1
        rw [Bool.true_and] at h1
        have H1 := Lib.hid h1
        simp only [Bool.not_true] at A
        clear h1 ht
        go_wp2_with (go_at_call 118; refine (A.out _).mono ?_; rintro e w1 ⟨rfl, rfl⟩)
        exact ⟨⟨k + 1, by go_num, by omega, by first | rfl | trivial, H1⟩, by simp [intOf]; omega⟩
    · have h1 := H.out
      rw [List.drop_eq_nil_of_le (by omega)] at h1
      have H1 := Lib.hid h1
      have ik : ¬ ((k : Int) < (ids.length : Int)) := by omega
      clear h1 H
      go_wp2
      go_ret
      exact ⟨_, rfl, by rw [H1.out]; rfl, rfl⟩

set_option maxRecDepth 100000 in
set_option maxHeartbeats 1000000 in
theorem anyIdW (ids : List Int) (v : Value) (w : World) (hn : ids.length ≤ 8) (h : RowIs w v ids.length (icells ids)) :
    Calls Tryz.prog 117 #[v, .func (.func 118) #[] #[]] w fun e w' => e = .returned (.bool (!ids.all idB)) ∧ w' = w := by
  have A := Lib.hid (idxIdW ids v w hn h)
  obtain ⟨ao, cap, rfl, _⟩ := h
  go_enter Tryz.func117, Tryz.ntmps117
  go_wp2_with (go_at_call 137; refine A.out.mono ?_; rintro e w1 ⟨i, rfl, hi, rfl⟩; replace hi := Lib.hid hi)
  go_ret
  exact ⟨by rw [← hi.out]; rfl, rfl⟩
end Go.Proofs.YteibjmlimcpaoaaGreatDoor.W

set_option linter.unusedVariables false
set_option linter.unusedSimpArgs false
namespace Go.Proofs.YteibjmlimcpaoaaGreatDoor.W
open Go.RowKit Go.Sort

def op0 : ByteArray := ⟨#[]⟩
def op1 : ByteArray := ⟨#[0, 1, 0, 0]⟩
def op2 : ByteArray := ⟨#[116, 114, 117, 101]⟩
def op3 : ByteArray := ⟨#[79, 84, 84, 79]⟩
def op4 : ByteArray := ⟨#[116, 116, 99, 102]⟩
def op5 : ByteArray := ⟨#[119, 79, 70, 70]⟩
def op6 : ByteArray := ⟨#[119, 79, 70, 50]⟩
/-- the three tables of package look, as their initialisers lay them -/
structure Gl (w : World) : Prop where
  o0 : w.cell? ⟨1, 0, none⟩ = some (.string op0)
  o1 : w.cell? ⟨1, 1, none⟩ = some (.string op0)
  o2 : w.cell? ⟨1, 2, none⟩ = some (.string op0)
  o3 : w.cell? ⟨1, 3, none⟩ = some (.string op1)
  o4 : w.cell? ⟨1, 4, none⟩ = some (.string op2)
  o5 : w.cell? ⟨1, 5, none⟩ = some (.string op0)
  o6 : w.cell? ⟨1, 6, none⟩ = some (.string op3)
  o7 : w.cell? ⟨1, 7, none⟩ = some (.string op0)
  o8 : w.cell? ⟨1, 8, none⟩ = some (.string op0)
  o9 : w.cell? ⟨1, 9, none⟩ = some (.string op4)
  o10 : w.cell? ⟨1, 10, none⟩ = some (.string op5)
  o11 : w.cell? ⟨1, 11, none⟩ = some (.string op6)
  h0 : w.cell? ⟨0, 0, none⟩ = some (.bool false)
  h1 : w.cell? ⟨0, 1, none⟩ = some (.bool true)
  h2 : w.cell? ⟨0, 2, none⟩ = some (.bool true)
  h3 : w.cell? ⟨0, 3, none⟩ = some (.bool false)
  k0 : w.cell? ⟨2, 0, none⟩ = some (.bool true)
  k1 : w.cell? ⟨2, 1, none⟩ = some (.bool false)
  k2 : w.cell? ⟨2, 2, none⟩ = some (.bool false)
  k3 : w.cell? ⟨2, 3, none⟩ = some (.bool false)
  k4 : w.cell? ⟨2, 4, none⟩ = some (.bool true)
theorem Gl.on {w w' : World} (h : Gl w) (hb : Below w.heap.size w w') : Gl w' := by
  have q : ∀ {g o : Nat} {u : Value}, w.cell? ⟨g, o, none⟩ = some u → w'.cell? ⟨g, o, none⟩ = some u := fun {g o u} x => (hb.cell (p := ⟨g, o, none⟩) (cell_lt x)).trans x
  exact ⟨q h.o0, q h.o1, q h.o2, q h.o3, q h.o4, q h.o5, q h.o6, q h.o7, q h.o8, q h.o9, q h.o10, q h.o11, q h.h0, q h.h1, q h.h2, q h.h3, q h.k0, q h.k1, q h.k2, q h.k3, q h.k4⟩

def opsL : List ByteArray := [op0, op0, op0, op1, op2, op0, op3, op0, op0, op4, op5, op6]
theorem str_eq {a b : ByteArray} (h : a = b) : (a.toList == b.toList) = true := by rw [h]; simp
theorem str_ne {a b : ByteArray} (h : ¬ a = b) : (a.toList == b.toList) = false := by
  rw [ByteArray.toList_eq, ByteArray.toList_eq, beq_eq_false_iff_ne]
  intro e
  exact h (ByteArray.ext (Array.toList_inj.1 e))
theorem kind_hit (S : ByteArray) (i : Nat) (h : opsL[i]? = some S) (hn : ∀ x ∈ opsL.take i, x ≠ S) : kindOf S.data.toList = i / 3 := by
  have hi : i < 12 := by
    have := (List.getElem?_eq_some_iff.1 h).1
    simpa [opsL] using this
  have c : i = 0 ∨ i = 1 ∨ i = 2 ∨ i = 3 ∨ i = 4 ∨ i = 5 ∨ i = 6 ∨ i = 7 ∨ i = 8 ∨ i = 9 ∨ i = 10 ∨ i = 11 := by omega
  rcases c with rfl | rfl | rfl | rfl | rfl | rfl | rfl | rfl | rfl | rfl | rfl | rfl
  all_goals (have e := Option.some.inj h; first | (rw [← e]; rfl) | exact absurd e (hn _ (by simp [opsL])))
theorem kind_miss (S : ByteArray) (hn : ∀ x ∈ opsL, x ≠ S) : kindOf S.data.toList = 0 := by
  have q : ∀ x ∈ opsL, S.data.toList ≠ x.data.toList := by
    intro x hx e
    refine hn x hx ?_
    apply ByteArray.ext
    exact Array.toList_inj.1 e.symm
  have e1 := q op1 (by simp [opsL])
  have e2 := q op2 (by simp [opsL])
  have e3 := q op3 (by simp [opsL])
  have e4 := q op4 (by simp [opsL])
  have e5 := q op5 (by simp [opsL])
  have e6 := q op6 (by simp [opsL])
  simp only [op1, op2, op3, op4, op5, op6] at e1 e2 e3 e4 e5 e6
  unfold kindOf
  rw [if_neg (by rintro (h | h); exact e1 h; exact e2 h), if_neg e3, if_neg (by rintro (h | h | h); exact e4 h; exact e5 h; exact e6 h)]
theorem take_next {S : ByteArray} {i : Nat} {x : ByteArray} (h : ∀ y ∈ opsL.take i, y ≠ S) (hx : opsL[i]? = some x) (hne : x ≠ S) : ∀ y ∈ opsL.take (i + 1), y ≠ S := by
  intro y hy
  rw [List.take_add_one, List.mem_append, hx] at hy
  rcases hy with hy | hy
  · exact h y hy
  · simp at hy
    rw [hy]
    exact hne

theorem idxA0 (W : World) : (Instr.index 193 (.agg #[.string op0, .string op0, .string op0, .string op1, .string op2, .string op0, .string op3, .string op0, .string op0, .string op4, .string op5, .string op6]) (.int .i64 0)).run Tryz.prog W = .ok (.agg #[.string op0, .string op0, .string op0]) W := by kernel_rfl
theorem idxA1 (W : World) : (Instr.index 193 (.agg #[.string op0, .string op0, .string op0, .string op1, .string op2, .string op0, .string op3, .string op0, .string op0, .string op4, .string op5, .string op6]) (.int .i64 1)).run Tryz.prog W = .ok (.agg #[.string op1, .string op2, .string op0]) W := by kernel_rfl
theorem idxA2 (W : World) : (Instr.index 193 (.agg #[.string op0, .string op0, .string op0, .string op1, .string op2, .string op0, .string op3, .string op0, .string op0, .string op4, .string op5, .string op6]) (.int .i64 2)).run Tryz.prog W = .ok (.agg #[.string op3, .string op0, .string op0]) W := by kernel_rfl
theorem idxA3 (W : World) : (Instr.index 193 (.agg #[.string op0, .string op0, .string op0, .string op1, .string op2, .string op0, .string op3, .string op0, .string op0, .string op4, .string op5, .string op6]) (.int .i64 3)).run Tryz.prog W = .ok (.agg #[.string op4, .string op5, .string op6]) W := by kernel_rfl
theorem idxB0 (a b c : ByteArray) (W : World) : (Instr.index 192 (.agg #[.string a, .string b, .string c]) (.int .i64 0)).run Tryz.prog W = .ok (.string a) W := by kernel_rfl
theorem idxB1 (a b c : ByteArray) (W : World) : (Instr.index 192 (.agg #[.string a, .string b, .string c]) (.int .i64 1)).run Tryz.prog W = .ok (.string b) W := by kernel_rfl
theorem idxB2 (a b c : ByteArray) (W : World) : (Instr.index 192 (.agg #[.string a, .string b, .string c]) (.int .i64 2)).run Tryz.prog W = .ok (.string c) W := by kernel_rfl

set_option maxRecDepth 100000 in
set_option maxHeartbeats 4000000 in
theorem kindW (S : ByteArray) (w : World) (h : Gl w) (r : Nat) (hr : kindOf S.data.toList = r) :
    Calls Tryz.prog 92 #[.string S] w fun e w' => e = .returned (.int .i64 r) ∧ Below w.heap.size w w' := by
  obtain ⟨o0, o1, o2, o3, o4, o5, o6, o7, o8, o9, o10, o11, _, _, _, _, _, _, _, _, _⟩ := h
  have HR := Lib.hid hr
  clear hr
  go_enter Tryz.func92, Tryz.ntmps92
  go_wp2
  clear o0 o1 o2 o3 o4 o5 o6 o7 o8 o9 o10 o11
  go_loopw [8] (fun is wr => ∃ (k : Nat), is = .int .i64 (k : Int) ∧ k ≤ 4 ∧ Below w.heap.size w wr ∧ Hid (∀ x ∈ opsL.take (3 * k), x ≠ S)) (fun is _ => 4 - (intOf is).toNat)
  case atStart => exact ⟨0, rfl, by omega, Below.refl _ _, fun x hx => by simp at hx⟩
  case round =>
    obtain ⟨k, rfl, hk, hbw, H⟩ := hrel
    have c : k = 0 ∨ k = 1 ∨ k = 2 ∨ k = 3 ∨ k = 4 := by omega
    rcases c with rfl | rfl | rfl | rfl | rfl
    · have q := idxA0
      go_wp2
      clear q
      go_loopw [13] (fun is wr => ∃ (j : Nat), is = .int .i64 (j : Int) ∧ j ≤ 3 ∧ Below w.heap.size w wr ∧ Hid (∀ x ∈ opsL.take (0 + j), x ≠ S)) (fun is _ => 3 - (intOf is).toNat)
      case atStart => exact ⟨0, rfl, by omega, hbw.trans ((below_alloc _ _).mono hbw.size), H.out⟩
      case round =>
        obtain ⟨j, rfl, hj, hbv, J⟩ := hrel
        have c : j = 0 ∨ j = 1 ∨ j = 2 ∨ j = 3 := by omega
        rcases c with rfl | rfl | rfl | rfl
        · by_cases hm : op0 = S
          · have hit := Lib.hid ((HR.out.symm.trans (kind_hit S 0 (by rw [← hm]; rfl) J.out)))
            have hm' := str_eq hm
            have q := idxB0
            clear hm
            go_wp2
            go_ret
            exact ⟨by rw [hit.out]; rfl, hbv⟩
          · have J1 := Lib.hid (take_next J.out (x := op0) rfl hm)
            have hm' := str_ne hm
            have q := idxB0
            clear hm
            go_wp2
            exact ⟨⟨1, by go_num, by omega, hbv, J1.out⟩, by first | decide | simp [intOf]⟩
        · by_cases hm : op0 = S
          · have hit := Lib.hid ((HR.out.symm.trans (kind_hit S 1 (by rw [← hm]; rfl) J.out)))
            have hm' := str_eq hm
            have q := idxB1
            clear hm
            go_wp2
            go_ret
            exact ⟨by rw [hit.out]; rfl, hbv⟩
          · have J1 := Lib.hid (take_next J.out (x := op0) rfl hm)
            have hm' := str_ne hm
            have q := idxB1
            clear hm
            go_wp2
            exact ⟨⟨2, by go_num, by omega, hbv, J1.out⟩, by first | decide | simp [intOf]⟩
        · by_cases hm : op0 = S
          · have hit := Lib.hid ((HR.out.symm.trans (kind_hit S 2 (by rw [← hm]; rfl) J.out)))
            have hm' := str_eq hm
            have q := idxB2
            clear hm
            go_wp2
            go_ret
            exact ⟨by rw [hit.out]; rfl, hbv⟩
          · have J1 := Lib.hid (take_next J.out (x := op0) rfl hm)
            have hm' := str_ne hm
            have q := idxB2
            clear hm
            go_wp2
            exact ⟨⟨3, by go_num, by omega, hbv, J1.out⟩, by first | decide | simp [intOf]⟩
        · go_wp2
          exact ⟨⟨1, by go_num, by omega, hbv, J.out⟩, by first | decide | simp [intOf]⟩
    · have q := idxA1
      go_wp2
      clear q
      go_loopw [13] (fun is wr => ∃ (j : Nat), is = .int .i64 (j : Int) ∧ j ≤ 3 ∧ Below w.heap.size w wr ∧ Hid (∀ x ∈ opsL.take (3 + j), x ≠ S)) (fun is _ => 3 - (intOf is).toNat)
      case atStart => exact ⟨0, rfl, by omega, hbw.trans ((below_alloc _ _).mono hbw.size), H.out⟩
      case round =>
        obtain ⟨j, rfl, hj, hbv, J⟩ := hrel
        have c : j = 0 ∨ j = 1 ∨ j = 2 ∨ j = 3 := by omega
        rcases c with rfl | rfl | rfl | rfl
        · by_cases hm : op1 = S
          · have hit := Lib.hid ((HR.out.symm.trans (kind_hit S 3 (by rw [← hm]; rfl) J.out)))
            have hm' := str_eq hm
            have q := idxB0
            clear hm
            go_wp2
            go_ret
            exact ⟨by rw [hit.out]; rfl, hbv⟩
          · have J1 := Lib.hid (take_next J.out (x := op1) rfl hm)
            have hm' := str_ne hm
            have q := idxB0
            clear hm
            go_wp2
            exact ⟨⟨1, by go_num, by omega, hbv, J1.out⟩, by first | decide | simp [intOf]⟩
        · by_cases hm : op2 = S
          · have hit := Lib.hid ((HR.out.symm.trans (kind_hit S 4 (by rw [← hm]; rfl) J.out)))
            have hm' := str_eq hm
            have q := idxB1
            clear hm
            go_wp2
            go_ret
            exact ⟨by rw [hit.out]; rfl, hbv⟩
          · have J1 := Lib.hid (take_next J.out (x := op2) rfl hm)
            have hm' := str_ne hm
            have q := idxB1
            clear hm
            go_wp2
            exact ⟨⟨2, by go_num, by omega, hbv, J1.out⟩, by first | decide | simp [intOf]⟩
        · by_cases hm : op0 = S
          · have hit := Lib.hid ((HR.out.symm.trans (kind_hit S 5 (by rw [← hm]; rfl) J.out)))
            have hm' := str_eq hm
            have q := idxB2
            clear hm
            go_wp2
            go_ret
            exact ⟨by rw [hit.out]; rfl, hbv⟩
          · have J1 := Lib.hid (take_next J.out (x := op0) rfl hm)
            have hm' := str_ne hm
            have q := idxB2
            clear hm
            go_wp2
            exact ⟨⟨3, by go_num, by omega, hbv, J1.out⟩, by first | decide | simp [intOf]⟩
        · go_wp2
          exact ⟨⟨2, by go_num, by omega, hbv, J.out⟩, by first | decide | simp [intOf]⟩
    · have q := idxA2
      go_wp2
      clear q
      go_loopw [13] (fun is wr => ∃ (j : Nat), is = .int .i64 (j : Int) ∧ j ≤ 3 ∧ Below w.heap.size w wr ∧ Hid (∀ x ∈ opsL.take (6 + j), x ≠ S)) (fun is _ => 3 - (intOf is).toNat)
      case atStart => exact ⟨0, rfl, by omega, hbw.trans ((below_alloc _ _).mono hbw.size), H.out⟩
      case round =>
        obtain ⟨j, rfl, hj, hbv, J⟩ := hrel
        have c : j = 0 ∨ j = 1 ∨ j = 2 ∨ j = 3 := by omega
        rcases c with rfl | rfl | rfl | rfl
        · by_cases hm : op3 = S
          · have hit := Lib.hid ((HR.out.symm.trans (kind_hit S 6 (by rw [← hm]; rfl) J.out)))
            have hm' := str_eq hm
            have q := idxB0
            clear hm
            go_wp2
            go_ret
            exact ⟨by rw [hit.out]; rfl, hbv⟩
          · have J1 := Lib.hid (take_next J.out (x := op3) rfl hm)
            have hm' := str_ne hm
            have q := idxB0
            clear hm
            go_wp2
            exact ⟨⟨1, by go_num, by omega, hbv, J1.out⟩, by first | decide | simp [intOf]⟩
        · by_cases hm : op0 = S
          · have hit := Lib.hid ((HR.out.symm.trans (kind_hit S 7 (by rw [← hm]; rfl) J.out)))
            have hm' := str_eq hm
            have q := idxB1
            clear hm
            go_wp2
            go_ret
            exact ⟨by rw [hit.out]; rfl, hbv⟩
          · have J1 := Lib.hid (take_next J.out (x := op0) rfl hm)
            have hm' := str_ne hm
            have q := idxB1
            clear hm
            go_wp2
            exact ⟨⟨2, by go_num, by omega, hbv, J1.out⟩, by first | decide | simp [intOf]⟩
        · by_cases hm : op0 = S
          · have hit := Lib.hid ((HR.out.symm.trans (kind_hit S 8 (by rw [← hm]; rfl) J.out)))
            have hm' := str_eq hm
            have q := idxB2
            clear hm
            go_wp2
            go_ret
            exact ⟨by rw [hit.out]; rfl, hbv⟩
          · have J1 := Lib.hid (take_next J.out (x := op0) rfl hm)
            have hm' := str_ne hm
            have q := idxB2
            clear hm
            go_wp2
            exact ⟨⟨3, by go_num, by omega, hbv, J1.out⟩, by first | decide | simp [intOf]⟩
        · go_wp2
          exact ⟨⟨3, by go_num, by omega, hbv, J.out⟩, by first | decide | simp [intOf]⟩
    · have q := idxA3
      go_wp2
      clear q
      go_loopw [13] (fun is wr => ∃ (j : Nat), is = .int .i64 (j : Int) ∧ j ≤ 3 ∧ Below w.heap.size w wr ∧ Hid (∀ x ∈ opsL.take (9 + j), x ≠ S)) (fun is _ => 3 - (intOf is).toNat)
      case atStart => exact ⟨0, rfl, by omega, hbw.trans ((below_alloc _ _).mono hbw.size), H.out⟩
      case round =>
        obtain ⟨j, rfl, hj, hbv, J⟩ := hrel
        have c : j = 0 ∨ j = 1 ∨ j = 2 ∨ j = 3 := by omega
        rcases c with rfl | rfl | rfl | rfl
        · by_cases hm : op4 = S
          · have hit := Lib.hid ((HR.out.symm.trans (kind_hit S 9 (by rw [← hm]; rfl) J.out)))
            have hm' := str_eq hm
            have q := idxB0
            clear hm
            go_wp2
            go_ret
            exact ⟨by rw [hit.out]; rfl, hbv⟩
          · have J1 := Lib.hid (take_next J.out (x := op4) rfl hm)
            have hm' := str_ne hm
            have q := idxB0
            clear hm
            go_wp2
            exact ⟨⟨1, by go_num, by omega, hbv, J1.out⟩, by first | decide | simp [intOf]⟩
        · by_cases hm : op5 = S
          · have hit := Lib.hid ((HR.out.symm.trans (kind_hit S 10 (by rw [← hm]; rfl) J.out)))
            have hm' := str_eq hm
            have q := idxB1
            clear hm
            go_wp2
            go_ret
            exact ⟨by rw [hit.out]; rfl, hbv⟩
          · have J1 := Lib.hid (take_next J.out (x := op5) rfl hm)
            have hm' := str_ne hm
            have q := idxB1
            clear hm
            go_wp2
            exact ⟨⟨2, by go_num, by omega, hbv, J1.out⟩, by first | decide | simp [intOf]⟩
        · by_cases hm : op6 = S
          · have hit := Lib.hid ((HR.out.symm.trans (kind_hit S 11 (by rw [← hm]; rfl) J.out)))
            have hm' := str_eq hm
            have q := idxB2
            clear hm
            go_wp2
            go_ret
            exact ⟨by rw [hit.out]; rfl, hbv⟩
          · have J1 := Lib.hid (take_next J.out (x := op6) rfl hm)
            have hm' := str_ne hm
            have q := idxB2
            clear hm
            go_wp2
            exact ⟨⟨3, by go_num, by omega, hbv, J1.out⟩, by first | decide | simp [intOf]⟩
        · go_wp2
          exact ⟨⟨4, by go_num, by omega, hbv, J.out⟩, by first | decide | simp [intOf]⟩
    · have hit := Lib.hid (HR.out.symm.trans (kind_miss S (by have := H.out; simpa [opsL] using this)))
      go_wp2
      go_ret
      exact ⟨by rw [hit.out]; rfl, hbw⟩
end Go.Proofs.YteibjmlimcpaoaaGreatDoor.W

set_option linter.unusedVariables false
set_option linter.unusedSimpArgs false
namespace Go.Proofs.YteibjmlimcpaoaaGreatDoor.W
open Go.RowKit Go.Sort

theorem mk_inj {a b : List UInt8} (h : ByteArray.mk a.toArray = ByteArray.mk b.toArray) : a = b := by
  have := congrArg (fun x => x.data.toList) h
  simpa using this

set_option maxRecDepth 100000 in
set_option maxHeartbeats 1000000 in
theorem idxStrW (ts : List (List UInt8)) (s : List UInt8) (v : Value) (w : World) (hn : ts.length ≤ 8) (h : RowIs w v ts.length (scells ts)) (r : Bool) (hr : ts.contains s = r) :
    Calls Tryz.prog 161 #[v, strV s] w fun e w' => ∃ i : Int, e = .returned (.int .i64 i) ∧ decide (0 ≤ i) = r ∧ w' = w := by
  obtain ⟨ao, cap, rfl, hc⟩ := h
  have HT := Lib.hid hc
  clear hc
  have HR := Lib.hid hr
  clear hr
  unfold strV
  go_enter Tryz.func161, Tryz.ntmps161
  go_wp2
  go_loopw [8] (fun is wr => ∃ (k : Nat), is = .int .i64 (k : Int) ∧ k ≤ ts.length ∧ wr = w ∧ Hid (r = (ts.drop k).contains s)) (fun is _ => ts.length - (intOf is).toNat)
  case atStart => exact ⟨0, rfl, by omega, rfl, HR.out.symm⟩
  case round =>
    obtain ⟨k, rfl, hk, rfl, H⟩ := hrel
    by_cases hlt : k < ts.length
    · obtain ⟨g, o, rfl, hcell⟩ := HT.out (by omega)
      have hx : ts[k]? = some ts[k] := List.getElem?_eq_getElem hlt
      have c1 := hcell k (strV ts[k]) (by unfold scells; rw [List.getElem?_map, hx]; rfl)
      have h1 := H.out
      rw [List.drop_eq_getElem_cons hlt, List.contains_cons] at h1
      generalize ts[k] = x at *
      unfold strV at c1
      have ik : (k : Int) < (ts.length : Int) := by omega
      have ik0 : (0 : Int) ≤ (k : Int) := by omega
      clear hx hcell H
      by_cases ht : ByteArray.mk s.toArray = ByteArray.mk x.toArray
      · have e1 : (s == x) = true := by rw [mk_inj ht]; simp
        rw [e1, Bool.true_or] at h1
        have H1 := Lib.hid h1
        have q := str_eq ht
        generalize ByteArray.mk s.toArray = S at *
        generalize ByteArray.mk x.toArray = X at *
        clear h1 ht e1
        go_wp2
        go_ret
        exact ⟨_, rfl, by rw [H1.out]; simp, rfl⟩
      · have e1 : (s == x) = false := by simp; intro e; exact ht (by rw [e])
        rw [e1, Bool.false_or] at h1
        have H1 := Lib.hid h1
        have q := str_ne ht
        generalize ByteArray.mk s.toArray = S at *
        generalize ByteArray.mk x.toArray = X at *
        clear h1 ht e1
        go_wp2
        exact ⟨⟨k + 1, by go_num, by omega, by first | rfl | trivial, H1⟩, by simp [intOf]; omega⟩
    · have h1 := H.out
      rw [List.drop_eq_nil_of_le (by omega)] at h1
      have H1 := Lib.hid h1
      have ik : ¬ ((k : Int) < (ts.length : Int)) := by omega
      clear h1 H
      go_wp2
      go_ret
      exact ⟨_, rfl, by rw [H1.out]; rfl, rfl⟩

set_option maxRecDepth 100000 in
set_option maxHeartbeats 1000000 in
theorem hasStrW (ts : List (List UInt8)) (s : List UInt8) (v : Value) (w : World) (hn : ts.length ≤ 8) (h : RowIs w v ts.length (scells ts)) :
    Calls Tryz.prog 148 #[v, strV s] w fun e w' => e = .returned (.bool (ts.contains s)) ∧ w' = w := by
  obtain ⟨r, hr⟩ : ∃ r, ts.contains s = r := ⟨_, rfl⟩
  have A := Lib.hid (idxStrW ts s v w hn h r hr)
  rw [hr]
  clear hr
  obtain ⟨ao, cap, rfl, _⟩ := h
  unfold strV at A ⊢
  go_enter Tryz.func148, Tryz.ntmps148
  go_wp2_with (go_at_call 161; refine A.out.mono ?_; rintro e w1 ⟨i, rfl, hi, rfl⟩; replace hi := Lib.hid hi)
  go_ret
  exact ⟨by rw [← hi.out]; rfl, rfl⟩

set_option maxRecDepth 100000 in
set_option maxHeartbeats 1000000 in
theorem idxIntW (ts : List Int) (s : Int) (v : Value) (w : World) (hn : ts.length ≤ 8) (h : RowIs w v ts.length (icells ts)) (r : Bool) (hr : ts.contains s = r) :
    Calls Tryz.prog 149 #[v, .int .i64 s] w fun e w' => ∃ i : Int, e = .returned (.int .i64 i) ∧ decide (0 ≤ i) = r ∧ w' = w := by
  obtain ⟨ao, cap, rfl, hc⟩ := h
  have HT := Lib.hid hc
  clear hc
  have HR := Lib.hid hr
  clear hr
  go_enter Tryz.func149, Tryz.ntmps149
  go_wp2
  go_loopw [8] (fun is wr => ∃ (k : Nat), is = .int .i64 (k : Int) ∧ k ≤ ts.length ∧ wr = w ∧ Hid (r = (ts.drop k).contains s)) (fun is _ => ts.length - (intOf is).toNat)
  case atStart => exact ⟨0, rfl, by omega, rfl, HR.out.symm⟩
  case round =>
    obtain ⟨k, rfl, hk, rfl, H⟩ := hrel
    by_cases hlt : k < ts.length
    · obtain ⟨g, o, rfl, hcell⟩ := HT.out (by omega)
      have hx : ts[k]? = some ts[k] := List.getElem?_eq_getElem hlt
      have c1 := hcell k (.int .i64 ts[k]) (by unfold icells; rw [List.getElem?_map, hx]; rfl)
      have h1 := H.out
      rw [List.drop_eq_getElem_cons hlt, List.contains_cons] at h1
      generalize ts[k] = x at *
      have ik : (k : Int) < (ts.length : Int) := by omega
      have ik0 : (0 : Int) ≤ (k : Int) := by omega
      clear hx hcell H
      by_cases ht : s = x
      · have e1 : (s == x) = true := by rw [ht]; simp
        rw [e1, Bool.true_or] at h1
        have H1 := Lib.hid h1
        clear h1
        subst ht
        go_wp2
        go_ret
        exact ⟨_, rfl, by rw [H1.out]; simp, rfl⟩
      · have e1 : (s == x) = false := by simpa using ht
        rw [e1, Bool.false_or] at h1
        have H1 := Lib.hid h1
        clear h1
        go_wp2
        exact ⟨⟨k + 1, by go_num, by omega, by first | rfl | trivial, H1⟩, by simp [intOf]; omega⟩
    · have h1 := H.out
      rw [List.drop_eq_nil_of_le (by omega)] at h1
      have H1 := Lib.hid h1
      have ik : ¬ ((k : Int) < (ts.length : Int)) := by omega
      clear h1 H
      go_wp2
      go_ret
      exact ⟨_, rfl, by rw [H1.out]; rfl, rfl⟩

set_option maxRecDepth 100000 in
set_option maxHeartbeats 1000000 in
theorem hasIntW (ts : List Int) (s : Int) (v : Value) (w : World) (hn : ts.length ≤ 8) (h : RowIs w v ts.length (icells ts)) :
    Calls Tryz.prog 131 #[v, .int .i64 s] w fun e w' => e = .returned (.bool (ts.contains s)) ∧ w' = w := by
  obtain ⟨r, hr⟩ : ∃ r, ts.contains s = r := ⟨_, rfl⟩
  have A := Lib.hid (idxIntW ts s v w hn h r hr)
  rw [hr]
  clear hr
  obtain ⟨ao, cap, rfl, _⟩ := h
  go_enter Tryz.func131, Tryz.ntmps131
  go_wp2_with (go_at_call 149; refine A.out.mono ?_; rintro e w1 ⟨i, rfl, hi, rfl⟩; replace hi := Lib.hid hi)
  go_ret
  exact ⟨by rw [← hi.out]; rfl, rfl⟩
end Go.Proofs.YteibjmlimcpaoaaGreatDoor.W

set_option linter.unusedVariables false
set_option linter.unusedSimpArgs false
namespace Go.Proofs.YteibjmlimcpaoaaGreatDoor.W
open Go.RowKit Go.Sort

theorem ok_parts (P : Pol) : P.ok = (decide (P.tags.length ≤ 8) && decide (P.ids.length ≤ 8) && decide (1 ≤ P.text ∧ P.text ≤ 60) && P.tags.all tagB && P.ids.all idB) := rfl

set_option maxRecDepth 100000 in
set_option maxHeartbeats 2000000 in
theorem policyW (P : Pol) (T I : Value) (w : World) (h : PolIs P T I w) :
    Calls Tryz.prog 76 #[pv T I P.text] w fun e w' => e = .returned (.bool P.ok) ∧ Below w.heap.size w w' := by
  have b0 := below_alloc w (.cells #[T, I, .int .i64 P.text] 25)
  have h0 := h.on b0
  obtain ⟨r1, r2, n1, n2, ts⟩ := h0
  have hs1 := r1
  have hs2 := r2
  obtain ⟨ta, tc, rfl, _⟩ := hs1
  obtain ⟨ia, ic, rfl, _⟩ := hs2
  unfold pv
  rw [ok_parts]
  generalize hW : w.alloc (.cells #[.slice ta P.tags.length tc, .slice ia P.ids.length ic, .int .i64 P.text] 25) = W at *
  have rr : W.heap[w.heap.size]? = some (.cells #[.slice ta P.tags.length tc, .slice ia P.ids.length ic, .int .i64 P.text] 25 (0, 0)) := by rw [← hW]; exact new_at w _
  have x0 := cellsAt rr 0
  have x1 := cellsAt rr 1
  have x2 := cellsAt rr 2
  simp only [List.getElem?_toArray, List.getElem?_cons_zero, List.getElem?_cons_succ] at x0 x1 x2
  subst hW
  have HP := Lib.hid (And.intro r1 (And.intro r2 ts))
  clear r1 r2 ts rr h
  by_cases g1 : P.tags.length ≤ 8
  · have d1 : decide ((P.tags.length : Int) ≤ 8) = true := decide_eq_true (by omega)
    have e1 : decide (P.tags.length ≤ 8) = true := decide_eq_true g1
    rw [e1, Bool.true_and]
    by_cases g2 : P.ids.length ≤ 8
    · have d2 : decide ((P.ids.length : Int) ≤ 8) = true := decide_eq_true (by omega)
      have e2 : decide (P.ids.length ≤ 8) = true := decide_eq_true g2
      rw [e2, Bool.true_and]
      by_cases g3 : 1 ≤ P.text
      · have d3 : decide (1 ≤ P.text) = true := decide_eq_true g3
        by_cases g4 : P.text ≤ 60
        · have d4 : decide (P.text ≤ 60) = true := decide_eq_true g4
          have e3 : decide (1 ≤ P.text ∧ P.text ≤ 60) = true := decide_eq_true ⟨g3, g4⟩
          rw [e3, Bool.true_and]
          have A := Lib.hid (anyTagW P.tags _ _ g1 HP.out.2.2 HP.out.1)
          have B := Lib.hid (fun w hb => anyIdW P.ids _ w g2 (HP.out.2.1.on hb))
          generalize P.tags.length = tl at *
          generalize P.ids.length = il at *
          generalize P.text = tx at *
          cases hT : P.tags.all tagB with
          | false =>
            rw [hT] at A
            simp only [Bool.not_false] at A
            rw [Bool.false_and]
            clear e1 e2 e3 HP hT
            go_enter Tryz.func76, Tryz.ntmps76
            go_wp2_with (go_at_call 115; refine A.out.mono ?_; rintro e w1 ⟨rfl, hb1⟩)
            go_ret
            exact ⟨rfl, b0.trans (hb1.mono b0.size)⟩
          | true =>
            rw [hT] at A
            simp only [Bool.not_true] at A
            rw [Bool.true_and]
            cases hI : P.ids.all idB with
            | false =>
              rw [hI] at B
              simp only [Bool.not_false] at B
              clear e1 e2 e3 HP hT hI
              go_enter Tryz.func76, Tryz.ntmps76
              go_wp2_with (first | (go_at_call 115; refine A.out.mono ?_; rintro e w1 ⟨rfl, hb1⟩; have y1 := (hb1.cell (p := ⟨w.heap.size, 1, none⟩) (by simp)).trans x1) | (go_at_call 117; refine (B.out _ hb1).mono ?_; rintro e w2 ⟨rfl, rfl⟩))
              go_ret
              exact ⟨rfl, b0.trans (hb1.mono b0.size)⟩
            | true =>
              rw [hI] at B
              simp only [Bool.not_true] at B
              clear e1 e2 e3 HP hT hI
              go_enter Tryz.func76, Tryz.ntmps76
              go_wp2_with (first | (go_at_call 115; refine A.out.mono ?_; rintro e w1 ⟨rfl, hb1⟩; have y1 := (hb1.cell (p := ⟨w.heap.size, 1, none⟩) (by simp)).trans x1) | (go_at_call 117; refine (B.out _ hb1).mono ?_; rintro e w2 ⟨rfl, rfl⟩))
              go_ret
              exact ⟨rfl, b0.trans (hb1.mono b0.size)⟩
        · have d4 : decide (P.text ≤ 60) = false := decide_eq_false g4
          have e3 : decide (1 ≤ P.text ∧ P.text ≤ 60) = false := decide_eq_false (fun x => g4 x.2)
          rw [e3, Bool.false_and, Bool.false_and]
          generalize P.tags.length = tl at *
          generalize P.ids.length = il at *
          generalize P.text = tx at *
          clear e1 e2 e3 HP
          go_enter Tryz.func76, Tryz.ntmps76
          go_wp2
          go_ret
          exact ⟨rfl, b0⟩
      · have d3 : decide (1 ≤ P.text) = false := decide_eq_false g3
        have e3 : decide (1 ≤ P.text ∧ P.text ≤ 60) = false := decide_eq_false (fun x => g3 x.1)
        rw [e3, Bool.false_and, Bool.false_and]
        generalize P.tags.length = tl at *
        generalize P.ids.length = il at *
        generalize P.text = tx at *
        clear e1 e2 e3 HP
        go_enter Tryz.func76, Tryz.ntmps76
        go_wp2
        go_ret
        exact ⟨rfl, b0⟩
    · have d2 : decide ((P.ids.length : Int) ≤ 8) = false := decide_eq_false (by omega)
      have e2 : decide (P.ids.length ≤ 8) = false := decide_eq_false g2
      rw [e2, Bool.false_and, Bool.false_and, Bool.false_and]
      generalize P.tags.length = tl at *
      generalize P.ids.length = il at *
      generalize P.text = tx at *
      clear e1 e2 HP
      go_enter Tryz.func76, Tryz.ntmps76
      go_wp2
      go_ret
      exact ⟨rfl, b0⟩
  · have d1 : decide ((P.tags.length : Int) ≤ 8) = false := decide_eq_false (by omega)
    have e1 : decide (P.tags.length ≤ 8) = false := decide_eq_false g1
    rw [e1, Bool.false_and, Bool.false_and, Bool.false_and, Bool.false_and]
    generalize P.tags.length = tl at *
    generalize P.ids.length = il at *
    generalize P.text = tx at *
    clear e1 HP
    go_enter Tryz.func76, Tryz.ntmps76
    go_wp2
    go_ret
    exact ⟨rfl, b0⟩

/-- why a file is not looked at at all -/
def refuseN (P : Pol) (n : Nat) : Int := if P.ok = false then 2 else if 2000 < n then 3 else 0

set_option maxRecDepth 100000 in
set_option maxHeartbeats 2000000 in
theorem refusalW (P : Pol) (T I : Value) (D : List UInt8) (w : World) (hD : D.length ≤ 9223372036854775807) (h : PolIs P T I w) :
    Calls Tryz.prog 53 #[pv T I P.text, strV D] w fun e w' => e = .returned (.int .i64 (refuseN P D.length)) ∧ Below w.heap.size w w' := by
  have b0 := below_alloc w (.cells #[T, I, .int .i64 P.text] 25)
  have A := Lib.hid (policyW P T I _ (h.on b0))
  have hs1 := h.tags
  have hs2 := h.ids
  obtain ⟨ta, tc, rfl, _⟩ := hs1
  obtain ⟨ia, ic, rfl, _⟩ := hs2
  have hz : (ByteArray.mk D.toArray).size = D.length := by show Array.size _ = _; simp
  unfold pv refuseN strV at *
  generalize ByteArray.mk D.toArray = S at *
  cases hk : P.ok with
  | false =>
    rw [hk] at A
    rw [if_pos rfl]
    clear h hk
    go_enter Tryz.func53, Tryz.ntmps53
    go_wp2_with (go_at_call 76; refine A.out.mono ?_; rintro e w1 ⟨rfl, hb1⟩)
    go_ret
    exact ⟨rfl, b0.trans (hb1.mono b0.size)⟩
  | true =>
    rw [hk] at A
    rw [if_neg (by simp)]
    by_cases g : 2000 < D.length
    · rw [if_pos g]
      have g' : (2000 : Int) < (S.size : Int) := by omega
      clear h hk
      go_enter Tryz.func53, Tryz.ntmps53
      go_wp2_with (go_at_call 76; refine A.out.mono ?_; rintro e w1 ⟨rfl, hb1⟩)
      go_ret
      exact ⟨rfl, b0.trans (hb1.mono b0.size)⟩
    · rw [if_neg g]
      have g' : ¬ ((2000 : Int) < (S.size : Int)) := by omega
      clear h hk
      go_enter Tryz.func53, Tryz.ntmps53
      go_wp2_with (go_at_call 76; refine A.out.mono ?_; rintro e w1 ⟨rfl, hb1⟩)
      go_ret
      exact ⟨rfl, b0.trans (hb1.mono b0.size)⟩
end Go.Proofs.YteibjmlimcpaoaaGreatDoor.W

set_option linter.unusedVariables false
set_option linter.unusedSimpArgs false
namespace Go.Proofs.YteibjmlimcpaoaaGreatDoor.W
open Go.RowKit Go.Sort

theorem fl_below {p : Nat} {m : Mt} {D : List UInt8} {w w' : World} (h : FlAt p m D w) (hb : Below w.heap.size w w') : FlAt p m D w' := grown_at (p := w'.heap.size + w.heap.size + p + 1) (grown_below _ hb) h (by omega)
theorem at_below {w w' : World} {k : Nat} {o : Obj} (h : w.heap[k]? = some o) (hb : Below w.heap.size w w') : w'.heap[k]? = some o := grown_at (p := w'.heap.size + w.heap.size + k + 1) (grown_below _ hb) h (by omega)
theorem count_run (D : List UInt8) (t : Wn) (first size : Nat) (m : Mt) : (countP t first size).run D m =
    if t.s < first then ((0, 5), m)
    else if ((t.two 0).run D m).1 ≠ 0 then ((0, 7), ((t.two 0).run D m).2)
    else if 20 < ((t.two 2).run D ((t.two 0).run D m).2).1 then ((0, 6), ((t.two 2).run D ((t.two 0).run D m).2).2)
    else if holdsB t.s first (size * ((t.two 2).run D ((t.two 0).run D m).2).1) = true then ((((t.two 2).run D ((t.two 0).run D m).2).1, 0), ((t.two 2).run D ((t.two 0).run D m).2).2) else ((0, 5), ((t.two 2).run D ((t.two 0).run D m).2).2) := by
  unfold countP
  split
  · rfl
  · rw [Pr.run_bind]
    split
    · rfl
    · rw [Pr.run_bind]
      split
      · rfl
      · split <;> rfl

set_option maxRecDepth 100000 in
set_option maxHeartbeats 2000000 in
theorem countW (p first size : Nat) (t : Wn) (m : Mt) (D : List UInt8) (w : World) (h1 : first ≤ 100) (h2 : size ≤ 100) (ht : InF t D) (hm : MOk m) (h : FlAt p m D w) (c st : Nat) (M : Mt) (hr : (countP t first size).run D m = ((c, st), M)) :
    Calls Tryz.prog 98 #[wv p t, .int .i64 first, .int .i64 size] w fun e w' => e = .returned (.tuple #[.int .i64 c, .int .i64 st]) ∧ FlAt p M D w' ∧ w.grownBy w' (some p) := by
  rw [count_run] at hr
  have hlt := fl_lt h
  have hts := ht.s
  have mk1 := hm.run D (t.two 0)
  have mk2 := mk1.run D (t.two 2)
  have b2 := two_lt D t 2 ((t.two 0).run D m).2
  obtain ⟨W, hW⟩ : ∃ W, w.alloc (.cells #[.pointer (some ⟨p, 0, none⟩), .int .i64 (t.b : Int), .int .i64 (t.s : Int)] 126) = W := ⟨_, rfl⟩
  have f0 : FlAt p m D W := by rw [← hW]; exact fl_alloc h _
  have r0 : W.heap[w.heap.size]? = some (.cells #[.pointer (some ⟨p, 0, none⟩), .int .i64 (t.b : Int), .int .i64 (t.s : Int)] 126 (0, 0)) := by rw [← hW]; exact new_at _ _
  have g0 : w.grownBy W (some p) := by rw [← hW]; exact World.grownBy_alloc _ _ _
  have A0 := Lib.hid (tsizeW (some ⟨p, 0, none⟩) t W)
  have A1 := Lib.hid (fun w f => twoW p 0 t m D w (by omega) ht hm f)
  have A2 := Lib.hid (fun w f => twoW p 2 t _ D w (by omega) ht mk1 f)
  have A3 := Lib.hid (fun (b s : Nat) w (hb : b < 100000000) (hs : s < 100000000) => tholdsW (some ⟨p, 0, none⟩) t b s w ht.s (by omega) (by omega))
  generalize ((t.two 2).run D ((t.two 0).run D m).2).2 = m2 at *
  generalize ((t.two 2).run D ((t.two 0).run D m).2).1 = y at *
  generalize ((t.two 0).run D m).2 = m1 at *
  generalize ((t.two 0).run D m).1 = x at *
  have y0 := cellsAt r0 0
  have y1 := cellsAt r0 1
  have y2 := cellsAt r0 2
  simp only [List.getElem?_toArray, List.getElem?_cons_zero, List.getElem?_cons_succ] at y0 y1 y2
  unfold wq at A0 A3
  unfold wv at A1 A2 ⊢
  clear h
  by_cases c1 : t.s < first
  · rw [if_pos c1] at hr
    cases hr
    have d1 : (t.s : Int) < (first : Int) := by omega
    go_enter Tryz.func98, Tryz.ntmps98
    go_wp2_with (go_at_call 91; refine A0.out.mono ?_; rintro e w1 ⟨rfl, hb1⟩)
    go_ret2
    exact ⟨rfl, fl_below f0 hb1, grown_trans g0 (grown_below _ hb1)⟩
  · rw [if_neg c1] at hr
    have d1 : ¬ ((t.s : Int) < (first : Int)) := by omega
    have HR := Lib.hid hr
    clear hr
    go_enter Tryz.func98, Tryz.ntmps98
    go_wp2_with (go_at_call 91; refine A0.out.mono ?_; rintro e w1 ⟨rfl, hb1⟩; refine Hid.out ?_)
    have f1 := fl_below f0 hb1
    have r1 := at_below r0 hb1
    have g1 := grown_trans g0 (grown_below (some p) hb1)
    clear y0 y1 y2 A0 hW f0 r0 g0 hb1
    have y0 := cellsAt r1 0
    have y1 := cellsAt r1 1
    have y2 := cellsAt r1 2
    simp only [List.getElem?_toArray, List.getElem?_cons_zero, List.getElem?_cons_succ] at y0 y1 y2
    by_cases c2 : x ≠ 0
    · have hr := HR.out
      rw [if_pos c2] at hr
      cases hr
      have d2 : ¬ ((x : Int) = 0) := by omega
      refine Lib.hid ?_
      go_wp2_with (go_at_call 95; refine (A1.out _ f1).mono ?_; rintro e w2 ⟨rfl, k2, g2⟩)
      go_ret2
      exact ⟨rfl, k2, grown_trans g1 g2⟩
    · have hx : x = 0 := by omega
      subst hx
      refine Lib.hid ?_
      go_wp2_with (go_at_call 95; refine (A1.out _ f1).mono ?_; rintro e w2 ⟨rfl, k2, g2⟩; refine Hid.out ?_)
      have r2 := grown_at g2 r1 (by omega)
      have g2' := grown_trans g1 g2
      clear y0 y1 y2 A1 f1 r1 g1
      have y0 := cellsAt r2 0
      have y1 := cellsAt r2 1
      have y2 := cellsAt r2 2
      simp only [List.getElem?_toArray, List.getElem?_cons_zero, List.getElem?_cons_succ] at y0 y1 y2
      refine Lib.hid ?_
      go_wp2_with (go_at_call 95; refine (A2.out _ k2).mono ?_; rintro e w3 ⟨rfl, k3, g3⟩; refine Hid.out ?_)
      have r3 := grown_at g3 r2 (by omega)
      have g3' := grown_trans g2' g3
      clear y0 y1 y2 A2 k2 r2 g2' g2
      have y0 := cellsAt r3 0
      have y1 := cellsAt r3 1
      have y2 := cellsAt r3 2
      simp only [List.getElem?_toArray, List.getElem?_cons_zero, List.getElem?_cons_succ] at y0 y1 y2
      have hr := HR.out
      rw [if_neg c2] at hr
      by_cases c3 : 20 < y
      · rw [if_pos c3] at hr
        cases hr
        have d3 : (20 : Int) < (y : Int) := by omega
        refine Lib.hid ?_
        go_wp2
        go_ret2
        exact ⟨rfl, k3, g3'⟩
      · rw [if_neg c3] at hr
        have d3 : ¬ ((20 : Int) < (y : Int)) := by omega
        have hmul : size * y ≤ 2000 := Nat.le_trans (Nat.mul_le_mul h2 (by omega : y ≤ 20)) (by omega)
        have A4 := Lib.hid (A3.out first (size * y) w3 (by omega) (by omega))
        obtain ⟨z, hz⟩ : ∃ z : Nat, size * y = z := ⟨_, rfl⟩
        have hzi : (size : Int) * (y : Int) = (z : Int) := by rw [← hz]; simp
        have wz : IntKind.i64.wrap ((size : Int) * (y : Int)) = (z : Int) := by rw [hzi]; exact wrapL _ (by omega) (by omega)
        rw [hz] at A4 hr hmul
        clear hz
        cases hb : holdsB t.s first z with
        | true =>
          rw [hb] at hr A4
          rw [if_pos rfl] at hr
          cases hr
          refine Lib.hid ?_
          go_wp2_with (go_at_call 130; refine A4.out.mono ?_; rintro e w4 ⟨rfl, hb4⟩)
          go_ret2
          exact ⟨rfl, fl_below k3 hb4, grown_trans g3' (grown_below _ hb4)⟩
        | false =>
          rw [hb] at hr A4
          rw [if_neg (by simp)] at hr
          cases hr
          refine Lib.hid ?_
          go_wp2_with (go_at_call 130; refine A4.out.mono ?_; rintro e w4 ⟨rfl, hb4⟩)
          go_ret2
          exact ⟨rfl, fl_below k3 hb4, grown_trans g3' (grown_below _ hb4)⟩
end Go.Proofs.YteibjmlimcpaoaaGreatDoor.W

set_option linter.unusedVariables false
set_option linter.unusedSimpArgs false
namespace Go.Proofs.YteibjmlimcpaoaaGreatDoor.W
open Go.RowKit Go.Sort

/-- three cells of a result, written behind one another -/
theorem end3 {w w1 : World} {p k : Nat} {m : Mt} {D : List UInt8} {x0 x1 x2 v0 v1 v2 : Value} {T : TypeId} (q : w1.heap[k]? = some (.cells #[x0, x1, x2] T (0, 0))) (hk : w.heap.size ≤ k) (hpk : p ≠ k) (hf : FlAt p m D w1) (g : w.grownBy w1 (some p)) :
    (((w1.setCell ⟨k, 0, none⟩ v0).setCell ⟨k, 1, none⟩ v1).setCell ⟨k, 2, none⟩ v2).cell? ⟨k, 0, none⟩ = some v0 ∧ (((w1.setCell ⟨k, 0, none⟩ v0).setCell ⟨k, 1, none⟩ v1).setCell ⟨k, 2, none⟩ v2).cell? ⟨k, 1, none⟩ = some v1 ∧ (((w1.setCell ⟨k, 0, none⟩ v0).setCell ⟨k, 1, none⟩ v1).setCell ⟨k, 2, none⟩ v2).cell? ⟨k, 2, none⟩ = some v2 ∧
    FlAt p m D (((w1.setCell ⟨k, 0, none⟩ v0).setCell ⟨k, 1, none⟩ v1).setCell ⟨k, 2, none⟩ v2) ∧ w.grownBy (((w1.setCell ⟨k, 0, none⟩ v0).setCell ⟨k, 1, none⟩ v1).setCell ⟨k, 2, none⟩ v2) (some p) := by
  have q3 := setCell_row (i := 2) (setCell_row (i := 1) (setCell_row (i := 0) q v0) v1) v2
  have gs : w1.grownBy (((w1.setCell ⟨k, 0, none⟩ v0).setCell ⟨k, 1, none⟩ v1).setCell ⟨k, 2, none⟩ v2) (some k) := grown_set (grown_set (grown_set (World.grownBy.refl _ _) _ _) _ _) _ _
  exact ⟨cellsAt q3 0, cellsAt q3 1, cellsAt q3 2, grown_at gs hf hpk, grown_row g gs (fun j hj => by cases hj; exact hk)⟩

def magicL : List UInt8 := [95, 15, 60, 245]
theorem head_run (D : List UInt8) (t : Wn) (m : Mt) (magic : List UInt8) (flags units : Nat) (m1 m2 m3 : Mt) (h1 : (t.cut 12 4).bytes.run D m = (magic, m1)) (h2 : (t.two 16).run D m1 = (flags, m2)) (h3 : (t.two 18).run D m2 = (units, m3)) (h : ¬ t.s < 54) :
    (headP t 0).run D m = (if magic ≠ magicL ∨ units < 16 ∨ 16384 < units then (6, 0, 0) else (0, flags, units), m3) := by
  unfold headP
  rw [if_neg (by simp), if_neg h, Pr.run_bind, h1]
  simp only
  rw [Pr.run_bind, h2]
  simp only
  rw [Pr.run_bind, h3]
  simp only
  show Pr.run D (if magic ≠ magicL ∨ units < 16 ∨ 16384 < units then _ else _) m3 = _
  split <;> rfl

set_option maxRecDepth 100000 in
set_option maxHeartbeats 4000000 in
theorem headW (p st : Nat) (q : Option Addr) (t : Wn) (m : Mt) (D : List UInt8) (w : World) (hst : st ≤ 8) (hq : st = 0 → q = some ⟨p, 0, none⟩ ∧ InF t D) (hm : MOk m) (h : FlAt p m D w) (a b c : Nat) (M : Mt) (hr : (headP t st).run D m = ((a, b, c), M)) :
    Calls Tryz.prog 78 #[wq q t, .int .i64 st] w fun e w' => e = .returned (.agg #[.int .i64 a, .int .i64 b, .int .i64 c]) ∧ FlAt p M D w' ∧ w.grownBy w' (some p) := by
  have hlt := fl_lt h
  by_cases h0 : st = 0
  · subst h0
    obtain ⟨rfl, ht⟩ := hq rfl
    obtain ⟨W, hW⟩ : ∃ W, (w.alloc (.cells #[.pointer (some ⟨p, 0, none⟩), .int .i64 (t.b : Int), .int .i64 (t.s : Int)] 126)).alloc (.cells #[.int .i64 0, .int .i64 0, .int .i64 0] 32) = W := ⟨_, rfl⟩
    have f0 : FlAt p m D W := by rw [← hW]; exact fl_alloc (fl_alloc h _) _
    have r0 : W.heap[w.heap.size]? = some (.cells #[.pointer (some ⟨p, 0, none⟩), .int .i64 (t.b : Int), .int .i64 (t.s : Int)] 126 (0, 0)) := by rw [← hW]; exact at_alloc (new_at _ _)
    have r1 : W.heap[w.heap.size + 1]? = some (.cells #[.int .i64 0, .int .i64 0, .int .i64 0] 32 (0, 0)) := by
      rw [← hW]
      have := new_at (w.alloc (.cells #[.pointer (some ⟨p, 0, none⟩), .int .i64 (t.b : Int), .int .i64 (t.s : Int)] 126)) (.cells #[.int .i64 0, .int .i64 0, .int .i64 0] 32)
      simpa using this
    have g0 : w.grownBy W (some p) := by rw [← hW]; exact grown_trans (World.grownBy_alloc _ _ _) (World.grownBy_alloc _ _ _)
    have A0 := Lib.hid (tsizeW (some ⟨p, 0, none⟩) t W)
    have y0 := cellsAt r0 0
    have y1 := cellsAt r0 1
    have y2 := cellsAt r0 2
    have u0 := cellsAt r1 0
    have u1 := cellsAt r1 1
    have u2 := cellsAt r1 2
    have fz0 := frozenAt r1 0
    have fz1 := frozenAt r1 1
    have fz2 := frozenAt r1 2
    simp only [List.getElem?_toArray, List.getElem?_cons_zero, List.getElem?_cons_succ] at y0 y1 y2 u0 u1 u2
    unfold wq at A0 ⊢
    clear h
    by_cases c1 : t.s < 54
    · have e0 : (headP t 0).run D m = ((5, 0, 0), m) := by unfold headP; rw [if_neg (by simp), if_pos c1]; rfl
      rw [e0] at hr
      cases hr
      have d1 : (t.s : Int) < 54 := by omega
      go_enter Tryz.func78, Tryz.ntmps78
      go_wp2_with (go_at_call 91; refine A0.out.mono ?_; rintro e w1 ⟨rfl, hb1⟩; refine Hid.out ?_)
      have q1 := at_below r1 hb1
      have fl1 := fl_below f0 hb1
      have gg := grown_trans g0 (grown_below (some p) hb1)
      clear u0 u1 u2 fz0 fz1 fz2 y0 y1 y2 hW
      have u0 := cellsAt q1 0
      have u1 := cellsAt q1 1
      have u2 := cellsAt q1 2
      have fz0 := frozenAt q1 0
      have fz1 := frozenAt q1 1
      have fz2 := frozenAt q1 2
      simp only [List.getElem?_toArray, List.getElem?_cons_zero, List.getElem?_cons_succ] at u0 u1 u2
      refine Lib.hid ?_
      go_wp2
      obtain ⟨z0, z1, z2, zf, zg⟩ := end3 (w := w) (v0 := .int .i64 5) (v1 := .int .i64 0) (v2 := .int .i64 0) q1 (by omega) (by omega) fl1 gg
      exact bodyPost_ret (v := .agg #[.int .i64 5, .int .i64 0, .int .i64 0]) (by simp [results, Tryz.results78, go_sem, z0, z1, z2]) rfl ⟨rfl, zf, zg⟩
    · have d1 : ¬ ((t.s : Int) < 54) := by omega
      obtain ⟨magic, m1, h1⟩ : ∃ x y, (t.cut 12 4).bytes.run D m = (x, y) := ⟨_, _, rfl⟩
      obtain ⟨flags, m2, h2⟩ : ∃ x y, (t.two 16).run D m1 = (x, y) := ⟨_, _, rfl⟩
      obtain ⟨units, m3, h3⟩ : ∃ x y, (t.two 18).run D m2 = (x, y) := ⟨_, _, rfl⟩
      rw [head_run D t m magic flags units m1 m2 m3 h1 h2 h3 c1] at hr
      have mk1 : MOk m1 := by have := MOk.run D (t.cut 12 4).bytes hm; rw [h1] at this; exact this
      have mk2 : MOk m2 := by have := MOk.run D (t.two 16) mk1; rw [h2] at this; exact this
      have ub : units < 65536 := by have := two_lt D t 18 m2; rw [h3] at this; exact this
      have B1 := Lib.hid (fun w => twinW (some ⟨p, 0, none⟩) t 12 4 w ht.b ht.s (by omega) (by omega))
      have B2 := Lib.hid (fun w f => bytesW p (t.cut 12 4) m D w (cut_in ht 12 4) hm f magic m1 (by rw [h1]) (by rw [h1]))
      have B3 := Lib.hid (fun w f => twoW p 16 t m1 D w (by omega) ht mk1 f)
      have B4 := Lib.hid (fun w f => twoW p 18 t m2 D w (by omega) ht mk2 f)
      rw [h2] at B3
      rw [h3] at B4
      simp only at B3 B4
      unfold wq at B1
      unfold wv at B2 B3 B4
      generalize t.cut 12 4 = tc at *
      have HR := Lib.hid hr
      clear hr h1 h2 h3
      go_enter Tryz.func78, Tryz.ntmps78
      go_wp2_with (go_at_call 91; refine A0.out.mono ?_; rintro e w1 ⟨rfl, hb1⟩; refine Hid.out ?_)
      have q0 := at_below r0 hb1
      have q1 := at_below r1 hb1
      have fl1 := fl_below f0 hb1
      have gg := grown_trans g0 (grown_below (some p) hb1)
      clear u0 u1 u2 fz0 fz1 fz2 y0 y1 y2 hW A0 f0 r0 r1 g0 hb1
      have y0 := cellsAt q0 0
      have y1 := cellsAt q0 1
      have y2 := cellsAt q0 2
      simp only [List.getElem?_toArray, List.getElem?_cons_zero, List.getElem?_cons_succ] at y0 y1 y2
      have hne0 : w.heap.size ≠ p := by omega
      refine Lib.hid ?_
      go_upto_region 5 with fail
      go_cut [5, 6, 7] (fun s5 s6 s7 wx => s5 = .string ⟨magic.toArray⟩ ∧ s6 = .int .i64 (flags : Int) ∧ s7 = .int .i64 (units : Int) ∧ w1.grownBy wx (some p) ∧ FlAt p m3 D wx)
      case first =>
        go_region_held3 (fun w' => w'.cell? ⟨w.heap.size, 0, none⟩ = some (.pointer (some ⟨p, 0, none⟩)) ∧ w'.cell? ⟨w.heap.size, 1, none⟩ = some (.int .i64 (t.b : Int)) ∧ w'.cell? ⟨w.heap.size, 2, none⟩ = some (.int .i64 (t.s : Int))) (go_keep) (first
          | (go_at_call_of 95 (Value.int IntKind.i64 18); refine (B4.out _ ?_).mono ?_; exact k4; rintro e w5 ⟨rfl, k5, g5⟩; obtain ⟨q50, q51, q52⟩ := box_kept (grown_trans g4' g5) q0 hne0)
          | (go_at_call_of 95 (Value.int IntKind.i64 16); refine (B3.out _ ?_).mono ?_; exact k3; rintro e w4 ⟨rfl, k4, g4⟩; have g4' := grown_trans g3' g4; obtain ⟨q40, q41, q42⟩ := box_kept g4' q0 hne0)
          | (go_at_call 94; refine (B2.out _ ?_).mono ?_; exact fl2; rintro e w3 ⟨rfl, k3, g3⟩; have g3' := grown_trans gb2 g3; obtain ⟨q30, q31, q32⟩ := box_kept g3' q0 hne0)
          | (go_at_call 93; refine (B1.out _).mono ?_; rintro e w2 ⟨rfl, hb2⟩; have gb2 : w1.grownBy w2 (some p) := (by first | exact grown_below _ hb2 | exact grown_drew (grown_below _ hb2)); have fl2 : FlAt p m D w2 := (by first | exact fl_below fl1 hb2 | exact fl_below (fl_drew fl1) hb2); obtain ⟨q20, q21, q22⟩ := box_kept gb2 q0 hne0))
        all_goals (
          go_wp2_with fail
          go_meet
          first | exact ⟨rfl, rfl, rfl, grown_drew (grown_trans g4' g5), k5⟩ | exact ⟨rfl, rfl, rfl, grown_trans g4' g5, k5⟩)
      case rest =>
        obtain ⟨rfl, rfl, rfl, g5, k5⟩ := hcut
        have q5 := grown_at g5 q1 (by omega)
        have g6 := grown_trans gg g5
        clear y0 y1 y2 B1 B2 B3 B4 q1 q0 fl1 gg g5
        have u0 := cellsAt q5 0
        have u1 := cellsAt q5 1
        have u2 := cellsAt q5 2
        have fz0 := frozenAt q5 0
        have fz1 := frozenAt q5 1
        have fz2 := frozenAt q5 2
        simp only [List.getElem?_toArray, List.getElem?_cons_zero, List.getElem?_cons_succ] at u0 u1 u2
        have hr := HR.out
        by_cases e1 : ByteArray.mk magic.toArray = ByteArray.mk #[95, 15, 60, 245]
        · have e1' : magic = magicL := by
            have := congrArg (fun x => x.data.toList) e1
            simpa [magicL] using this
          have s1 := str_eq e1
          have s2 : ((ByteArray.mk magic.toArray).toList == [95, 15, 60, 245]) = true := by rw [e1, ByteArray.toList_eq]; rfl
          by_cases e2 : units < 16
          · rw [if_pos (.inr (.inl e2))] at hr
            cases hr
            have d2 : (units : Int) < 16 := by omega
            generalize ByteArray.mk magic.toArray = X at *
            clear e1 e1'
            go_wp2
            obtain ⟨z0, z1, z2, zf, zg⟩ := end3 (w := w) (v0 := .int .i64 6) (v1 := .int .i64 0) (v2 := .int .i64 0) q5 (by omega) (by omega) k5 g6
            exact bodyPost_ret (v := .agg #[.int .i64 6, .int .i64 0, .int .i64 0]) (by simp [results, Tryz.results78, go_sem, z0, z1, z2]) rfl ⟨rfl, zf, zg⟩
          · have d2 : ¬ ((units : Int) < 16) := by omega
            by_cases e3 : 16384 < units
            · rw [if_pos (.inr (.inr e3))] at hr
              cases hr
              have d3 : (16384 : Int) < (units : Int) := by omega
              generalize ByteArray.mk magic.toArray = X at *
              clear e1 e1'
              go_wp2
              obtain ⟨z0, z1, z2, zf, zg⟩ := end3 (w := w) (v0 := .int .i64 6) (v1 := .int .i64 0) (v2 := .int .i64 0) q5 (by omega) (by omega) k5 g6
              exact bodyPost_ret (v := .agg #[.int .i64 6, .int .i64 0, .int .i64 0]) (by simp [results, Tryz.results78, go_sem, z0, z1, z2]) rfl ⟨rfl, zf, zg⟩
            · rw [if_neg (by rintro (x | x | x); exact x e1'; exact e2 x; exact e3 x)] at hr
              cases hr
              have d3 : ¬ ((16384 : Int) < (c : Int)) := by omega
              generalize ByteArray.mk magic.toArray = X at *
              clear e1 e1'
              go_wp2
              obtain ⟨z0, z1, z2, zf, zg⟩ := end3 (w := w) (v0 := .int .i64 0) (v1 := .int .i64 (b : Int)) (v2 := .int .i64 (c : Int)) q5 (by omega) (by omega) k5 g6
              exact bodyPost_ret (v := .agg #[.int .i64 0, .int .i64 (b : Int), .int .i64 (c : Int)]) (by simp [results, Tryz.results78, go_sem, z0, z1, z2]) rfl ⟨rfl, zf, zg⟩
        · have e1' : magic ≠ magicL := by
            intro x
            exact e1 (by rw [x]; rfl)
          have s1 := str_ne e1
          have s2 : ((ByteArray.mk magic.toArray).toList == [95, 15, 60, 245]) = false := by
            rw [ByteArray.toList_eq, beq_eq_false_iff_ne]
            intro x
            exact e1' (by simpa [magicL] using x)
          rw [if_pos (.inl e1')] at hr
          cases hr
          generalize ByteArray.mk magic.toArray = X at *
          clear e1 e1'
          go_wp2
          obtain ⟨z0, z1, z2, zf, zg⟩ := end3 (w := w) (v0 := .int .i64 6) (v1 := .int .i64 0) (v2 := .int .i64 0) q5 (by omega) (by omega) k5 g6
          exact bodyPost_ret (v := .agg #[.int .i64 6, .int .i64 0, .int .i64 0]) (by simp [results, Tryz.results78, go_sem, z0, z1, z2]) rfl ⟨rfl, zf, zg⟩
  · have e0 : (headP t st).run D m = ((st, 0, 0), m) := by unfold headP; rw [if_pos h0]; rfl
    rw [e0] at hr
    cases hr
    have d0 : ¬ ((st : Int) = 0) := by omega
    unfold wq
    have hf0 := fl_alloc (fl_alloc h (.cells #[.pointer q, .int .i64 (t.b : Int), .int .i64 (t.s : Int)] 126)) (.cells #[.int .i64 (st : Int), .int .i64 0, .int .i64 0] 32)
    clear h
    go_enter Tryz.func78, Tryz.ntmps78
    go_wp2
    exact bodyPost_ret (v := .agg #[.int .i64 (st : Int), .int .i64 0, .int .i64 0]) (by simp [results, Tryz.results78, go_sem]) rfl ⟨rfl, hf0, grown_trans (World.grownBy_alloc _ _ _) (World.grownBy_alloc _ _ _)⟩
end Go.Proofs.YteibjmlimcpaoaaGreatDoor.W
