/-
  What the rows' lists of laid variables give the walks; a policy that comes in, opened.
-/
import Derived.Test.YteibjmlimcpaoaaDoorWb
import Derived.Test.YteibjmlimcpaoaaDoorRows
import Derived.OpenShut
import Derived.Lib.LaidTab
import Derived.Lib.LaidU8T
import Derived.Deep.Slices
import Derived.Deep.Strs
import Derived.Deep.DeepHandedRow
import Derived.SizedLaws
set_option linter.unusedVariables false
set_option linter.unusedSimpArgs false
namespace Go.Proofs.YteibjmlimcpaoaaDoor.W
open Go.ChangeShapes Go.WideShapes Go.ChangeAt Go.RowKit Go.Deep

theorem chunks {α : Type} (k : Nat) (fC : α → List Value) : ∀ (L : List α) (cs : List Value), cs.length = L.length * k → (∀ (i : Nat) (x : α), L[i]? = some x → (cs.drop (i * k)).take k = fC x) → cs = L.flatMap fC
  | [], cs, hl, _ => by
    simp at hl
    simp [hl]
  | x :: r, cs, hl, h => by
    have h0 := h 0 x rfl
    rw [Nat.zero_mul, List.drop_zero] at h0
    have ih := chunks k fC r (cs.drop k) (by rw [List.length_drop, hl, List.length_cons, Nat.succ_mul]; omega) (fun i y hy => by
      have := h (i + 1) y (by simpa using hy)
      rw [Nat.succ_mul, Nat.add_comm] at this
      rw [List.drop_drop]
      exact this)
    rw [List.flatMap_cons, ← h0, ← ih, List.take_append_drop]

section
variable {H : Type} {enc : TypeId × Value → H} {P : Program} {w : World} {base : Nat} {sp : Nat → Bool} {held : Bool} {fuel : Nat}
theorem arr_cells {α : Type} {t e : TypeId} {n k : Nat} {cs : List Value} {p : List MemPlace} (ht : P.underlying t = some (.array n e)) (hk : P.cellsOf e = k) (hct : P.cellsOf t = n * k) (fD : α → DataW H) (fC : α → List Value)
    (hel : ∀ (m : Nat) (c : List Value) (y : DataW H × List MemPlace) (x : α), DataW.trod enc P w base sp held m e c = some y → y.1 = fD x → c = fC x) (L : List α)
    (h : DataW.trod enc P w base sp held fuel t cs = some (.agg (L.map fD), p)) : cs = L.flatMap fC := by
  obtain ⟨xs, m, _, hx, hl, hxl, hf⟩ := DataW.trod_array ht h
  have hxs : xs.map (·.1) = L.map fD := by
    have := congrArg Prod.fst hx
    simp only [DataW.agg.injEq] at this
    exact this.symm
  have hLl : L.length = n := by
    have := congrArg List.length hxs
    simp at this
    omega
  refine chunks k fC L cs (by rw [hl, hct, hLl]) (fun i x hi => ?_)
  have hin : i < n := by
    rw [← hLl]
    exact (List.getElem?_eq_some_iff.1 hi).1
  have h1 := hf i hin
  rw [hk] at h1
  obtain ⟨y, hy⟩ : ∃ y, xs[i]? = some y := ⟨_, List.getElem?_eq_getElem (by omega)⟩
  rw [hy] at h1
  refine hel m _ y x h1 ?_
  have h2 : (xs.map (·.1))[i]? = (L.map fD)[i]? := by rw [hxs]
  rw [List.getElem?_map, List.getElem?_map, hy, hi] at h2
  simpa using h2
theorem bool_el {e : TypeId} (he : P.underlying e = some .bool) (m : Nat) (c : List Value) (y : DataW H × List MemPlace) (x : Bool) (h : DataW.trod enc P w base sp held m e c = some y) (hy : y.1 = .lit (.bool x)) : c = [.bool x] := by
  obtain ⟨b, rfl, rfl⟩ := DataW.trod_bool he h
  simp only [DataW.lit.injEq, Lit.bool.injEq] at hy
  rw [hy]
theorem string_el {e : TypeId} (he : P.underlying e = some .string) (m : Nat) (c : List Value) (y : DataW H × List MemPlace) (x : List UInt8) (h : DataW.trod enc P w base sp held m e c = some y) (hy : y.1 = .lit (.string x)) : c = [.string ⟨x.toArray⟩] := by
  obtain ⟨b, rfl, rfl, _⟩ := DataW.trod_string he h
  simp only [DataW.lit.injEq, Lit.string.injEq] at hy
  rw [← hy]
theorem strings_el {t e : TypeId} {n : Nat} (ht : P.underlying t = some (.array n e)) (he : P.underlying e = some .string) (hk : P.cellsOf e = 1) (hct : P.cellsOf t = n * 1) (m : Nat) (c : List Value) (y : DataW H × List MemPlace) (x : List (List UInt8)) (h : DataW.trod enc P w base sp held m t c = some y) (hy : y.1 = .agg (x.map fun s => .lit (.string s))) : c = x.flatMap fun s => [.string ⟨s.toArray⟩] := by
  obtain ⟨d, p⟩ := y
  simp only at hy
  subst hy
  exact arr_cells ht hk hct _ _ (string_el he) x h
end

theorem reads_cells {P : Program} {w : World} {n : String} {d : DataW Unit} {g : Nat} {t : TypeId} (h : Lib.VarReads P w n d) (hg : P.globalNamed n = some g) (ht : (P.globals[g]?).map (·.type) = some t) :
    ∃ cs fuel p, DataW.trod (fun _ => ()) P w 0 (fun _ => true) false fuel t cs = some (d, p) ∧ ∀ i, w.cell? ⟨g, i, none⟩ = cs[i]? := by
  obtain ⟨g', t', cs, fuel, p, h1, h2, h3, h4⟩ := h
  obtain rfl := Option.some.inj (hg.symm.trans h1)
  obtain rfl := Option.some.inj (ht.symm.trans h2)
  refine ⟨cs.toList, fuel, p, h4, fun i => ?_⟩
  rw [World.var?_cell hg h3 i, Array.getElem?_toList]

theorem gl_of {W : World} (h1 : Lib.VarReads Tryd.prog W "visor/look.openings" Rows.laid_visor_look_openings) (h2 : Lib.VarReads Tryd.prog W "visor/look.hasTables" Rows.laid_visor_look_hasTables) (h3 : Lib.VarReads Tryd.prog W "visor/look.keepsBytes" Rows.laid_visor_look_keepsBytes) : Gl W := by
  obtain ⟨cs1, f1, p1, d1, c1⟩ := reads_cells h1 (g := 1) (t := 175) (by kernel_rfl) (by kernel_rfl)
  obtain ⟨cs2, f2, p2, d2, c2⟩ := reads_cells h2 (g := 0) (t := 154) (by kernel_rfl) (by kernel_rfl)
  obtain ⟨cs3, f3, p3, d3, c3⟩ := reads_cells h3 (g := 4) (t := 208) (by kernel_rfl) (by kernel_rfl)
  have e1 := arr_cells (k := 3) Tryd.underlying175 (by kernel_rfl) (by kernel_rfl) (fun x : List (List UInt8) => .agg (x.map fun s => .lit (.string s))) _ (strings_el Tryd.underlying174 Tryd.underlying9 (by kernel_rfl) (by kernel_rfl)) [[[], [], []], [[0, 1, 0, 0], [116, 114, 117, 101], []], [[79, 84, 84, 79], [], []], [[116, 116, 99, 102], [119, 79, 70, 70], [119, 79, 70, 50]]] d1
  have e2 := arr_cells (k := 1) Tryd.underlying154 (by kernel_rfl) (by kernel_rfl) _ _ (bool_el Tryd.underlying4) [false, true, true, false] d2
  have e3 := arr_cells (k := 1) Tryd.underlying208 (by kernel_rfl) (by kernel_rfl) _ _ (bool_el Tryd.underlying4) [true, false, false, false, true] d3
  subst e1 e2 e3
  exact ⟨(c1 0).trans rfl, (c1 1).trans rfl, (c1 2).trans rfl, (c1 3).trans rfl, (c1 4).trans rfl, (c1 5).trans rfl, (c1 6).trans rfl, (c1 7).trans rfl, (c1 8).trans rfl, (c1 9).trans rfl, (c1 10).trans rfl, (c1 11).trans rfl, (c2 0).trans rfl, (c2 1).trans rfl, (c2 2).trans rfl, (c2 3).trans rfl, (c3 0).trans rfl, (c3 1).trans rfl, (c3 2).trans rfl, (c3 3).trans rfl, (c3 4).trans rfl⟩

theorem tab_is {W : World} (h : Lib.VarReads Tryd.prog W "math/bits.deBruijn64tab" Rows.laid_math_bits_deBruijn64tab) : W.cell? ⟨7, 15, none⟩ = some (.int .u8 4) := by
  obtain ⟨cs, f, p, d, c⟩ := reads_cells h (g := 7) (t := 214) (by kernel_rfl) (by kernel_rfl)
  have d' : DataW.trod (fun _ => ()) Tryd.prog W 0 (fun _ => true) false f 214 cs = some (Lib.tabData .u8 [0, 1, 56, 2, 57, 49, 28, 3, 61, 58, 42, 50, 38, 29, 17, 4, 62, 47, 59, 36, 45, 43, 51, 22, 53, 39, 33, 30, 24, 18, 12, 5, 63, 55, 48, 27, 60, 41, 37, 16, 46, 35, 44, 21, 52, 32, 23, 11, 54, 26, 40, 15, 34, 20, 31, 10, 25, 14, 19, 9, 13, 8, 7, 6], p) := d
  have e := Lib.cells_of_tab Tryd.underlying214 Tryd.underlying5 (by kernel_rfl) (by kernel_rfl) d'
  subst e
  exact (c 15).trans rfl

theorem addr_addN (b o j : Nat) : (⟨b, o, none⟩ : Addr).add j = ⟨b, o + j, none⟩ := by simp [Addr.add]
/-- a list of strings, a list of ints that come in -/
theorem cells1 {w : World} {a : Addr} {i : Nat} {v : Value} (h : w.cells? 0 (a.add i) 1 = some [v]) : w.cell? (a.add i) = some v := by
  obtain ⟨_, _, hc⟩ := World.cells?_some h
  have := hc 0 (by omega)
  simpa [Deep.add_add] using this
theorem addr_none {w : World} {a : Addr} {v : Value} (h : w.cell? a = some v) : ∃ g o, a = ⟨g, o, none⟩ := by
  obtain ⟨g, o, s⟩ := a
  cases s with
  | none => exact ⟨g, o, rfl⟩
  | some s =>
    unfold World.cell? at h
    split at h <;> simp at h

section
variable {H : Type} {enc : TypeId × Value → H} {w : World}
theorem cS : Tryd.prog.cellsOf 9 = 1 := by kernel_rfl
theorem cI : Tryd.prog.cellsOf 3 = 1 := by kernel_rfl
theorem cSS : Tryd.prog.cellsOf 56 = 1 := by kernel_rfl
theorem cSI : Tryd.prog.cellsOf 47 = 1 := by kernel_rfl
theorem cPol : Tryd.prog.cellsOf 58 = 3 := by kernel_rfl
theorem bS : Tryd.prog.bytesOf 9 = 16 := by kernel_rfl
theorem bI : Tryd.prog.bytesOf 3 = 8 := by kernel_rfl

theorem open_strs {fuel : Nat} {cs : List Value} {x : DataW H × List MemPlace} (h : DataW.trod enc Tryd.prog w 0 (fun _ => true) true fuel 56 cs = some x) :
    ∃ (T : Value) (l : List (List UInt8)), cs = [T] ∧ RowIs w T l.length (scells l) ∧ (∀ t ∈ l, t.length ≤ maxLen) ∧ l.length ≤ maxLen := by
  rcases open_slice Tryd.underlying56 h with ⟨rfl, rfl⟩ | ⟨a, len, cap, m, n, D, Pl, rfl, hb, hl, hm, hmm, rfl, hx⟩
  · exact ⟨_, [], rfl, ⟨none, 0, rfl, fun h => by simp at h⟩, by simp, by simp⟩
  · simp only [if_true] at hmm
    obtain ⟨q, hq⟩ := choose_lt (α := List UInt8) (p := fun i t => w.cell? (a.add i) = some (strV t) ∧ t.length ≤ maxLen) (n := len) (fun i hi => by
      obtain ⟨cs', h1, h2⟩ := hx i (by omega)
      obtain ⟨s, rfl, _, hs⟩ := DataW.trod_string Tryd.underlying9 h2
      rw [cS, Nat.mul_one] at h1
      exact ⟨s.data.toList, by unfold strV; exact cells1 h1, by simpa using hs⟩)
    have hlen : ((List.range len).map q).length = len := by simp
    refine ⟨_, (List.range len).map q, rfl, ?_, ?_, ?_⟩
    · rw [hlen]
      refine ⟨some a, cap, rfl, fun h0 => ?_⟩
      obtain ⟨g, o, rfl⟩ : ∃ g o, a = ⟨g, o, none⟩ := by
        have := (hq 0 h0).1
        obtain ⟨g, o, e⟩ := addr_none this
        exact ⟨g, o, by simpa [Addr.add] using e⟩
      refine ⟨g, o, rfl, fun j u hj => ?_⟩
      unfold scells at hj
      rw [List.getElem?_map] at hj
      obtain ⟨t, ht, rfl⟩ := Option.map_eq_some_iff.1 hj
      rw [List.getElem?_map] at ht
      obtain ⟨i', hi', rfl⟩ := Option.map_eq_some_iff.1 ht
      have hlt : j < len := by simpa using (List.getElem?_eq_some_iff.1 hi').1
      rw [List.getElem?_range hlt] at hi'
      cases hi'
      have := (hq j hlt).1
      rw [addr_addN] at this
      exact this
    · intro t ht
      obtain ⟨i, hi, rfl⟩ := List.mem_map.1 ht
      exact (hq i (List.mem_range.1 hi)).2
    · rw [hlen]
      omega
theorem open_ints {fuel : Nat} {cs : List Value} {x : DataW H × List MemPlace} (h : DataW.trod enc Tryd.prog w 0 (fun _ => true) true fuel 47 cs = some x) :
    ∃ (T : Value) (l : List Int), cs = [T] ∧ RowIs w T l.length (icells l) ∧ l.length ≤ maxLen ∧ ∀ i ∈ l, -9223372036854775808 ≤ i ∧ i ≤ 9223372036854775807 := by
  rcases open_slice Tryd.underlying47 h with ⟨rfl, rfl⟩ | ⟨a, len, cap, m, n, D, Pl, rfl, hb, hl, hm, hmm, rfl, hx⟩
  · exact ⟨_, [], rfl, ⟨none, 0, rfl, fun h => by simp at h⟩, by simp, by simp⟩
  · simp only [if_true] at hmm
    obtain ⟨q, hq⟩ := choose_lt (α := Int) (p := fun i t => w.cell? (a.add i) = some (.int .i64 t) ∧ (Lit.int .i64 t).wf = true) (n := len) (fun i hi => by
      obtain ⟨cs', h1, h2⟩ := hx i (by omega)
      obtain ⟨s, rfl, _, hs⟩ := DataW.trod_int Tryd.underlying3 h2
      rw [cI, Nat.mul_one] at h1
      exact ⟨s, cells1 h1, hs⟩)
    have hlen : ((List.range len).map q).length = len := by simp
    refine ⟨_, (List.range len).map q, rfl, ?_, ?_, ?_⟩
    · rw [hlen]
      refine ⟨some a, cap, rfl, fun h0 => ?_⟩
      obtain ⟨g, o, rfl⟩ : ∃ g o, a = ⟨g, o, none⟩ := by
        have := (hq 0 h0).1
        obtain ⟨g, o, e⟩ := addr_none this
        exact ⟨g, o, by simpa [Addr.add] using e⟩
      refine ⟨g, o, rfl, fun j u hj => ?_⟩
      unfold icells at hj
      rw [List.getElem?_map] at hj
      obtain ⟨t, ht, rfl⟩ := Option.map_eq_some_iff.1 hj
      rw [List.getElem?_map] at ht
      obtain ⟨i', hi', rfl⟩ := Option.map_eq_some_iff.1 ht
      have hlt : j < len := by simpa using (List.getElem?_eq_some_iff.1 hi').1
      rw [List.getElem?_range hlt] at hi'
      cases hi'
      have := (hq j hlt).1
      rw [addr_addN] at this
      exact this
    · rw [hlen]
      omega
    · intro t ht
      obtain ⟨i, hi, rfl⟩ := List.mem_map.1 ht
      have h1 := (hq i (List.mem_range.1 hi)).2
      have e1 : IntKind.i64.min = -9223372036854775808 := rfl
      have e2 : IntKind.i64.max = 9223372036854775807 := rfl
      simp [Lit.wf, e1, e2] at h1
      omega
set_option linter.constructorNameAsVariable false in
set_option maxRecDepth 100000 in
/-- a policy's three cells -/
theorem open_pol {fuel : Nat} {cs : List Value} {x : DataW H × List MemPlace} (h : DataW.trod enc Tryd.prog w 0 (fun _ => true) true fuel 58 cs = some x) :
    ∃ (P : Pol) (T I : Value), cs = [T, I, .int .i64 P.text] ∧ PolIs P T I w ∧ ∀ i ∈ P.ids, -9223372036854775808 ≤ i ∧ i ≤ 9223372036854775807 := by
  obtain ⟨y0, y1, y2, n, _, hl, h0, h1, h2⟩ := trod_struct3 Tryd.underlying58 h
  rw [cPol] at hl
  obtain ⟨a, b, c, rfl⟩ : ∃ a b c, cs = [a, b, c] := by
    match cs, hl with
    | [a, b, c], _ => exact ⟨a, b, c, rfl⟩
  simp only [cSS, cSI, cI, List.drop, List.take] at h0 h1 h2
  obtain ⟨T, l, e0, r0, q0, k0⟩ := open_strs h0
  obtain ⟨I, il, e1, r1, k1, k2⟩ := open_ints h1
  obtain ⟨t, e2, _, _⟩ := DataW.trod_int Tryd.underlying3 h2
  cases e0
  cases e1
  cases e2
  unfold maxLen at q0 k0 k1
  exact ⟨⟨l, il, t⟩, _, _, rfl, ⟨r0, r1, by omega, by omega, fun t ht => by have := q0 t ht; omega⟩, k2⟩
set_option linter.constructorNameAsVariable false in
set_option maxRecDepth 100000 in
theorem open_policy {v : Value} {d : DataW H} {ps : List MemPlace} {base : Nat} (hval : Value.okWide Tryd.prog w .any base 58 v) (h : DataW.Trod enc Tryd.prog w 0 (fun _ => true) true 58 v d ps) :
    ∃ (P : Pol) (T I : Value), v = pv T I P.text ∧ PolIs P T I w ∧ ∀ i ∈ P.ids, -9223372036854775808 ≤ i ∧ i ≤ 9223372036854775807 := by
  obtain ⟨cs, rfl, hsz⟩ := okWide_struct Tryd.underlying58 hval
  obtain ⟨fuel, hT⟩ := h
  obtain ⟨P, T, I, e, hp, hi⟩ := open_pol hT
  refine ⟨P, T, I, ?_, hp, hi⟩
  have e' : cs.toList = [T, I, .int .i64 P.text] := e
  unfold pv
  have : cs = #[T, I, .int .i64 P.text] := by
    apply Array.ext'
    exact e'
  rw [this]
end
end Go.Proofs.YteibjmlimcpaoaaDoor.W
