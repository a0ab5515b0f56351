/-
  What the rows' lists of laid variables give the walks; a policy that comes in, opened.
  How long a policy's lists can be that came in: as long as what they take of memory lets.
  A script that comes in, opened: its steps, how long it and what it holds can be.
-/
import Derived.Test.YteibjmlimcpaoaaGreatDoorWb
import Derived.Test.YteibjmlimcpaoaaGreatDoorRows
import Derived.OpenShut
import Derived.Lib.LaidTab
import Derived.Lib.LaidU8T
import Derived.Deep.Slices
import Derived.Deep.Strs
import Derived.Deep.DeepHandedRow
import Derived.SizedLaws
set_option linter.unusedVariables false
set_option linter.unusedSimpArgs false
namespace Go.Proofs.YteibjmlimcpaoaaGreatDoor.W
open Go.ChangeShapes Go.WideShapes Go.ChangeAt Go.RowKit Go.Deep

theorem chunks {α : Type} (k : Nat) (fC : α → List Value) : ∀ (L : List α) (cs : List Value), cs.length = L.length * k → (∀ (i : Nat) (x : α), L[i]? = some x → (cs.drop (i * k)).take k = fC x) → cs = L.flatMap fC
  | [], cs, hl, _ => by
    simp at hl
    simp [hl]
  | x :: r, cs, hl, h => by
    have h0 := h 0 x rfl
    rw [Nat.zero_mul, List.drop_zero] at h0
    have ih := chunks k fC r (cs.drop k) (by rw [List.length_drop, hl, List.length_cons, Nat.succ_mul]; omega) (fun i y hy => by
      have := h (i + 1) y (by simpa using hy)
      rw [Nat.succ_mul, Nat.add_comm] at this
      rw [List.drop_drop]
      exact this)
    rw [List.flatMap_cons, ← h0, ← ih, List.take_append_drop]

section
variable {H : Type} {enc : TypeId × Value → H} {P : Program} {w : World} {base : Nat} {sp : Nat → Bool} {held : Bool} {fuel : Nat}
theorem arr_cells {α : Type} {t e : TypeId} {n k : Nat} {cs : List Value} {p : List MemPlace} (ht : P.underlying t = some (.array n e)) (hk : P.cellsOf e = k) (hct : P.cellsOf t = n * k) (fD : α → DataW H) (fC : α → List Value)
    (hel : ∀ (m : Nat) (c : List Value) (y : DataW H × List MemPlace) (x : α), DataW.trod enc P w base sp held m e c = some y → y.1 = fD x → c = fC x) (L : List α)
    (h : DataW.trod enc P w base sp held fuel t cs = some (.agg (L.map fD), p)) : cs = L.flatMap fC := by
  obtain ⟨xs, m, _, hx, hl, hxl, hf⟩ := DataW.trod_array ht h
  have hxs : xs.map (·.1) = L.map fD := by
    have := congrArg Prod.fst hx
    simp only [DataW.agg.injEq] at this
    exact this.symm
  have hLl : L.length = n := by
    have := congrArg List.length hxs
    simp at this
    omega
  refine chunks k fC L cs (by rw [hl, hct, hLl]) (fun i x hi => ?_)
  have hin : i < n := by
    rw [← hLl]
    exact (List.getElem?_eq_some_iff.1 hi).1
  have h1 := hf i hin
  rw [hk] at h1
  obtain ⟨y, hy⟩ : ∃ y, xs[i]? = some y := ⟨_, List.getElem?_eq_getElem (by omega)⟩
  rw [hy] at h1
  refine hel m _ y x h1 ?_
  have h2 : (xs.map (·.1))[i]? = (L.map fD)[i]? := by rw [hxs]
  rw [List.getElem?_map, List.getElem?_map, hy, hi] at h2
  simpa using h2
theorem bool_el {e : TypeId} (he : P.underlying e = some .bool) (m : Nat) (c : List Value) (y : DataW H × List MemPlace) (x : Bool) (h : DataW.trod enc P w base sp held m e c = some y) (hy : y.1 = .lit (.bool x)) : c = [.bool x] := by
  obtain ⟨b, rfl, rfl⟩ := DataW.trod_bool he h
  simp only [DataW.lit.injEq, Lit.bool.injEq] at hy
  rw [hy]
theorem string_el {e : TypeId} (he : P.underlying e = some .string) (m : Nat) (c : List Value) (y : DataW H × List MemPlace) (x : List UInt8) (h : DataW.trod enc P w base sp held m e c = some y) (hy : y.1 = .lit (.string x)) : c = [.string ⟨x.toArray⟩] := by
  obtain ⟨b, rfl, rfl, _⟩ := DataW.trod_string he h
  simp only [DataW.lit.injEq, Lit.string.injEq] at hy
  rw [← hy]
theorem strings_el {t e : TypeId} {n : Nat} (ht : P.underlying t = some (.array n e)) (he : P.underlying e = some .string) (hk : P.cellsOf e = 1) (hct : P.cellsOf t = n * 1) (m : Nat) (c : List Value) (y : DataW H × List MemPlace) (x : List (List UInt8)) (h : DataW.trod enc P w base sp held m t c = some y) (hy : y.1 = .agg (x.map fun s => .lit (.string s))) : c = x.flatMap fun s => [.string ⟨s.toArray⟩] := by
  obtain ⟨d, p⟩ := y
  simp only at hy
  subst hy
  exact arr_cells ht hk hct _ _ (string_el he) x h
end

theorem reads_cells {P : Program} {w : World} {n : String} {d : DataW Unit} {g : Nat} {t : TypeId} (h : Lib.VarReads P w n d) (hg : P.globalNamed n = some g) (ht : (P.globals[g]?).map (·.type) = some t) :
    ∃ cs fuel p, DataW.trod (fun _ => ()) P w 0 (fun _ => true) false fuel t cs = some (d, p) ∧ ∀ i, w.cell? ⟨g, i, none⟩ = cs[i]? := by
  obtain ⟨g', t', cs, fuel, p, h1, h2, h3, h4⟩ := h
  obtain rfl := Option.some.inj (hg.symm.trans h1)
  obtain rfl := Option.some.inj (ht.symm.trans h2)
  refine ⟨cs.toList, fuel, p, h4, fun i => ?_⟩
  rw [World.var?_cell hg h3 i, Array.getElem?_toList]

theorem gl_of {W : World} (h1 : Lib.VarReads Tryz.prog W "visor/look.openings" Rows.laid_visor_look_openings) (h2 : Lib.VarReads Tryz.prog W "visor/look.hasTables" Rows.laid_visor_look_hasTables) (h3 : Lib.VarReads Tryz.prog W "visor/look.keepsBytes" Rows.laid_visor_look_keepsBytes) : Gl W := by
  obtain ⟨cs1, f1, p1, d1, c1⟩ := reads_cells h1 (g := 1) (t := 193) (by kernel_rfl) (by kernel_rfl)
  obtain ⟨cs2, f2, p2, d2, c2⟩ := reads_cells h2 (g := 0) (t := 166) (by kernel_rfl) (by kernel_rfl)
  obtain ⟨cs3, f3, p3, d3, c3⟩ := reads_cells h3 (g := 2) (t := 215) (by kernel_rfl) (by kernel_rfl)
  have e1 := arr_cells (k := 3) Tryz.underlying193 (by kernel_rfl) (by kernel_rfl) (fun x : List (List UInt8) => .agg (x.map fun s => .lit (.string s))) _ (strings_el Tryz.underlying192 Tryz.underlying9 (by kernel_rfl) (by kernel_rfl)) [[[], [], []], [[0, 1, 0, 0], [116, 114, 117, 101], []], [[79, 84, 84, 79], [], []], [[116, 116, 99, 102], [119, 79, 70, 70], [119, 79, 70, 50]]] d1
  have e2 := arr_cells (k := 1) Tryz.underlying166 (by kernel_rfl) (by kernel_rfl) _ _ (bool_el Tryz.underlying4) [false, true, true, false] d2
  have e3 := arr_cells (k := 1) Tryz.underlying215 (by kernel_rfl) (by kernel_rfl) _ _ (bool_el Tryz.underlying4) [true, false, false, false, true] d3
  subst e1 e2 e3
  exact ⟨(c1 0).trans rfl, (c1 1).trans rfl, (c1 2).trans rfl, (c1 3).trans rfl, (c1 4).trans rfl, (c1 5).trans rfl, (c1 6).trans rfl, (c1 7).trans rfl, (c1 8).trans rfl, (c1 9).trans rfl, (c1 10).trans rfl, (c1 11).trans rfl, (c2 0).trans rfl, (c2 1).trans rfl, (c2 2).trans rfl, (c2 3).trans rfl, (c3 0).trans rfl, (c3 1).trans rfl, (c3 2).trans rfl, (c3 3).trans rfl, (c3 4).trans rfl⟩

theorem tab_is {W : World} (h : Lib.VarReads Tryz.prog W "math/bits.deBruijn64tab" Rows.laid_math_bits_deBruijn64tab) : W.cell? ⟨7, 15, none⟩ = some (.int .u8 4) := by
  obtain ⟨cs, f, p, d, c⟩ := reads_cells h (g := 7) (t := 245) (by kernel_rfl) (by kernel_rfl)
  have d' : DataW.trod (fun _ => ()) Tryz.prog W 0 (fun _ => true) false f 245 cs = some (Lib.tabData .u8 [0, 1, 56, 2, 57, 49, 28, 3, 61, 58, 42, 50, 38, 29, 17, 4, 62, 47, 59, 36, 45, 43, 51, 22, 53, 39, 33, 30, 24, 18, 12, 5, 63, 55, 48, 27, 60, 41, 37, 16, 46, 35, 44, 21, 52, 32, 23, 11, 54, 26, 40, 15, 34, 20, 31, 10, 25, 14, 19, 9, 13, 8, 7, 6], p) := d
  have e := Lib.cells_of_tab Tryz.underlying245 Tryz.underlying5 (by kernel_rfl) (by kernel_rfl) d'
  subst e
  exact (c 15).trans rfl

theorem addr_addN (b o j : Nat) : (⟨b, o, none⟩ : Addr).add j = ⟨b, o + j, none⟩ := by simp [Addr.add]
/-- a list of strings, a list of ints that come in -/
theorem cells1 {w : World} {a : Addr} {i : Nat} {v : Value} (h : w.cells? 0 (a.add i) 1 = some [v]) : w.cell? (a.add i) = some v := by
  obtain ⟨_, _, hc⟩ := World.cells?_some h
  have := hc 0 (by omega)
  simpa [Deep.add_add] using this
theorem addr_none {w : World} {a : Addr} {v : Value} (h : w.cell? a = some v) : ∃ g o, a = ⟨g, o, none⟩ := by
  obtain ⟨g, o, s⟩ := a
  cases s with
  | none => exact ⟨g, o, rfl⟩
  | some s =>
    unfold World.cell? at h
    split at h <;> simp at h

section
variable {H : Type} {enc : TypeId × Value → H} {w : World}
theorem cS : Tryz.prog.cellsOf 9 = 1 := by kernel_rfl
theorem cI : Tryz.prog.cellsOf 3 = 1 := by kernel_rfl
theorem cSS : Tryz.prog.cellsOf 22 = 1 := by kernel_rfl
theorem cSI : Tryz.prog.cellsOf 23 = 1 := by kernel_rfl
theorem cPol : Tryz.prog.cellsOf 25 = 3 := by kernel_rfl
theorem bS : Tryz.prog.bytesOf 9 = 16 := by kernel_rfl
theorem bI : Tryz.prog.bytesOf 3 = 8 := by kernel_rfl

theorem open_strs {fuel : Nat} {cs : List Value} {x : DataW H × List MemPlace} (h : DataW.trod enc Tryz.prog w 0 (fun _ => true) true fuel 22 cs = some x) :
    ∃ (T : Value) (l : List (List UInt8)), cs = [T] ∧ RowIs w T l.length (scells l) ∧ (∀ t ∈ l, t.length ≤ maxLen) ∧ l.length ≤ maxLen := by
  rcases open_slice Tryz.underlying22 h with ⟨rfl, rfl⟩ | ⟨a, len, cap, m, n, D, Pl, rfl, hb, hl, hm, hmm, rfl, hx⟩
  · exact ⟨_, [], rfl, ⟨none, 0, rfl, fun h => by simp at h⟩, by simp, by simp⟩
  · simp only [if_true] at hmm
    obtain ⟨q, hq⟩ := choose_lt (α := List UInt8) (p := fun i t => w.cell? (a.add i) = some (strV t) ∧ t.length ≤ maxLen) (n := len) (fun i hi => by
      obtain ⟨cs', h1, h2⟩ := hx i (by omega)
      obtain ⟨s, rfl, _, hs⟩ := DataW.trod_string Tryz.underlying9 h2
      rw [cS, Nat.mul_one] at h1
      exact ⟨s.data.toList, by unfold strV; exact cells1 h1, by simpa using hs⟩)
    have hlen : ((List.range len).map q).length = len := by simp
    refine ⟨_, (List.range len).map q, rfl, ?_, ?_, ?_⟩
    · rw [hlen]
      refine ⟨some a, cap, rfl, fun h0 => ?_⟩
      obtain ⟨g, o, rfl⟩ : ∃ g o, a = ⟨g, o, none⟩ := by
        have := (hq 0 h0).1
        obtain ⟨g, o, e⟩ := addr_none this
        exact ⟨g, o, by simpa [Addr.add] using e⟩
      refine ⟨g, o, rfl, fun j u hj => ?_⟩
      unfold scells at hj
      rw [List.getElem?_map] at hj
      obtain ⟨t, ht, rfl⟩ := Option.map_eq_some_iff.1 hj
      rw [List.getElem?_map] at ht
      obtain ⟨i', hi', rfl⟩ := Option.map_eq_some_iff.1 ht
      have hlt : j < len := by simpa using (List.getElem?_eq_some_iff.1 hi').1
      rw [List.getElem?_range hlt] at hi'
      cases hi'
      have := (hq j hlt).1
      rw [addr_addN] at this
      exact this
    · intro t ht
      obtain ⟨i, hi, rfl⟩ := List.mem_map.1 ht
      exact (hq i (List.mem_range.1 hi)).2
    · rw [hlen]
      omega
theorem open_ints {fuel : Nat} {cs : List Value} {x : DataW H × List MemPlace} (h : DataW.trod enc Tryz.prog w 0 (fun _ => true) true fuel 23 cs = some x) :
    ∃ (T : Value) (l : List Int), cs = [T] ∧ RowIs w T l.length (icells l) ∧ l.length ≤ maxLen ∧ ∀ i ∈ l, -9223372036854775808 ≤ i ∧ i ≤ 9223372036854775807 := by
  rcases open_slice Tryz.underlying23 h with ⟨rfl, rfl⟩ | ⟨a, len, cap, m, n, D, Pl, rfl, hb, hl, hm, hmm, rfl, hx⟩
  · exact ⟨_, [], rfl, ⟨none, 0, rfl, fun h => by simp at h⟩, by simp, by simp⟩
  · simp only [if_true] at hmm
    obtain ⟨q, hq⟩ := choose_lt (α := Int) (p := fun i t => w.cell? (a.add i) = some (.int .i64 t) ∧ (Lit.int .i64 t).wf = true) (n := len) (fun i hi => by
      obtain ⟨cs', h1, h2⟩ := hx i (by omega)
      obtain ⟨s, rfl, _, hs⟩ := DataW.trod_int Tryz.underlying3 h2
      rw [cI, Nat.mul_one] at h1
      exact ⟨s, cells1 h1, hs⟩)
    have hlen : ((List.range len).map q).length = len := by simp
    refine ⟨_, (List.range len).map q, rfl, ?_, ?_, ?_⟩
    · rw [hlen]
      refine ⟨some a, cap, rfl, fun h0 => ?_⟩
      obtain ⟨g, o, rfl⟩ : ∃ g o, a = ⟨g, o, none⟩ := by
        have := (hq 0 h0).1
        obtain ⟨g, o, e⟩ := addr_none this
        exact ⟨g, o, by simpa [Addr.add] using e⟩
      refine ⟨g, o, rfl, fun j u hj => ?_⟩
      unfold icells at hj
      rw [List.getElem?_map] at hj
      obtain ⟨t, ht, rfl⟩ := Option.map_eq_some_iff.1 hj
      rw [List.getElem?_map] at ht
      obtain ⟨i', hi', rfl⟩ := Option.map_eq_some_iff.1 ht
      have hlt : j < len := by simpa using (List.getElem?_eq_some_iff.1 hi').1
      rw [List.getElem?_range hlt] at hi'
      cases hi'
      have := (hq j hlt).1
      rw [addr_addN] at this
      exact this
    · rw [hlen]
      omega
    · intro t ht
      obtain ⟨i, hi, rfl⟩ := List.mem_map.1 ht
      have h1 := (hq i (List.mem_range.1 hi)).2
      have e1 : IntKind.i64.min = -9223372036854775808 := rfl
      have e2 : IntKind.i64.max = 9223372036854775807 := rfl
      simp [Lit.wf, e1, e2] at h1
      omega
set_option linter.constructorNameAsVariable false in
set_option maxRecDepth 100000 in
/-- a policy's three cells -/
theorem open_pol {fuel : Nat} {cs : List Value} {x : DataW H × List MemPlace} (h : DataW.trod enc Tryz.prog w 0 (fun _ => true) true fuel 25 cs = some x) :
    ∃ (P : Pol) (T I : Value), cs = [T, I, .int .i64 P.text] ∧ PolIs P T I w ∧ ∀ i ∈ P.ids, -9223372036854775808 ≤ i ∧ i ≤ 9223372036854775807 := by
  obtain ⟨y0, y1, y2, n, _, hl, h0, h1, h2⟩ := trod_struct3 Tryz.underlying25 h
  rw [cPol] at hl
  obtain ⟨a, b, c, rfl⟩ : ∃ a b c, cs = [a, b, c] := by
    match cs, hl with
    | [a, b, c], _ => exact ⟨a, b, c, rfl⟩
  simp only [cSS, cSI, cI, List.drop, List.take] at h0 h1 h2
  obtain ⟨T, l, e0, r0, q0, k0⟩ := open_strs h0
  obtain ⟨I, il, e1, r1, k1, k2⟩ := open_ints h1
  obtain ⟨t, e2, _, _⟩ := DataW.trod_int Tryz.underlying3 h2
  cases e0
  cases e1
  cases e2
  unfold maxLen at q0 k0 k1
  exact ⟨⟨l, il, t⟩, _, _, rfl, ⟨r0, r1, by omega, by omega, fun t ht => by have := q0 t ht; omega⟩, k2⟩
set_option linter.constructorNameAsVariable false in
set_option maxRecDepth 100000 in
theorem open_policy {v : Value} {d : DataW H} {ps : List MemPlace} {base : Nat} (hval : Value.okWide Tryz.prog w .any base 25 v) (h : DataW.Trod enc Tryz.prog w 0 (fun _ => true) true 25 v d ps) :
    ∃ (P : Pol) (T I : Value), v = pv T I P.text ∧ PolIs P T I w ∧ ∀ i ∈ P.ids, -9223372036854775808 ≤ i ∧ i ≤ 9223372036854775807 := by
  obtain ⟨cs, rfl, hsz⟩ := okWide_struct Tryz.underlying25 hval
  obtain ⟨fuel, hT⟩ := h
  obtain ⟨P, T, I, e, hp, hi⟩ := open_pol hT
  refine ⟨P, T, I, ?_, hp, hi⟩
  have e' : cs.toList = [T, I, .int .i64 P.text] := e
  unfold pv
  have : cs = #[T, I, .int .i64 P.text] := by
    apply Array.ext'
    exact e'
  rw [this]
end
end Go.Proofs.YteibjmlimcpaoaaGreatDoor.W

set_option linter.unusedVariables false
set_option linter.unusedSimpArgs false
namespace Go.Proofs.YteibjmlimcpaoaaGreatDoor.W
open Go.ChangeShapes Go.WideShapes Go.ChangeAt Go.RowKit Go.Deep

section
variable {H : Type} {enc : TypeId × Value → H} {w : World}
theorem len_strs {fuel n cap : Nat} {ao : Option Addr} {x : DataW H × List MemPlace} (h : DataW.trod enc Tryz.prog w 0 (fun _ => true) true fuel 22 [.slice ao n cap] = some x) :
    n = 0 ∨ ∃ m ∈ x.1.weights Tryz.prog 22, n * 16 ≤ m := by
  rcases open_slice Tryz.underlying22 h with ⟨e, rfl⟩ | ⟨a, len, cap', m, n', D, Pl, e, hb, hl, hm, hmm, rfl, hx⟩
  · cases e
    exact .inl rfl
  · cases e
    simp only [if_true] at hmm
    refine .inr ⟨_, by simp only [DataW.weights, Tryz.underlying22]; exact List.mem_cons_self .., ?_⟩
    rw [bS]
    simp only [List.length_map, List.length_range]
    omega
theorem len_ints {fuel n cap : Nat} {ao : Option Addr} {x : DataW H × List MemPlace} (h : DataW.trod enc Tryz.prog w 0 (fun _ => true) true fuel 23 [.slice ao n cap] = some x) :
    n = 0 ∨ ∃ m ∈ x.1.weights Tryz.prog 23, n * 8 ≤ m := by
  rcases open_slice Tryz.underlying23 h with ⟨e, rfl⟩ | ⟨a, len, cap', m, n', D, Pl, e, hb, hl, hm, hmm, rfl, hx⟩
  · cases e
    exact .inl rfl
  · cases e
    simp only [if_true] at hmm
    refine .inr ⟨_, by simp only [DataW.weights, Tryz.underlying23]; exact List.mem_cons_self .., ?_⟩
    rw [bI]
    simp only [List.length_map, List.length_range]
    omega
set_option maxRecDepth 100000 in
/-- of three cells -/
theorem pol_len {fuel : Nat} {P : Pol} {T I : Value} {x : DataW H × List MemPlace} (h : DataW.trod enc Tryz.prog w 0 (fun _ => true) true fuel 25 [T, I, .int .i64 P.text] = some x) (hp : PolIs P T I w) (hm : ∀ m ∈ x.1.weights Tryz.prog 25, m ≤ 140737488351232) :
    P.tags.length ≤ 8796093021952 ∧ P.ids.length ≤ 17592186043904 := by
  obtain ⟨y0, y1, y2, n, hx, hl, h0, h1, h2⟩ := trod_struct3 Tryz.underlying25 h
  simp only [cSS, cSI, cI, List.drop, List.take] at h0 h1 h2
  obtain ⟨ta, tc, rfl, _⟩ := hp.tags
  obtain ⟨ia, ic, rfl, _⟩ := hp.ids
  have w0 : ∀ m ∈ y0.1.weights Tryz.prog 22, m ∈ x.1.weights Tryz.prog 25 := by
    intro m hm
    rw [hx]
    simp only [DataW.weights, Tryz.underlying25]
    exact DataW.weights_mem_each (j := 0) (t := 22) rfl rfl m hm
  have w1 : ∀ m ∈ y1.1.weights Tryz.prog 23, m ∈ x.1.weights Tryz.prog 25 := by
    intro m hm
    rw [hx]
    simp only [DataW.weights, Tryz.underlying25]
    exact DataW.weights_mem_each (j := 1) (t := 23) rfl rfl m hm
  refine ⟨?_, ?_⟩
  · rcases len_strs h0 with e | ⟨m, hm1, e⟩
    · omega
    · have := hm m (w0 m hm1)
      omega
  · rcases len_ints h1 with e | ⟨m, hm1, e⟩
    · omega
    · have := hm m (w1 m hm1)
      omega
theorem policy_len {P : Pol} {T I : Value} {d : DataW H} {ps : List MemPlace} (h : DataW.Trod enc Tryz.prog w 0 (fun _ => true) true 25 (pv T I P.text) d ps) (hp : PolIs P T I w) (hm : ∀ m ∈ d.weights Tryz.prog 25, m ≤ 140737488351232) :
    P.tags.length ≤ 8796093021952 ∧ P.ids.length ≤ 17592186043904 := by
  obtain ⟨fuel, hT⟩ := h
  exact pol_len hT hp hm
end
end Go.Proofs.YteibjmlimcpaoaaGreatDoor.W

set_option linter.unusedVariables false
set_option linter.unusedSimpArgs false
namespace Go.Proofs.YteibjmlimcpaoaaGreatDoor.W
open Go.ChangeShapes Go.WideShapes Go.ChangeAt Go.RowKit Go.Deep

/-- a step of a script -/
structure Ok1 where
  W : Int
  b : Int
  big : Bool
  new : Bool
  nil : Bool
  P : Pol
  T : Value
  I : Value
  D : List UInt8
def ocells : List Ok1 → List Value
  | [] => []
  | t :: r => .int .i64 t.W :: .int .i64 t.b :: .bool t.big :: .bool t.new :: .bool t.nil :: t.T :: t.I :: .int .i64 t.P.text :: strV t.D :: ocells r
theorem ocells_at : ∀ (l : List Ok1) (k : Nat) (x : Ok1), l[k]? = some x → (ocells l)[k * 9]? = some (.int .i64 x.W) ∧ (ocells l)[k * 9 + 1]? = some (.int .i64 x.b) ∧ (ocells l)[k * 9 + 2]? = some (.bool x.big) ∧ (ocells l)[k * 9 + 3]? = some (.bool x.new) ∧ (ocells l)[k * 9 + 4]? = some (.bool x.nil) ∧ (ocells l)[k * 9 + 5]? = some x.T ∧ (ocells l)[k * 9 + 6]? = some x.I ∧ (ocells l)[k * 9 + 7]? = some (.int .i64 x.P.text) ∧ (ocells l)[k * 9 + 8]? = some (strV x.D)
  | [], k, x, h => by simp at h
  | t :: r, 0, x, h => by
    simp only [List.getElem?_cons_zero, Option.some.injEq] at h
    subst h
    exact ⟨rfl, rfl, rfl, rfl, rfl, rfl, rfl, rfl, rfl⟩
  | t :: r, k + 1, x, h => by
    have := ocells_at r k x (by simpa using h)
    have e : (k + 1) * 9 = k * 9 + 9 := by omega
    rw [e]
    exact this
theorem ocells_get : ∀ (l : List Ok1) (j : Nat) (u : Value), (ocells l)[j]? = some u → ∃ i k t, l[i]? = some t ∧ j = i * 9 + k ∧ k < 9 ∧ (ocells [t])[k]? = some u
  | [], j, u, h => by simp [ocells] at h
  | t :: r, j, u, h => by
    by_cases hj : j < 9
    · refine ⟨0, j, t, rfl, by omega, hj, ?_⟩
      match j, hj with
      | 0, _ => exact h
      | 1, _ => exact h
      | 2, _ => exact h
      | 3, _ => exact h
      | 4, _ => exact h
      | 5, _ => exact h
      | 6, _ => exact h
      | 7, _ => exact h
      | 8, _ => exact h
    · obtain ⟨j', rfl⟩ : ∃ j', j = j' + 9 := ⟨j - 9, by omega⟩
      obtain ⟨i, k, x, hx, hc, hk, hu⟩ := ocells_get r j' u h
      exact ⟨i + 1, k, x, hx, by omega, hk, hu⟩
structure OkOk (w : World) (t : Ok1) : Prop where
  p : PolIs t.P t.T t.I w
  lt : t.P.tags.length ≤ 8796093021952
  ln : t.P.ids.length ≤ 17592186043904
  d : t.D.length ≤ 140737488351232
  b0 : -9223372036854775808 ≤ t.b
  b1 : t.b ≤ 9223372036854775807
  w0 : -9223372036854775808 ≤ t.W
  w1 : t.W ≤ 9223372036854775807

section
variable {H : Type} {enc : TypeId × Value → H} {P : Program} {w : World} {base : Nat} {spare : Nat → Bool} {held : Bool}
theorem trod_seven {t : TypeId} {f0 f1 f2 f3 f4 f5 f6 : Field} {fuel : Nat} {cs : List Value} {x : DataW H × List MemPlace} (ht : P.underlying t = some (.struct #[f0, f1, f2, f3, f4, f5, f6])) (h : DataW.trod enc P w base spare held fuel t cs = some x) :
    ∃ y0 y1 y2 y3 y4 y5 y6 n, x.1 = .agg [y0.1, y1.1, y2.1, y3.1, y4.1, y5.1, y6.1] ∧ cs.length = P.cellsOf t ∧
      DataW.trod enc P w base spare held n f0.type ((cs.drop f0.offset).take (P.cellsOf f0.type)) = some y0 ∧
      DataW.trod enc P w base spare held n f1.type ((cs.drop f1.offset).take (P.cellsOf f1.type)) = some y1 ∧
      DataW.trod enc P w base spare held n f2.type ((cs.drop f2.offset).take (P.cellsOf f2.type)) = some y2 ∧
      DataW.trod enc P w base spare held n f3.type ((cs.drop f3.offset).take (P.cellsOf f3.type)) = some y3 ∧
      DataW.trod enc P w base spare held n f4.type ((cs.drop f4.offset).take (P.cellsOf f4.type)) = some y4 ∧
      DataW.trod enc P w base spare held n f5.type ((cs.drop f5.offset).take (P.cellsOf f5.type)) = some y5 ∧
      DataW.trod enc P w base spare held n f6.type ((cs.drop f6.offset).take (P.cellsOf f6.type)) = some y6 := by
  obtain ⟨xs, n, _, rfl, hl, hlen, hf⟩ := DataW.trod_struct ht h
  match xs, hlen with
  | [y0, y1, y2, y3, y4, y5, y6], _ => exact ⟨y0, y1, y2, y3, y4, y5, y6, n, by simp, hl, by simpa using hf 0 f0 rfl, by simpa using hf 1 f1 rfl, by simpa using hf 2 f2 rfl, by simpa using hf 3 f3 rfl, by simpa using hf 4 f4 rfl, by simpa using hf 5 f5 rfl, by simpa using hf 6 f6 rfl⟩
theorem weightsAll_in {e : TypeId} : ∀ {l : List (DataW H)} {d : DataW H}, d ∈ l → ∀ n ∈ d.weights P e, n ∈ DataW.weightsAll P e l
  | [], d, h, n, hn => by cases h
  | x :: r, d, h, n, hn => by
    simp only [DataW.weightsAll, List.mem_append]
    rcases List.mem_cons.1 h with rfl | h
    · exact .inl hn
    · exact .inr (weightsAll_in h n hn)
end
section
variable {H : Type} {enc : TypeId × Value → H} {w : World}
theorem cOp : Tryz.prog.cellsOf 83 = 9 := by kernel_rfl
theorem bOp : Tryz.prog.bytesOf 83 = 96 := by kernel_rfl
theorem cB : Tryz.prog.cellsOf 4 = 1 := by kernel_rfl
instance : Inhabited Ok1 := ⟨⟨0, 0, false, false, false, ⟨[], [], 0⟩, .int .i64 0, .int .i64 0, []⟩⟩
theorem rng64 {x : Int} (h : (Lit.int .i64 x).wf = true) : -9223372036854775808 ≤ x ∧ x ≤ 9223372036854775807 := by
  have e1 : IntKind.i64.min = -9223372036854775808 := rfl
  have e2 : IntKind.i64.max = 9223372036854775807 := rfl
  simp [Lit.wf, e1, e2] at h
  omega

set_option linter.constructorNameAsVariable false in
set_option maxRecDepth 100000 in
theorem open_op {fuel : Nat} {cs : List Value} {x : DataW H × List MemPlace} (h : DataW.trod enc Tryz.prog w 0 (fun _ => true) true fuel 83 cs = some x) (hm : ∀ m ∈ x.1.weights Tryz.prog 83, m ≤ 140737488351232) :
    ∃ t : Ok1, cs = ocells [t] ∧ OkOk w t := by
  obtain ⟨y0, y1, y2, y3, y4, y5, y6, n, hx, hl, h0, h1, h2, h3, h4, h5, h6⟩ := trod_seven Tryz.underlying83 h
  rw [cOp] at hl
  obtain ⟨a, b, c, d, e, f, g, h', i, rfl⟩ : ∃ a b c d e f g h i, cs = [a, b, c, d, e, f, g, h, i] := by
    match cs, hl with
    | [a, b, c, d, e, f, g, h, i], _ => exact ⟨a, b, c, d, e, f, g, h, i, rfl⟩
  simp only [cPol, cS, cI, cB, List.drop, List.take] at h0 h1 h2 h3 h4 h5 h6
  obtain ⟨W, e0, _, k0⟩ := DataW.trod_int Tryz.underlying3 h0
  obtain ⟨B, e1, _, k1⟩ := DataW.trod_int Tryz.underlying3 h1
  obtain ⟨q2, e2, _⟩ := DataW.trod_bool Tryz.underlying4 h2
  obtain ⟨q3, e3, _⟩ := DataW.trod_bool Tryz.underlying4 h3
  obtain ⟨q4, e4, _⟩ := DataW.trod_bool Tryz.underlying4 h4
  obtain ⟨P, T, I, e5, hp, _⟩ := open_pol h5
  obtain ⟨s, e6, z6, hs⟩ := DataW.trod_string Tryz.underlying9 h6
  cases e0
  cases e1
  cases e2
  cases e3
  cases e4
  cases e5
  cases e6
  have w5 : ∀ m ∈ y5.1.weights Tryz.prog 25, m ≤ 140737488351232 := by
    intro m hm1
    refine hm m ?_
    rw [hx]
    simp only [DataW.weights, Tryz.underlying83]
    exact DataW.weights_mem_each (j := 5) (t := 25) rfl rfl m hm1
  have w6 : s.data.toList.length ≤ 140737488351232 := by
    refine hm _ ?_
    rw [hx]
    simp only [DataW.weights, Tryz.underlying83]
    refine DataW.weights_mem_each (j := 6) (t := 9) rfl rfl _ ?_
    rw [z6]
    simp [DataW.weights]
  obtain ⟨lt, ln⟩ := pol_len h5 hp w5
  have r0 := rng64 k0
  have r1 := rng64 k1
  exact ⟨⟨W, B, q2, q3, q4, P, _, _, s.data.toList⟩, rfl, hp, lt, ln, w6, r1.1, r1.2, r0.1, r0.2⟩

set_option linter.constructorNameAsVariable false in
set_option maxRecDepth 100000 in
theorem open_ops {v : Value} {d : DataW H} {ps : List MemPlace} {base : Nat} (hval : Value.okWide Tryz.prog w .any base 80 v) (h : DataW.Trod enc Tryz.prog w 0 (fun _ => true) true 80 v d ps) (hm : ∀ m ∈ d.weights Tryz.prog 80, m ≤ 140737488351232) :
    ∃ ts : List Ok1, ts.length ≤ 1466015503658 ∧ RowIs w v ts.length (ocells ts) ∧ ∀ t ∈ ts, OkOk w t := by
  obtain ⟨fuel, hT⟩ := h
  have main : ∀ cs : List Value, DataW.trod enc Tryz.prog w 0 (fun _ => true) true fuel 80 cs = some (d, ps) → ∃ (T : Value) (ts : List Ok1), cs = [T] ∧ ts.length ≤ 1466015503658 ∧ RowIs w T ts.length (ocells ts) ∧ ∀ t ∈ ts, OkOk w t := by
    intro cs h
    rcases open_slice Tryz.underlying80 h with ⟨rfl, _⟩ | ⟨a, len, cap, m, n, D, Pl, rfl, hb, hl, hm2, hmm, hx0, hx⟩
    · exact ⟨_, [], rfl, by simp, ⟨none, 0, rfl, fun h => by simp at h⟩, by simp⟩
    · simp only [if_true] at hmm
      have hd : d = .slice ((List.range len).map D) ((List.range (m - len)).map fun j => D (len + j)) := congrArg Prod.fst hx0
      have hlen96 : len * 96 ≤ 140737488351232 := by
        have : (((List.range len).map D).length + ((List.range (m - len)).map fun j => D (len + j)).length) * 96 ≤ 140737488351232 := by
          refine hm _ ?_
          rw [hd]
          simp only [DataW.weights, Tryz.underlying80, bOp]
          exact List.mem_cons_self ..
        simp only [List.length_map, List.length_range] at this
        omega
      obtain ⟨q, hq⟩ := choose_lt (α := Ok1) (p := fun i t => w.cells? 0 (a.add (i * 9)) 9 = some (ocells [t]) ∧ OkOk w t) (n := len) (fun i hi => by
        obtain ⟨cs', h1, h2⟩ := hx i (by omega)
        obtain ⟨t, rfl, ht⟩ := open_op h2 (fun m' hm' => by
          refine hm m' ?_
          rw [hd]
          simp only [DataW.weights, Tryz.underlying80]
          refine List.mem_cons_of_mem _ (List.mem_append_left _ (weightsAll_in (d := D i) (List.mem_map.2 ⟨i, List.mem_range.2 hi, rfl⟩) m' hm')))
        rw [cOp] at h1
        exact ⟨t, h1, ht⟩)
      have hlen : ((List.range len).map q).length = len := by simp
      refine ⟨_, (List.range len).map q, rfl, by rw [hlen]; omega, ?_, ?_⟩
      · rw [hlen]
        refine ⟨some a, cap, rfl, fun h0 => ?_⟩
        obtain ⟨g, o, rfl⟩ : ∃ g o, a = ⟨g, o, none⟩ := by
          obtain ⟨_, _, hc⟩ := World.cells?_some (hq 0 h0).1
          have h00 := hc 0 (by omega)
          obtain ⟨g, o, e⟩ := addr_none h00
          exact ⟨g, o, by simpa [Addr.add] using e⟩
        refine ⟨g, o, rfl, fun j u hj => ?_⟩
        obtain ⟨i, k, t, hi, rfl, hk, hu⟩ := ocells_get _ _ _ hj
        rw [List.getElem?_map] at hi
        obtain ⟨i', hi', rfl⟩ := Option.map_eq_some_iff.1 hi
        have hlt : i < len := by simpa using (List.getElem?_eq_some_iff.1 hi').1
        rw [List.getElem?_range hlt] at hi'
        cases hi'
        obtain ⟨_, _, hcell⟩ := World.cells?_some (hq i hlt).1
        have := hcell k (by omega)
        rw [Deep.add_add, addr_addN, hu] at this
        exact this
      · intro t ht
        obtain ⟨i, hi, rfl⟩ := List.mem_map.1 ht
        exact (hq i (List.mem_range.1 hi)).2
  obtain ⟨ao, n, c, rfl⟩ := okWide_slice Tryz.underlying80 hval
  obtain ⟨T, ts, e, h1, h2, h3⟩ := main _ hT
  cases e
  exact ⟨ts, h1, h2, h3⟩
end
end Go.Proofs.YteibjmlimcpaoaaGreatDoor.W
