/-
  A list of tasks that comes in, opened.
-/
import Derived.Test.YteibjmlimcpaoaaGreatDoorLay
import Derived.Test.YteibjmlimcpaoaaGreatDoorFrA
set_option linter.unusedVariables false
set_option linter.unusedSimpArgs false
namespace Go.Proofs.YteibjmlimcpaoaaGreatDoor.W
open Go.ChangeShapes Go.WideShapes Go.ChangeAt Go.RowKit Go.Deep

theorem kcells_get : ∀ (l : List Tk) (j : Nat) (u : Value), (kcells l)[j]? = some u → ∃ i t, l[i]? = some t ∧ ((j = i * 5 ∧ u = t.T) ∨ (j = i * 5 + 1 ∧ u = t.I) ∨ (j = i * 5 + 2 ∧ u = .int .i64 t.P.text) ∨ (j = i * 5 + 3 ∧ u = strV t.D) ∨ (j = i * 5 + 4 ∧ u = .int .i64 t.b))
  | [], j, u, h => by simp [kcells] at h
  | t :: r, 0, u, h => ⟨0, t, rfl, .inl ⟨rfl, by simpa [kcells] using h.symm⟩⟩
  | t :: r, 1, u, h => ⟨0, t, rfl, .inr (.inl ⟨rfl, by simpa [kcells] using h.symm⟩)⟩
  | t :: r, 2, u, h => ⟨0, t, rfl, .inr (.inr (.inl ⟨rfl, by simpa [kcells] using h.symm⟩))⟩
  | t :: r, 3, u, h => ⟨0, t, rfl, .inr (.inr (.inr (.inl ⟨rfl, by simpa [kcells] using h.symm⟩)))⟩
  | t :: r, 4, u, h => ⟨0, t, rfl, .inr (.inr (.inr (.inr ⟨rfl, by simpa [kcells] using h.symm⟩)))⟩
  | t :: r, j + 5, u, h => by
    obtain ⟨i, x, hx, hc⟩ := kcells_get r j u (by simpa [kcells] using h)
    refine ⟨i + 1, x, hx, ?_⟩
    rcases hc with ⟨rfl, k⟩ | ⟨rfl, k⟩ | ⟨rfl, k⟩ | ⟨rfl, k⟩ | ⟨rfl, k⟩
    · exact .inl ⟨by omega, k⟩
    · exact .inr (.inl ⟨by omega, k⟩)
    · exact .inr (.inr (.inl ⟨by omega, k⟩))
    · exact .inr (.inr (.inr (.inl ⟨by omega, k⟩)))
    · exact .inr (.inr (.inr (.inr ⟨by omega, k⟩)))

section
variable {H : Type} {enc : TypeId × Value → H} {w : World}
theorem cTk : Tryz.prog.cellsOf 77 = 5 := by kernel_rfl
instance : Inhabited Tk := ⟨⟨⟨[], [], 0⟩, .int .i64 0, .int .i64 0, [], 0⟩⟩

set_option linter.constructorNameAsVariable false in
set_option maxRecDepth 100000 in
theorem open_task {fuel : Nat} {cs : List Value} {x : DataW H × List MemPlace} (h : DataW.trod enc Tryz.prog w 0 (fun _ => true) true fuel 77 cs = some x) :
    ∃ t : Tk, cs = [t.T, t.I, .int .i64 t.P.text, strV t.D, .int .i64 t.b] ∧ TkOk w t := by
  obtain ⟨y0, y1, y2, n, _, hl, h0, h1, h2⟩ := trod_struct3 Tryz.underlying77 h
  rw [cTk] at hl
  obtain ⟨a, b, c, d, e, rfl⟩ : ∃ a b c d e, cs = [a, b, c, d, e] := by
    match cs, hl with
    | [a, b, c, d, e], _ => exact ⟨a, b, c, d, e, rfl⟩
  simp only [cPol, cS, cI, List.drop, List.take] at h0 h1 h2
  obtain ⟨P, T, I, e0, hp, _⟩ := open_pol h0
  obtain ⟨s, e1, _, hs⟩ := DataW.trod_string Tryz.underlying9 h1
  obtain ⟨t, e2, _, hw⟩ := DataW.trod_int Tryz.underlying3 h2
  cases e0
  cases e1
  cases e2
  refine ⟨⟨P, _, _, s.data.toList, t⟩, rfl, hp, ?_, ?_⟩
  · unfold maxLen at hs
    have e : s.data.toList.length = s.size := by simp
    simp only
    omega
  · have e1 : IntKind.i64.min = -9223372036854775808 := rfl
    have e2 : IntKind.i64.max = 9223372036854775807 := rfl
    simp [Lit.wf, e1, e2] at hw
    simp only
    omega

set_option linter.constructorNameAsVariable false in
set_option maxRecDepth 100000 in
theorem open_tasks {v : Value} {d : DataW H} {ps : List MemPlace} {base : Nat} (hval : Value.okWide Tryz.prog w .any base 75 v) (h : DataW.Trod enc Tryz.prog w 0 (fun _ => true) true 75 v d ps) :
    ∃ ts : List Tk, ts.length ≤ 9223372036854775807 ∧ RowIs w v ts.length (kcells ts) ∧ ∀ t ∈ ts, TkOk w t := by
  obtain ⟨fuel, hT⟩ := h
  have main : ∀ cs : List Value, DataW.trod enc Tryz.prog w 0 (fun _ => true) true fuel 75 cs = some (d, ps) → ∃ (T : Value) (ts : List Tk), cs = [T] ∧ ts.length ≤ 9223372036854775807 ∧ RowIs w T ts.length (kcells ts) ∧ ∀ t ∈ ts, TkOk w t := by
    intro cs h
    rcases open_slice Tryz.underlying75 h with ⟨rfl, _⟩ | ⟨a, len, cap, m, n, D, Pl, rfl, hb, hl, hm, hmm, _, hx⟩
    · exact ⟨_, [], rfl, by simp, ⟨none, 0, rfl, fun h => by simp at h⟩, by simp⟩
    · simp only [if_true] at hmm
      obtain ⟨q, hq⟩ := choose_lt (α := Tk) (p := fun i t => w.cells? 0 (a.add (i * 5)) 5 = some [t.T, t.I, .int .i64 t.P.text, strV t.D, .int .i64 t.b] ∧ TkOk w t) (n := len) (fun i hi => by
        obtain ⟨cs', h1, h2⟩ := hx i (by omega)
        obtain ⟨t, rfl, ht⟩ := open_task h2
        rw [cTk] at h1
        exact ⟨t, h1, ht⟩)
      have hlen : ((List.range len).map q).length = len := by simp
      have hlm : len ≤ maxLen := by omega
      unfold maxLen at hlm
      refine ⟨_, (List.range len).map q, rfl, by rw [hlen]; omega, ?_, ?_⟩
      · rw [hlen]
        refine ⟨some a, cap, rfl, fun h0 => ?_⟩
        obtain ⟨g, o, rfl⟩ : ∃ g o, a = ⟨g, o, none⟩ := by
          obtain ⟨_, _, hc⟩ := World.cells?_some (hq 0 h0).1
          have h00 := hc 0 (by omega)
          obtain ⟨g, o, e⟩ := addr_none h00
          exact ⟨g, o, by simpa [Addr.add] using e⟩
        refine ⟨g, o, rfl, fun j u hj => ?_⟩
        obtain ⟨i, t, hi, hc⟩ := kcells_get _ _ _ hj
        rw [List.getElem?_map] at hi
        obtain ⟨i', hi', rfl⟩ := Option.map_eq_some_iff.1 hi
        have hlt : i < len := by simpa using (List.getElem?_eq_some_iff.1 hi').1
        rw [List.getElem?_range hlt] at hi'
        cases hi'
        obtain ⟨_, _, hcell⟩ := World.cells?_some (hq i hlt).1
        rcases hc with ⟨rfl, rfl⟩ | ⟨rfl, rfl⟩ | ⟨rfl, rfl⟩ | ⟨rfl, rfl⟩ | ⟨rfl, rfl⟩
        · have := hcell 0 (by omega)
          rw [Deep.add_add, addr_addN] at this
          exact this
        · have := hcell 1 (by omega)
          rw [Deep.add_add, addr_addN] at this
          exact this
        · have := hcell 2 (by omega)
          rw [Deep.add_add, addr_addN] at this
          exact this
        · have := hcell 3 (by omega)
          rw [Deep.add_add, addr_addN] at this
          exact this
        · have := hcell 4 (by omega)
          rw [Deep.add_add, addr_addN] at this
          exact this
      · intro t ht
        obtain ⟨i, hi, rfl⟩ := List.mem_map.1 ht
        exact (hq i (List.mem_range.1 hi)).2
  obtain ⟨ao, n, c, rfl⟩ := okWide_slice Tryz.underlying75 hval
  obtain ⟨T, ts, e, h1, h2, h3⟩ := main _ hT
  cases e
  exact ⟨ts, h1, h2, h3⟩
end
end Go.Proofs.YteibjmlimcpaoaaGreatDoor.W
