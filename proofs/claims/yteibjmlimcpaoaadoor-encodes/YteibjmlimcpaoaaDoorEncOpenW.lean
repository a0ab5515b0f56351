/-
  A report that comes in, opened: its numbers, and its two lists with what lies in their cells; how many they are is bounded by the reading's bulk.
-/
import Derived.SizedLaws
import Derived.Test.YteibjmlimcpaoaaDoorRows
import Derived.Test.YteibjmlimcpaoaaDoorNames
import Derived.Deep.Slices
import Derived.Deep.Strs
import Derived.Deep.DeepHandedRow
set_option linter.unusedVariables false
set_option linter.unusedSimpArgs false
namespace Go.Proofs.YteibjmlimcpaoaaDoor
open Go.ChangeShapes Go.WideShapes Go.ChangeAt Go.RowKit Go.Deep

theorem tcells_get : ∀ (l : List Tab) (j : Nat) (u : Value), (tcells l)[j]? = some u → ∃ i t, l[i]? = some t ∧ ((j = i * 3 ∧ u = .string t.tag) ∨ (j = i * 3 + 1 ∧ u = .int .i64 t.st) ∨ (j = i * 3 + 2 ∧ u = .int .i64 t.sz))
  | [], j, u, h => by simp [tcells] at h
  | t :: r, 0, u, h => ⟨0, t, rfl, .inl ⟨rfl, by simpa [tcells] using h.symm⟩⟩
  | t :: r, 1, u, h => ⟨0, t, rfl, .inr (.inl ⟨rfl, by simpa [tcells] using h.symm⟩)⟩
  | t :: r, 2, u, h => ⟨0, t, rfl, .inr (.inr ⟨rfl, by simpa [tcells] using h.symm⟩)⟩
  | t :: r, j + 3, u, h => by
    obtain ⟨i, x, hx, hc⟩ := tcells_get r j u (by simpa [tcells] using h)
    refine ⟨i + 1, x, hx, ?_⟩
    rcases hc with ⟨rfl, k⟩ | ⟨rfl, k⟩ | ⟨rfl, k⟩
    · exact .inl ⟨by omega, k⟩
    · exact .inr (.inl ⟨by omega, k⟩)
    · exact .inr (.inr ⟨by omega, k⟩)
theorem ncells_get : ∀ (l : List Nm) (j : Nat) (u : Value), (ncells l)[j]? = some u → ∃ i t, l[i]? = some t ∧ ((j = i * 7 ∧ u = .int .i64 t.pl) ∨ (j = i * 7 + 1 ∧ u = .int .i64 t.en) ∨ (j = i * 7 + 2 ∧ u = .int .i64 t.la) ∨ (j = i * 7 + 3 ∧ u = .int .i64 t.id) ∨ (j = i * 7 + 4 ∧ u = .int .i64 t.st) ∨ (j = i * 7 + 5 ∧ u = .int .i64 t.ms) ∨ (j = i * 7 + 6 ∧ u = .string t.tx))
  | [], j, u, h => by simp [ncells] at h
  | t :: r, 0, u, h => ⟨0, t, rfl, .inl ⟨rfl, by simpa [ncells] using h.symm⟩⟩
  | t :: r, 1, u, h => ⟨0, t, rfl, .inr (.inl ⟨rfl, by simpa [ncells] using h.symm⟩)⟩
  | t :: r, 2, u, h => ⟨0, t, rfl, .inr (.inr (.inl ⟨rfl, by simpa [ncells] using h.symm⟩))⟩
  | t :: r, 3, u, h => ⟨0, t, rfl, .inr (.inr (.inr (.inl ⟨rfl, by simpa [ncells] using h.symm⟩)))⟩
  | t :: r, 4, u, h => ⟨0, t, rfl, .inr (.inr (.inr (.inr (.inl ⟨rfl, by simpa [ncells] using h.symm⟩))))⟩
  | t :: r, 5, u, h => ⟨0, t, rfl, .inr (.inr (.inr (.inr (.inr (.inl ⟨rfl, by simpa [ncells] using h.symm⟩)))))⟩
  | t :: r, 6, u, h => ⟨0, t, rfl, .inr (.inr (.inr (.inr (.inr (.inr ⟨rfl, by simpa [ncells] using h.symm⟩)))))⟩
  | t :: r, j + 7, u, h => by
    obtain ⟨i, x, hx, hc⟩ := ncells_get r j u (by simpa [ncells] using h)
    refine ⟨i + 1, x, hx, ?_⟩
    rcases hc with ⟨rfl, k⟩ | ⟨rfl, k⟩ | ⟨rfl, k⟩ | ⟨rfl, k⟩ | ⟨rfl, k⟩ | ⟨rfl, k⟩ | ⟨rfl, k⟩
    · exact .inl ⟨by omega, k⟩
    · exact .inr (.inl ⟨by omega, k⟩)
    · exact .inr (.inr (.inl ⟨by omega, k⟩))
    · exact .inr (.inr (.inr (.inl ⟨by omega, k⟩)))
    · exact .inr (.inr (.inr (.inr (.inl ⟨by omega, k⟩))))
    · exact .inr (.inr (.inr (.inr (.inr (.inl ⟨by omega, k⟩)))))
    · exact .inr (.inr (.inr (.inr (.inr (.inr ⟨by omega, k⟩)))))

section
variable {H : Type}
theorem bulk_pos (d : DataW H) : 1 ≤ Rows.uptoBulk d := by
  cases d with
  | lit l => cases l <;> simp [Rows.uptoBulk]
  | _ => simp [Rows.uptoBulk]
theorem bulkAll_len : ∀ l : List (DataW H), l.length ≤ Rows.uptoBulkAll l
  | [] => by simp [Rows.uptoBulkAll]
  | d :: r => by
    have h1 := bulk_pos d
    have h2 := bulkAll_len r
    simp only [Rows.uptoBulkAll, List.length_cons]
    omega
theorem bulkAll_mem : ∀ (l : List (DataW H)) (d : DataW H), d ∈ l → Rows.uptoBulk d ≤ Rows.uptoBulkAll l
  | [], d, h => by cases h
  | x :: r, d, h => by
    simp only [Rows.uptoBulkAll]
    rcases List.mem_cons.1 h with rfl | h
    · omega
    · have := bulkAll_mem r d h
      omega
end

section
variable {H : Type} {enc : TypeId × Value → H} {P : Program} {w : World} {base : Nat} {spare : Nat → Bool} {held : Bool}
theorem trod_struct7 {t : TypeId} {f0 f1 f2 f3 f4 f5 f6 : Field} {fuel : Nat} {cs : List Value} {x : DataW H × List MemPlace} (ht : P.underlying t = some (.struct #[f0, f1, f2, f3, f4, f5, f6])) (h : DataW.trod enc P w base spare held fuel t cs = some x) :
    ∃ y0 y1 y2 y3 y4 y5 y6 n, x.1 = .agg [y0.1, y1.1, y2.1, y3.1, y4.1, y5.1, y6.1] ∧ cs.length = P.cellsOf t ∧
      DataW.trod enc P w base spare held n f0.type ((cs.drop f0.offset).take (P.cellsOf f0.type)) = some y0 ∧
      DataW.trod enc P w base spare held n f1.type ((cs.drop f1.offset).take (P.cellsOf f1.type)) = some y1 ∧
      DataW.trod enc P w base spare held n f2.type ((cs.drop f2.offset).take (P.cellsOf f2.type)) = some y2 ∧
      DataW.trod enc P w base spare held n f3.type ((cs.drop f3.offset).take (P.cellsOf f3.type)) = some y3 ∧
      DataW.trod enc P w base spare held n f4.type ((cs.drop f4.offset).take (P.cellsOf f4.type)) = some y4 ∧
      DataW.trod enc P w base spare held n f5.type ((cs.drop f5.offset).take (P.cellsOf f5.type)) = some y5 ∧
      DataW.trod enc P w base spare held n f6.type ((cs.drop f6.offset).take (P.cellsOf f6.type)) = some y6 := by
  obtain ⟨xs, n, _, rfl, hl, hlen, hf⟩ := DataW.trod_struct ht h
  match xs, hlen with
  | [y0, y1, y2, y3, y4, y5, y6], _ => exact ⟨y0, y1, y2, y3, y4, y5, y6, n, by simp, hl, by simpa using hf 0 f0 rfl, by simpa using hf 1 f1 rfl, by simpa using hf 2 f2 rfl, by simpa using hf 3 f3 rfl, by simpa using hf 4 f4 rfl, by simpa using hf 5 f5 rfl, by simpa using hf 6 f6 rfl⟩
end

theorem c3 : Tryd.prog.cellsOf 3 = 1 := by kernel_rfl
theorem c9 : Tryd.prog.cellsOf 9 = 1 := by kernel_rfl
theorem c28 : Tryd.prog.cellsOf 28 = 1 := by kernel_rfl
theorem c33 : Tryd.prog.cellsOf 33 = 1 := by kernel_rfl
theorem c30 : Tryd.prog.cellsOf 30 = 3 := by kernel_rfl
theorem c32 : Tryd.prog.cellsOf 32 = 3 := by kernel_rfl
theorem c35 : Tryd.prog.cellsOf 35 = 3 := by kernel_rfl
theorem c63 : Tryd.prog.cellsOf 77 = 3 := by kernel_rfl
theorem c65 : Tryd.prog.cellsOf 79 = 7 := by kernel_rfl
theorem c37 : Tryd.prog.cellsOf 37 = 13 := by kernel_rfl

theorem list3 {α : Type} : ∀ (l : List α), l.length = 3 → ∃ a b c, l = [a, b, c]
  | [a, b, c], _ => ⟨a, b, c, rfl⟩
theorem list7 {α : Type} : ∀ (l : List α), l.length = 7 → ∃ a b c d e f g, l = [a, b, c, d, e, f, g]
  | [a, b, c, d, e, f, g], _ => ⟨a, b, c, d, e, f, g, rfl⟩
theorem list13 {α : Type} : ∀ (l : List α), l.length = 13 → ∃ a b c d e f g h i j k m n, l = [a, b, c, d, e, f, g, h, i, j, k, m, n]
  | [a, b, c, d, e, f, g, h, i, j, k, m, n], _ => ⟨a, b, c, d, e, f, g, h, i, j, k, m, n, rfl⟩

instance : Inhabited Tab := ⟨⟨⟨#[]⟩, 0, 0⟩⟩
instance : Inhabited Nm := ⟨⟨0, 0, 0, 0, 0, 0, ⟨#[]⟩⟩⟩

section
variable {H : Type} {enc : TypeId × Value → H} {w : World} {sp : Nat → Bool}

/-- one table -/
theorem open_tab {fuel : Nat} {cs : List Value} {x : DataW H × List MemPlace} (h : DataW.trod enc Tryd.prog w 0 sp true fuel 77 cs = some x) : ∃ t : Tab, cs = [.string t.tag, .int .i64 t.st, .int .i64 t.sz] := by
  obtain ⟨y0, y1, y2, n, _, hl, h0, h1, h2⟩ := trod_struct3 Tryd.underlying77 h
  rw [c63] at hl
  obtain ⟨a, b, c, rfl⟩ := list3 _ hl
  simp only [c3, c9, List.drop, List.take] at h0 h1 h2
  obtain ⟨s, e0, _, _⟩ := DataW.trod_string Tryd.underlying9 h0
  obtain ⟨p, e1, _, _⟩ := DataW.trod_int Tryd.underlying3 h1
  obtain ⟨q, e2, _, _⟩ := DataW.trod_int Tryd.underlying3 h2
  cases e0
  cases e1
  cases e2
  exact ⟨⟨s, p, q⟩, rfl⟩
/-- one name -/
theorem open_nm {fuel : Nat} {cs : List Value} {x : DataW H × List MemPlace} (h : DataW.trod enc Tryd.prog w 0 sp true fuel 79 cs = some x) : ∃ t : Nm, cs = [.int .i64 t.pl, .int .i64 t.en, .int .i64 t.la, .int .i64 t.id, .int .i64 t.st, .int .i64 t.ms, .string t.tx] ∧ t.tx.size ≤ maxLen := by
  obtain ⟨y0, y1, y2, y3, y4, y5, y6, n, hx, hl, h0, h1, h2, h3, h4, h5, h6⟩ := trod_struct7 Tryd.underlying79 h
  rw [c65] at hl
  obtain ⟨a, b, c, d, e, f, g, rfl⟩ := list7 _ hl
  simp only [c3, c9, List.drop, List.take] at h0 h1 h2 h3 h4 h5 h6
  obtain ⟨p0, e0, _, _⟩ := DataW.trod_int Tryd.underlying3 h0
  obtain ⟨p1, e1, _, _⟩ := DataW.trod_int Tryd.underlying3 h1
  obtain ⟨p2, e2, _, _⟩ := DataW.trod_int Tryd.underlying3 h2
  obtain ⟨p3, e3, _, _⟩ := DataW.trod_int Tryd.underlying3 h3
  obtain ⟨p4, e4, _, _⟩ := DataW.trod_int Tryd.underlying3 h4
  obtain ⟨p5, e5, _, _⟩ := DataW.trod_int Tryd.underlying3 h5
  obtain ⟨s, e6, hy, hs⟩ := DataW.trod_string Tryd.underlying9 h6
  cases e0
  cases e1
  cases e2
  cases e3
  cases e4
  cases e5
  cases e6
  exact ⟨⟨p0, p1, p2, p3, p4, p5, s⟩, rfl, hs⟩

theorem by63 : Tryd.prog.bytesOf 77 = 32 := by kernel_rfl
theorem by65 : Tryd.prog.bytesOf 79 = 64 := by kernel_rfl
theorem spot_none {a : Addr} {k : Nat} {cs : List Value} (h : w.cells? 0 (a.add 0) (k + 1) = some cs) : ∃ g o, a = ⟨g, o, none⟩ := by
  obtain ⟨_, hl, hc⟩ := World.cells?_some h
  have h0 := hc 0 (by omega)
  rw [List.getElem?_eq_getElem (by omega)] at h0
  obtain ⟨g, o, s⟩ := a
  cases s with
  | none => exact ⟨g, o, rfl⟩
  | some s =>
    simp only [Addr.add, if_true] at h0
    unfold World.cell? at h0
    split at h0 <;> simp at h0

theorem open_tabs {fuel : Nat} {cs : List Value} {x : DataW H × List MemPlace} (h : DataW.trod enc Tryd.prog w 0 (fun _ => true) true fuel 28 cs = some x) :
    ∃ (T : Value) (lt : List Tab), cs = [T] ∧ RowIs w T lt.length (tcells lt) ∧ (lt.length = 0 ∨ ∃ m ∈ x.1.weights Tryd.prog 28, lt.length * 32 ≤ m) := by
  rcases open_slice Tryd.underlying28 h with ⟨rfl, rfl⟩ | ⟨a, len, cap, m, n, D, Pl, rfl, hb, hl, hm, hmm, rfl, hx⟩
  · exact ⟨_, [], rfl, ⟨none, 0, rfl, fun h => by simp at h⟩, .inl rfl⟩
  · simp only [if_true] at hmm
    obtain ⟨q, hq⟩ := choose_lt (α := Tab) (p := fun i t => w.cells? 0 (a.add (i * 3)) 3 = some [.string t.tag, .int .i64 t.st, .int .i64 t.sz]) (n := len) (fun i hi => by
      obtain ⟨cs', h1, h2⟩ := hx i (by omega)
      obtain ⟨t, rfl⟩ := open_tab h2
      rw [c63] at h1
      exact ⟨t, h1⟩)
    have hlen : ((List.range len).map q).length = len := by simp
    refine ⟨_, (List.range len).map q, rfl, ?_, ?_⟩
    · rw [hlen]
      refine ⟨some a, cap, rfl, fun h0 => ?_⟩
      obtain ⟨g, o, rfl⟩ := spot_none (k := 2) (by have := hq 0 h0; rw [Nat.zero_mul] at this; exact this)
      refine ⟨g, o, rfl, fun j u hj => ?_⟩
      obtain ⟨i, t, hi, hc⟩ := tcells_get _ _ _ hj
      rw [List.getElem?_map] at hi
      obtain ⟨i', hi', rfl⟩ := Option.map_eq_some_iff.1 hi
      have hlt : i < len := by simpa using (List.getElem?_eq_some_iff.1 hi').1
      rw [List.getElem?_range hlt] at hi'
      cases hi'
      obtain ⟨_, _, hcell⟩ := World.cells?_some (hq i hlt)
      rcases hc with ⟨rfl, rfl⟩ | ⟨rfl, rfl⟩ | ⟨rfl, rfl⟩
      · have := hcell 0 (by omega)
        rw [Deep.add_add, addr_add] at this
        exact this
      · have := hcell 1 (by omega)
        rw [Deep.add_add, addr_add] at this
        exact this
      · have := hcell 2 (by omega)
        rw [Deep.add_add, addr_add] at this
        exact this
    · rw [hlen]
      refine .inr ⟨_, by simp only [DataW.weights, Tryd.underlying28]; exact List.mem_cons_self .., ?_⟩
      rw [by63]
      simp only [List.length_map, List.length_range]
      omega
theorem open_nms {fuel : Nat} {cs : List Value} {x : DataW H × List MemPlace} (h : DataW.trod enc Tryd.prog w 0 (fun _ => true) true fuel 33 cs = some x) :
    ∃ (T : Value) (ln : List Nm), cs = [T] ∧ RowIs w T ln.length (ncells ln) ∧ (ln.length = 0 ∨ ∃ m ∈ x.1.weights Tryd.prog 33, ln.length * 64 ≤ m) ∧ ∀ t ∈ ln, t.tx.size ≤ maxLen := by
  rcases open_slice Tryd.underlying33 h with ⟨rfl, rfl⟩ | ⟨a, len, cap, m, n, D, Pl, rfl, hb, hl, hm, hmm, rfl, hx⟩
  · exact ⟨_, [], rfl, ⟨none, 0, rfl, fun h => by simp at h⟩, .inl rfl, by simp⟩
  · simp only [if_true] at hmm
    obtain ⟨q, hq⟩ := choose_lt (α := Nm) (p := fun i t => w.cells? 0 (a.add (i * 7)) 7 = some [.int .i64 t.pl, .int .i64 t.en, .int .i64 t.la, .int .i64 t.id, .int .i64 t.st, .int .i64 t.ms, .string t.tx] ∧ t.tx.size ≤ maxLen) (n := len) (fun i hi => by
      obtain ⟨cs', h1, h2⟩ := hx i (by omega)
      obtain ⟨t, rfl, ht⟩ := open_nm h2
      rw [c65] at h1
      exact ⟨t, h1, ht⟩)
    have hlen : ((List.range len).map q).length = len := by simp
    refine ⟨_, (List.range len).map q, rfl, ?_, ?_, ?_⟩
    · rw [hlen]
      refine ⟨some a, cap, rfl, fun h0 => ?_⟩
      obtain ⟨g, o, rfl⟩ := spot_none (k := 6) (by have := (hq 0 h0).1; rw [Nat.zero_mul] at this; exact this)
      refine ⟨g, o, rfl, fun j u hj => ?_⟩
      obtain ⟨i, t, hi, hc⟩ := ncells_get _ _ _ hj
      rw [List.getElem?_map] at hi
      obtain ⟨i', hi', rfl⟩ := Option.map_eq_some_iff.1 hi
      have hlt : i < len := by simpa using (List.getElem?_eq_some_iff.1 hi').1
      rw [List.getElem?_range hlt] at hi'
      cases hi'
      obtain ⟨_, _, hcell⟩ := World.cells?_some (hq i hlt).1
      rcases hc with ⟨rfl, rfl⟩ | ⟨rfl, rfl⟩ | ⟨rfl, rfl⟩ | ⟨rfl, rfl⟩ | ⟨rfl, rfl⟩ | ⟨rfl, rfl⟩ | ⟨rfl, rfl⟩
      · have := hcell 0 (by omega)
        rw [Deep.add_add, addr_add] at this
        exact this
      · have := hcell 1 (by omega)
        rw [Deep.add_add, addr_add] at this
        exact this
      · have := hcell 2 (by omega)
        rw [Deep.add_add, addr_add] at this
        exact this
      · have := hcell 3 (by omega)
        rw [Deep.add_add, addr_add] at this
        exact this
      · have := hcell 4 (by omega)
        rw [Deep.add_add, addr_add] at this
        exact this
      · have := hcell 5 (by omega)
        rw [Deep.add_add, addr_add] at this
        exact this
      · have := hcell 6 (by omega)
        rw [Deep.add_add, addr_add] at this
        exact this
    · rw [hlen]
      refine .inr ⟨_, by simp only [DataW.weights, Tryd.underlying33]; exact List.mem_cons_self .., ?_⟩
      rw [by65]
      simp only [List.length_map, List.length_range]
      omega
    · intro t ht
      obtain ⟨i, hi, rfl⟩ := List.mem_map.1 ht
      have hlt := List.mem_range.1 hi
      exact (hq i hlt).2

theorem open_ints3 {t : TypeId} {a b : String} {f0 f1 f2 : Field} {fuel : Nat} {cs : List Value} {x : DataW H × List MemPlace} (ht : Tryd.prog.underlying t = some (.struct #[f0, f1, f2])) (hc : Tryd.prog.cellsOf t = 3)
    (h0 : f0.type = 3 ∧ f0.offset = 0) (h1 : f1.type = 3 ∧ f1.offset = 1) (h2 : f2.type = 3 ∧ f2.offset = 2) (h : DataW.trod enc Tryd.prog w 0 sp true fuel t cs = some x) : ∃ p q r : Int, cs = [.int .i64 p, .int .i64 q, .int .i64 r] := by
  obtain ⟨y0, y1, y2, n, _, hl, e0, e1, e2⟩ := trod_struct3 ht h
  rw [hc] at hl
  obtain ⟨a, b, c, rfl⟩ := list3 _ hl
  rw [h0.1, h0.2] at e0
  rw [h1.1, h1.2] at e1
  rw [h2.1, h2.2] at e2
  simp only [c3, List.drop, List.take] at e0 e1 e2
  obtain ⟨p, k0, _, _⟩ := DataW.trod_int Tryd.underlying3 e0
  obtain ⟨q, k1, _, _⟩ := DataW.trod_int Tryd.underlying3 e1
  obtain ⟨r, k2, _, _⟩ := DataW.trod_int Tryd.underlying3 e2
  cases k0
  cases k1
  cases k2
  exact ⟨p, q, r, rfl⟩

set_option maxRecDepth 100000 in
set_option maxHeartbeats 1000000 in
theorem open_report {v : Value} {d : DataW H} {ps : List MemPlace} {base : Nat} (hval : Value.okWide Tryd.prog w .any base 37 v) (h : DataW.Trod enc Tryd.prog w 0 (fun _ => true) true 37 v d ps) :
    ∃ (kind hs hf hu rs rv rb nm cs cf cc : Int) (T N : Value) (lt : List Tab) (ln : List Nm), v = .agg #[.int .i64 kind, T, .int .i64 hs, .int .i64 hf, .int .i64 hu, .int .i64 rs, .int .i64 rv, .int .i64 rb, .int .i64 nm, N, .int .i64 cs, .int .i64 cf, .int .i64 cc] ∧
      RowIs w T lt.length (tcells lt) ∧ RowIs w N ln.length (ncells ln) ∧ (lt.length = 0 ∨ ∃ m ∈ d.weights Tryd.prog 37, lt.length * 32 ≤ m) ∧ (ln.length = 0 ∨ ∃ m ∈ d.weights Tryd.prog 37, ln.length * 64 ≤ m) ∧ ∀ t ∈ ln, t.tx.size ≤ maxLen := by
  obtain ⟨cs, rfl, hsz⟩ := okWide_struct Tryd.underlying37 hval
  obtain ⟨fuel, hT⟩ := h
  rw [c37] at hsz
  have hl : cs.toList.length = 13 := by simpa using hsz
  obtain ⟨a, b, c, d0, e, f, g, h0, i, j, k, m, n, hcs⟩ := list13 _ hl
  have hcs' : cs = #[a, b, c, d0, e, f, g, h0, i, j, k, m, n] := by
    apply Array.ext'
    exact hcs
  subst hcs'
  obtain ⟨y0, y1, y2, y3, y4, y5, y6, nn, hx, _, t0, t1, t2, t3, t4, t5, t6⟩ := trod_struct7 Tryd.underlying37 hT
  simp only [Value.cells, c3, c28, c33, c30, c32, c35, List.drop, List.take] at t0 t1 t2 t3 t4 t5 t6
  obtain ⟨kind, k0, _, _⟩ := DataW.trod_int Tryd.underlying3 t0
  obtain ⟨T, lt, k1, hT1, hT2⟩ := open_tabs t1
  obtain ⟨hs, hf, hu, k2⟩ := open_ints3 (a := "") (b := "") Tryd.underlying30 c30 ⟨rfl, rfl⟩ ⟨rfl, rfl⟩ ⟨rfl, rfl⟩ t2
  obtain ⟨rs, rv, rb, k3⟩ := open_ints3 (a := "") (b := "") Tryd.underlying32 c32 ⟨rfl, rfl⟩ ⟨rfl, rfl⟩ ⟨rfl, rfl⟩ t3
  obtain ⟨nm, k4, _, _⟩ := DataW.trod_int Tryd.underlying3 t4
  obtain ⟨N, ln, k5, hN1, hN2, hN3⟩ := open_nms t5
  obtain ⟨cs, cf, cc, k6⟩ := open_ints3 (a := "") (b := "") Tryd.underlying35 c35 ⟨rfl, rfl⟩ ⟨rfl, rfl⟩ ⟨rfl, rfl⟩ t6
  cases k0
  cases k1
  cases k2
  cases k3
  cases k4
  cases k5
  cases k6
  simp only at hx
  have w1 : ∀ m ∈ y1.1.weights Tryd.prog 28, m ∈ d.weights Tryd.prog 37 := by
    intro m hm
    rw [hx]
    simp only [DataW.weights, Tryd.underlying37]
    exact DataW.weights_mem_each (j := 1) (t := 28) rfl rfl m hm
  have w5 : ∀ m ∈ y5.1.weights Tryd.prog 33, m ∈ d.weights Tryd.prog 37 := by
    intro m hm
    rw [hx]
    simp only [DataW.weights, Tryd.underlying37]
    exact DataW.weights_mem_each (j := 5) (t := 33) rfl rfl m hm
  refine ⟨kind, hs, hf, hu, rs, rv, rb, nm, cs, cf, cc, _, _, lt, ln, rfl, hT1, hN1, ?_, ?_, hN3⟩
  · rcases hT2 with h | ⟨m, hm, h⟩
    · exact .inl h
    · exact .inr ⟨m, w1 m hm, h⟩
  · rcases hN2 with h | ⟨m, hm, h⟩
    · exact .inl h
    · exact .inr ⟨m, w5 m hm, h⟩
end
end Go.Proofs.YteibjmlimcpaoaaDoor
