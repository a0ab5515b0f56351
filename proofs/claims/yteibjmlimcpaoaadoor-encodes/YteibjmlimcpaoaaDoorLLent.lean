/-
  What the law's own lentReport makes: a report of its own with the same lists, eight marks more behind each; nothing that lay in memory turns.
-/
import Derived.Test.YteibjmlimcpaoaaDoorEWt
import Derived.Laws.MakeOwn
import Derived.Laws.CopyRow
import Derived.Laws.CopyOwn
set_option linter.unusedVariables false
set_option linter.unusedSimpArgs false
namespace Go.Proofs.YteibjmlimcpaoaaDoor
open Go.RowKit Go.Sort

theorem run_copyN (w : World) (dT sT ty elem : TypeId) (k g m cap : Nat) (cur : Array Value) (t : TypeId) (v : Value) (n : Nat) (xs : List Value)
    (hu : Tryd.prog.underlying dT = some (.slice elem)) (hs : (Tryd.prog.info? elem).map (·.size) = some k)
    (hg : w.heap[g]? = some (.cells cur t (0, 0))) (hv : RowIs w v n xs) (hxs : xs.length = n * k) (hnm : n ≤ m) (hfit : xs.length ≤ cur.size) (h1 : ∀ u ∈ xs, u.oneCell' = true) :
    (Builtin.copy_ #[dT, sT] ty #[.slice (some ⟨g, 0, none⟩) m cap, v]).run Tryd.prog w = .ok (.int .i64 n) (w.setRow g (xs ++ cur.toList.drop xs.length).toArray) := by
  obtain ⟨ao, c, rfl, hc⟩ := hv
  have hst := run_storeCells_at Tryd.prog g 0 t xs 0 cur w hg (by simpa using hfit) h1
  simp only [Nat.add_zero, Nat.zero_add, List.take_zero, List.nil_append] at hst
  cases hq : Tryd.prog.info? elem with
  | none => simp [hq] at hs
  | some i =>
    have hi : i.size = k := by simpa [hq] using hs
    have hmin : Nat.min n m = n := Nat.min_eq_left hnm
    by_cases hn : n = 0
    · subst hn
      have : xs = [] := List.eq_nil_of_length_eq_zero (by omega)
      subst this
      have hl0 : ∀ a : Addr, (loadCells a 0).run Tryd.prog w = .ok #[] w := fun a => run_loadCells_list (P := Tryd.prog) w a [] (by simp)
      cases ao with
      | none => simp [Builtin.copy_, run_underlying hu, Builtin.lenOf, Builtin.firstCells, sizeOf, typeInfo, hq, hi, hmin, hst, goInt]
      | some a => simp [Builtin.copy_, run_underlying hu, Builtin.lenOf, Builtin.firstCells, sizeOf, typeInfo, hq, hi, hmin, hl0, hst, goInt]
    · obtain ⟨g', o', rfl, hcl⟩ := hc (by omega)
      have hl := run_loadCells_list (P := Tryd.prog) w ⟨g', o', none⟩ xs (fun j u hj => by rw [addr_add]; exact hcl j u hj)
      rw [hxs] at hl
      simp [Builtin.copy_, run_underlying hu, Builtin.lenOf, Builtin.firstCells, sizeOf, typeInfo, hq, hi, hmin, hl, hst, goInt]

theorem upon_copyN {o : Oper} {a : Act} {K : Act → World → Prop} {Q : Exit → Act → World → Prop} (w : World) (dT sT ty elem : TypeId) (k g m cap : Nat) (cur : Array Value) (t : TypeId) (v : Value) (n : Nat) (xs : List Value)
    (hu : Tryd.prog.underlying dT = some (.slice elem)) (hsz : (Tryd.prog.info? elem).map (·.size) = some k)
    (hg : w.heap[g]? = some (.cells cur t (0, 0))) (hv : RowIs w v n xs) (hxs : xs.length = n * k) (hnm : n ≤ m) (hfit : xs.length ≤ cur.size) (h1 : ∀ u ∈ xs, u.oneCell' = true)
    (h : ∀ w', w'.heap[g]? = some (.cells (xs ++ cur.toList.drop xs.length).toArray t (0, 0)) → (∀ j, j ≠ g → w'.heap[j]? = w.heap[j]?) → Below g w w' → K (a.put o.dst (.int .i64 n)) w') :
    Oper.upon Tryd.prog o a K Q ((Sem.run Tryd.prog (Builtin.copy_ #[dT, sT] ty #[.slice (some ⟨g, 0, none⟩) m cap, v]) w).andThen fun a w' => Result.ok (Next.value a) w') := by
  rw [run_copyN w dT sT ty elem k g m cap cur t v n xs hu hsz hg hv hxs hnm hfit h1]
  simp only [Result.andThen]
  rw [Oper.upon_value]
  exact h _ (setRow_heap w g _ _ t _ hg) (fun j hj => setRow_other w g j _ hj) (below_setRow (Below.refl _ _) (Nat.le_refl _) _)
theorem allocAtN (w : World) (o : Obj) (g : Nat) (hg : g = w.heap.size) : (w.alloc o).heap[g]? = some o := by
  subst hg
  exact allocAt w o
theorem allocOldN {w : World} {k : Nat} {o o' : Obj} (h : w.heap[k]? = some o) : (w.alloc o').heap[k]? = some o :=
  (Lib.alloc_old w o' k (Array.getElem?_eq_some_iff.1 h).1).trans h

/-- stores into cells that stand side by side in one row -/
def setAll (w : World) (g : Nat) : Nat → List Value → World
  | _, [] => w
  | i, v :: vs => setAll (w.setCell ⟨g, i, none⟩ v) g (i + 1) vs
theorem setAll_row (g : Nat) (t : TypeId) : ∀ (vs : List Value) (i : Nat) (w : World) (cur : Array Value) (A B C : List Value), w.heap[g]? = some (.cells cur t (0, 0)) → cur.toList = A ++ B ++ C → A.length = i → B.length = vs.length →
    ∃ cur', (setAll w g i vs).heap[g]? = some (.cells cur' t (0, 0)) ∧ cur'.toList = A ++ vs ++ C
  | [], i, w, cur, A, B, C, hg, hc, hA, hB => by
    have : B = [] := List.eq_nil_of_length_eq_zero hB
    subst this
    exact ⟨cur, hg, hc⟩
  | v :: vs, i, w, cur, A, [], C, hg, hc, hA, hB => by simp at hB
  | v :: vs, i, w, cur, A, b :: B, C, hg, hc, hA, hB => by
    have h2 : (w.setCell ⟨g, i, none⟩ v).heap[g]? = some (.cells (cur.setIfInBounds i v) t (0, 0)) := by
      rw [setCell_eq_setRow w g i cur t (0, 0) v hg]
      exact setRow_heap w g cur _ t _ hg
    have h3 : (cur.setIfInBounds i v).toList = (A ++ [v]) ++ B ++ C := by
      rw [Array.toList_setIfInBounds, hc, ← hA]
      simp
    obtain ⟨cur', e1, e2⟩ := setAll_row g t vs (i + 1) _ _ (A ++ [v]) B C h2 h3 (by simp [hA]) (by simpa using hB)
    exact ⟨cur', e1, by rw [e2]; simp⟩
theorem setAll_other (g : Nat) : ∀ (vs : List Value) (i : Nat) (w : World) (k : Nat), k ≠ g → (setAll w g i vs).heap[k]? = w.heap[k]?
  | [], i, w, k, h => rfl
  | v :: vs, i, w, k, h => by
    rw [setAll, setAll_other g vs (i + 1) _ k h]
    exact Below.heap_setCell _ _ _ _ (fun e => h e)
theorem setAll_below {B g : Nat} (hB : B ≤ g) : ∀ (vs : List Value) (i : Nat) (a w : World), Below B a w → Below B a (setAll w g i vs)
  | [], i, a, w, h => h
  | v :: vs, i, a, w, h => setAll_below hB vs (i + 1) a _ (h.setCell (p := ⟨g, i, none⟩) hB v)
theorem frozenAt {k : Nat} {w : World} {cs : Array Value} {T : TypeId} (h : w.heap[k]? = some (.cells cs T (0, 0))) (i : Nat) : w.frozen? ⟨k, i, none⟩ = false := by
  simp [World.frozen?, h]

theorem sizeT : (Tryd.prog.info? 77).map (·.size) = some 3 := by kernel_rfl
theorem sizeN : (Tryd.prog.info? 79).map (·.size) = some 7 := by kernel_rfl
theorem wrapL (x : Int) (h0 : 0 ≤ x) (h1 : x < 9223372036854775808) : IntKind.i64.wrap x = x := by
  rw [IntKind.wrap_i64]
  omega
theorem infoT : (Tryd.prog.info? 77).map (fun i => (i.zero, i.size, i.bytes)) = some (some (.agg #[.string ⟨#[]⟩, .int .i64 0, .int .i64 0]), 3, 32) := by kernel_rfl
theorem infoN : (Tryd.prog.info? 79).map (fun i => (i.zero, i.size, i.bytes)) = some (some (.agg #[.int .i64 0, .int .i64 0, .int .i64 0, .int .i64 0, .int .i64 0, .int .i64 0, .string ⟨#[]⟩]), 7, 64) := by kernel_rfl
theorem makeT (n : Nat) (hn : n ≤ 4398046510976) : ∃ MT : Array Value, MT.size = (n + 8) * 3 ∧ ∀ W : World, (Instr.makeSlice 28 (.int .i64 ((n : Int) + 8)) (.int .i64 ((n : Int) + 8))).run Tryd.prog W = .ok (.slice (some ⟨W.heap.size, 0, none⟩) (n + 8) (n + 8)) (W.alloc (.cells MT 77)) := by
  obtain ⟨i0, hi, hz0, hz1, hz2⟩ := info_parts infoT
  have h := fun W => run_make (P := Tryd.prog) W 28 77 i0 _ Tryd.underlying28 hi hz0 .i64 .i64 ((n : Int) + 8) ((n : Int) + 8) (by omega) (by omega) (by rw [hz2]; omega) (by omega)
  rw [show ((n : Int) + 8).toNat = n + 8 by omega, hz1] at h
  exact ⟨_, size_madeCells _ _, h⟩
theorem makeN (n : Nat) (hn : n ≤ 2199023255488) : ∃ MT : Array Value, MT.size = (n + 8) * 7 ∧ ∀ W : World, (Instr.makeSlice 33 (.int .i64 ((n : Int) + 8)) (.int .i64 ((n : Int) + 8))).run Tryd.prog W = .ok (.slice (some ⟨W.heap.size, 0, none⟩) (n + 8) (n + 8)) (W.alloc (.cells MT 79)) := by
  obtain ⟨i0, hi, hz0, hz1, hz2⟩ := info_parts infoN
  have h := fun W => run_make (P := Tryd.prog) W 33 79 i0 _ Tryd.underlying33 hi hz0 .i64 .i64 ((n : Int) + 8) ((n : Int) + 8) (by omega) (by omega) (by rw [hz2]; omega) (by omega)
  rw [show ((n : Int) + 8).toNat = n + 8 by omega, hz1] at h
  exact ⟨_, size_madeCells _ _, h⟩

def padT : Tab := ⟨⟨#[]⟩, 0, -77⟩
def padN : Nm := ⟨0, 0, 0, -77, 0, 0, ⟨#[]⟩⟩
theorem tcells_length : ∀ l : List Tab, (tcells l).length = l.length * 3
  | [] => rfl
  | t :: r => by simp only [tcells, List.length_cons, tcells_length r]; omega
theorem ncells_length : ∀ l : List Nm, (ncells l).length = l.length * 7
  | [] => rfl
  | t :: r => by simp only [ncells, List.length_cons, ncells_length r]; omega
theorem tcells_one : ∀ (l : List Tab), ∀ u ∈ tcells l, u.oneCell' = true
  | [], u, h => by cases h
  | t :: r, u, h => by
    simp only [tcells, List.mem_cons] at h
    rcases h with rfl | rfl | rfl | h
    · rfl
    · rfl
    · rfl
    · exact tcells_one r u h
theorem ncells_one : ∀ (l : List Nm), ∀ u ∈ ncells l, u.oneCell' = true
  | [], u, h => by cases h
  | t :: r, u, h => by
    simp only [ncells, List.mem_cons] at h
    rcases h with rfl | rfl | rfl | rfl | rfl | rfl | rfl | h
    · rfl
    · rfl
    · rfl
    · rfl
    · rfl
    · rfl
    · rfl
    · exact ncells_one r u h
theorem tcells_append (a b : List Tab) : tcells (a ++ b) = tcells a ++ tcells b := by
  induction a with
  | nil => rfl
  | cons t r ih => simp [tcells, ih]
theorem ncells_append (a b : List Nm) : ncells (a ++ b) = ncells a ++ ncells b := by
  induction a with
  | nil => rfl
  | cons t r ih => simp [ncells, ih]

set_option maxRecDepth 100000 in
set_option maxHeartbeats 2000000 in
theorem lent12 (kind hs hf hu rs rv rb nm cs cf cc : Int) (T N : Value) (lt : List Tab) (ln : List Nm) (w : World)
    (hlt : lt.length ≤ 4398046510976) (hln : ln.length ≤ 2199023255488) (hT : RowIs w T lt.length (tcells lt)) (hN : RowIs w N ln.length (ncells ln)) :
    Calls Tryd.prog 14 #[.agg #[.int .i64 kind, T, .int .i64 hs, .int .i64 hf, .int .i64 hu, .int .i64 rs, .int .i64 rv, .int .i64 rb, .int .i64 nm, N, .int .i64 cs, .int .i64 cf, .int .i64 cc]] w
      fun e w' => Below w.heap.size w w' ∧ ∃ gt gn ct cn, e = .returned (.agg #[.int .i64 kind, .slice (some ⟨gt, 0, none⟩) lt.length (lt.length + 8), .int .i64 hs, .int .i64 hf, .int .i64 hu, .int .i64 rs, .int .i64 rv, .int .i64 rb, .int .i64 nm, .slice (some ⟨gn, 0, none⟩) ln.length (ln.length + 8), .int .i64 cs, .int .i64 cf, .int .i64 cc])
        ∧ w'.heap[gt]? = some (.cells ct 77 (0, 0)) ∧ ct.toList = tcells (lt ++ List.replicate 8 padT) ∧ w'.heap[gn]? = some (.cells cn 79 (0, 0)) ∧ cn.toList = ncells (ln ++ List.replicate 8 padN) := by
  have hTs : ∃ ao cap, T = .slice ao lt.length cap := by obtain ⟨ao, cap, h, _⟩ := hT; exact ⟨_, _, h⟩
  have hNs : ∃ ao cap, N = .slice ao ln.length cap := by obtain ⟨ao, cap, h, _⟩ := hN; exact ⟨_, _, h⟩
  obtain ⟨tao, tcap, hTe⟩ := hTs
  obtain ⟨nao, ncap, hNe⟩ := hNs
  subst hTe hNe
  have HT := Lib.hid hT
  have HN := Lib.hid hN
  clear hT hN
  have w1 := wrapL ((lt.length : Int) + 8) (by omega) (by omega)
  have w2 := wrapL ((ln.length : Int) + 8) (by omega) (by omega)
  obtain ⟨MT, sMT, mkT⟩ := makeT lt.length hlt
  obtain ⟨MN, sMN, mkN⟩ := makeN ln.length hln
  go_enter Tryd.func14, Tryd.ntmps14
  go_wp2_with fail
  refine upon_copyN _ 28 28 3 77 3 (w.heap.size + 1 + 1 + 1) _ _ MT 77 _ lt.length (tcells lt) Tryd.underlying28 sizeT (allocAtN _ _ _ (by simp)) (HT.out.on (((((Below.refl _ _).alloc (Nat.le_refl _) _).alloc (by simp) _).alloc (by simp <;> omega) _).alloc (by simp <;> omega) _)) (tcells_length lt) (by omega) (by rw [sMT, tcells_length]; omega) (tcells_one lt) ?_
  intro w3 hg3 ho3 hb3
  have p0 := (ho3 w.heap.size (by omega)).trans (allocOldN (allocOldN (allocOldN (allocAt _ _))))
  have p1 := (ho3 (w.heap.size + 1) (by omega)).trans (allocOldN (allocOldN (allocAtN _ _ _ (by simp))))
  have p2 := (ho3 (w.heap.size + 1 + 1) (by omega)).trans (allocOldN (allocAtN _ _ _ (by simp)))
  have bw3 : Below w.heap.size w w3 := (((((Below.refl _ _).alloc (Nat.le_refl _) _).alloc (by simp) _).alloc (by simp <;> omega) _).alloc (by simp <;> omega) _).trans (hb3.mono (by omega))
  have lMT : (MT.toList.drop (tcells lt).length).length = 8 * 3 := by rw [List.length_drop, Array.length_toList, sMT, tcells_length]; omega
  generalize MT.toList.drop (tcells lt).length = ZT at *
  clear ho3 hb3 mkT sMT HT
  obtain ⟨gt, hgt⟩ : ∃ g, w.heap.size + 1 + 1 + 1 = g := ⟨_, rfl⟩
  obtain ⟨px, hpx⟩ : ∃ g, w.heap.size + 1 + 1 = g := ⟨_, rfl⟩
  obtain ⟨pr, hpr⟩ : ∃ g, w.heap.size + 1 = g := ⟨_, rfl⟩
  rw [hgt] at hg3 ⊢
  rw [hpx] at p2 ⊢
  rw [hpr] at p1 ⊢
  have n1 : w.heap.size < pr := by omega
  have n2 : pr < px := by omega
  have n3 : px < gt := by omega
  clear hgt hpx hpr
  have x1 := cellsAt p0 1
  simp only [List.getElem?_toArray, List.getElem?_cons_zero, List.getElem?_cons_succ] at x1
  go_wp2
  go_loopw [5] (fun is wr => ∃ (k : Nat) (cur : Array Value) (rest : List Value), is = .int .i64 ((lt.length + k : Nat) : Int) ∧ k ≤ 8 ∧ Below w.heap.size w wr ∧ wr.heap[w.heap.size]? = some (.cells #[.int .i64 kind, .slice tao lt.length tcap, .int .i64 hs, .int .i64 hf, .int .i64 hu, .int .i64 rs, .int .i64 rv, .int .i64 rb, .int .i64 nm, .slice nao ln.length ncap, .int .i64 cs, .int .i64 cf, .int .i64 cc] 37 (0, 0)) ∧ wr.heap[pr]? = some (.cells #[.int .i64 0, .slice none 0 0, .int .i64 0, .int .i64 0, .int .i64 0, .int .i64 0, .int .i64 0, .int .i64 0, .int .i64 0, .slice none 0 0, .int .i64 0, .int .i64 0, .int .i64 0] 37 (0, 0)) ∧ wr.heap[px]? = some (.cells #[.int .i64 kind, .slice tao lt.length tcap, .int .i64 hs, .int .i64 hf, .int .i64 hu, .int .i64 rs, .int .i64 rv, .int .i64 rb, .int .i64 nm, .slice nao ln.length ncap, .int .i64 cs, .int .i64 cf, .int .i64 cc] 37 (0, 0)) ∧ wr.heap[gt]? = some (.cells cur 77 (0, 0)) ∧ cur.toList = tcells (lt ++ List.replicate k padT) ++ rest ∧ rest.length = (8 - k) * 3) (fun is _ => lt.length + 8 - (intOf is).toNat)
  case atStart => exact ⟨0, _, ZT, rfl, by omega, bw3, p0, p1, p2, hg3, by simp, by omega⟩
  case round =>
    obtain ⟨k, cur, rest, rfl, hk, hbw, q0, q1, q2, qg, hcur, hrest⟩ := hrel
    clear p0 p1 p2 hg3 bw3 x1
    by_cases hklt : k < 8
    · obtain ⟨a, b, c, rest, rfl⟩ : ∃ a b c r, rest = a :: b :: c :: r := by
        match rest, hrest with
        | a :: b :: c :: r, _ => exact ⟨a, b, c, r, rfl⟩
        | [], h => simp at h; omega
        | [_], h => simp at h; omega
        | [_, _], h => simp at h; omega
      have hsz : cur.size = (lt.length + 8) * 3 := by
        rw [← Array.length_toList, hcur, List.length_append, tcells_length, List.length_append, List.length_replicate]
        simp only [List.length_cons] at hrest ⊢
        omega
      have hA : (tcells (lt ++ List.replicate k padT)).length = (lt.length + k) * 3 := by rw [tcells_length, List.length_append, List.length_replicate]
      have y0 := cellsAt qg ((lt.length + k) * 3)
      have y1 := cellsAt qg ((lt.length + k) * 3 + 1)
      have y2 := cellsAt qg ((lt.length + k) * 3 + 2)
      rw [← Array.getElem?_toList, hcur, List.getElem?_append_right (by omega), hA] at y0 y1 y2
      rw [show (lt.length + k) * 3 - (lt.length + k) * 3 = 0 by omega] at y0
      rw [show (lt.length + k) * 3 + 1 - (lt.length + k) * 3 = 1 by omega] at y1
      rw [show (lt.length + k) * 3 + 2 - (lt.length + k) * 3 = 2 by omega] at y2
      simp only [List.getElem?_cons_zero, List.getElem?_cons_succ] at y0 y1 y2
      have f0 := frozenAt qg ((lt.length + k) * 3)
      have f1 := frozenAt qg ((lt.length + k) * 3 + 1)
      have f2 := frozenAt qg ((lt.length + k) * 3 + 2)
      obtain ⟨cur', e1, e2⟩ := setAll_row gt 77 [.string ⟨#[]⟩, .int .i64 0, .int .i64 (-77)] ((lt.length + k) * 3) wr cur (tcells (lt ++ List.replicate k padT)) [a, b, c] rest qg (by rw [hcur]; simp) hA rfl
      have e3 : tcells (lt ++ List.replicate (k + 1) padT) = tcells (lt ++ List.replicate k padT) ++ [.string ⟨#[]⟩, .int .i64 0, .int .i64 (-77)] := by
        rw [List.replicate_succ', ← List.append_assoc, tcells_append]
        rfl
      have E3 := Lib.hid e3
      have E2 := Lib.hid e2
      have i0 : ((lt.length : Int) + (k : Int)) < (lt.length : Int) + 8 := by omega
      have i1 : (0 : Int) ≤ (lt.length : Int) + (k : Int) := by omega
      have bs : Below w.heap.size w (setAll wr gt ((lt.length + k) * 3) [.string ⟨#[]⟩, .int .i64 0, .int .i64 (-77)]) := setAll_below (by omega) _ _ _ _ hbw
      have s0 := (setAll_other gt [.string ⟨#[]⟩, .int .i64 0, .int .i64 (-77)] ((lt.length + k) * 3) wr w.heap.size (by omega)).trans q0
      have s1 := (setAll_other gt [.string ⟨#[]⟩, .int .i64 0, .int .i64 (-77)] ((lt.length + k) * 3) wr pr (by omega)).trans q1
      have s2 := (setAll_other gt [.string ⟨#[]⟩, .int .i64 0, .int .i64 (-77)] ((lt.length + k) * 3) wr px (by omega)).trans q2
      clear hA e2 e3 hcur hsz
      simp only [List.length_cons] at hrest
      go_wp2
      refine ⟨⟨k + 1, cur', rest, ?_, by omega, bs, s0, s1, s2, e1, ?_, by omega⟩, by simp [intOf]; omega⟩
      · go_num
      · rw [E2.out, E3.out]
    · obtain rfl : k = 8 := by omega
      have hr0 : rest = [] := List.eq_nil_of_length_eq_zero (by omega)
      subst hr0
      rw [List.append_nil] at hcur
      have HCUR := Lib.hid hcur
      have x9 := cellsAt q0 9
      have x9b := cellsAt (allocOldN (o' := .cells MN 79) q0) 9
      simp only [List.getElem?_toArray, List.getElem?_cons_zero, List.getElem?_cons_succ] at x9 x9b
      have hwr := hbw.size
      have hgl := (Array.getElem?_eq_some_iff.1 qg).1
      clear hcur hrest
      go_wp2_with fail
      refine upon_copyN _ 33 33 3 79 7 wr.heap.size (ln.length + 8) (ln.length + 8) MN 79 _ ln.length (ncells ln) Tryd.underlying33 sizeN (allocAt _ _) (HN.out.on (hbw.alloc (by omega) _)) (ncells_length ln) (by omega) (by rw [sMN, ncells_length]; omega) (ncells_one ln) ?_
      intro w4 hg4 ho4 hb4
      have r0 := (ho4 w.heap.size (by omega)).trans (allocOldN q0)
      have r1 := (ho4 pr (by omega)).trans (allocOldN q1)
      have r2 := (ho4 px (by omega)).trans (allocOldN q2)
      have rg := (ho4 gt (by omega)).trans (allocOldN qg)
      have bw4 : Below w.heap.size w w4 := (hbw.alloc (by omega) _).trans (hb4.mono (by omega))
      have lMN : (MN.toList.drop (ncells ln).length).length = 8 * 7 := by rw [List.length_drop, Array.length_toList, sMN, ncells_length]; omega
      generalize MN.toList.drop (ncells ln).length = ZN at *
      obtain ⟨gn, hgn⟩ : ∃ g, wr.heap.size = g := ⟨_, rfl⟩
      rw [hgn] at hg4 ⊢
      have n4 : gt < gn := by omega
      clear hgn ho4 hb4 mkN sMN HN x9 x9b q0 q1 q2 qg hbw hwr hgl
      have x9 := cellsAt r0 9
      simp only [List.getElem?_toArray, List.getElem?_cons_zero, List.getElem?_cons_succ] at x9
      go_wp2
      go_loopw [7] (fun is wr => ∃ (k : Nat) (curN : Array Value) (rest : List Value), is = .int .i64 ((ln.length + k : Nat) : Int) ∧ k ≤ 8 ∧ Below w.heap.size w wr ∧ wr.heap[w.heap.size]? = some (.cells #[.int .i64 kind, .slice tao lt.length tcap, .int .i64 hs, .int .i64 hf, .int .i64 hu, .int .i64 rs, .int .i64 rv, .int .i64 rb, .int .i64 nm, .slice nao ln.length ncap, .int .i64 cs, .int .i64 cf, .int .i64 cc] 37 (0, 0)) ∧ wr.heap[pr]? = some (.cells #[.int .i64 0, .slice none 0 0, .int .i64 0, .int .i64 0, .int .i64 0, .int .i64 0, .int .i64 0, .int .i64 0, .int .i64 0, .slice none 0 0, .int .i64 0, .int .i64 0, .int .i64 0] 37 (0, 0)) ∧ wr.heap[px]? = some (.cells #[.int .i64 kind, .slice tao lt.length tcap, .int .i64 hs, .int .i64 hf, .int .i64 hu, .int .i64 rs, .int .i64 rv, .int .i64 rb, .int .i64 nm, .slice nao ln.length ncap, .int .i64 cs, .int .i64 cf, .int .i64 cc] 37 (0, 0)) ∧ wr.heap[gt]? = some (.cells cur 77 (0, 0)) ∧ wr.heap[gn]? = some (.cells curN 79 (0, 0)) ∧ curN.toList = ncells (ln ++ List.replicate k padN) ++ rest ∧ rest.length = (8 - k) * 7) (fun is _ => ln.length + 8 - (intOf is).toNat)
      case atStart => exact ⟨0, _, ZN, rfl, by omega, bw4, r0, r1, r2, rg, hg4, by simp, by omega⟩
      case round =>
        obtain ⟨k, curN, rest, rfl, hk, hbw, q0, q1, q2, qt, qg, hcur, hrest⟩ := hrel
        clear r0 r1 r2 rg hg4 bw4 x9
        by_cases hklt : k < 8
        · obtain ⟨c0, c1, c2, c3, c4, c5, c6, rest, rfl⟩ : ∃ c0 c1 c2 c3 c4 c5 c6 r, rest = c0 :: c1 :: c2 :: c3 :: c4 :: c5 :: c6 :: r := by
            match rest, hrest with
            | c0 :: c1 :: c2 :: c3 :: c4 :: c5 :: c6 :: r, _ => exact ⟨c0, c1, c2, c3, c4, c5, c6, r, rfl⟩
            | [], h => simp at h; omega
            | [_], h => simp at h; omega
            | [_, _], h => simp at h; omega
            | [_, _, _], h => simp at h; omega
            | [_, _, _, _], h => simp at h; omega
            | [_, _, _, _, _], h => simp at h; omega
            | [_, _, _, _, _, _], h => simp at h; omega
          have hA : (ncells (ln ++ List.replicate k padN)).length = (ln.length + k) * 7 := by rw [ncells_length, List.length_append, List.length_replicate]
          have y0 := cellsAt qg ((ln.length + k) * 7)
          have y1 := cellsAt qg ((ln.length + k) * 7 + 1)
          have y2 := cellsAt qg ((ln.length + k) * 7 + 2)
          have y3 := cellsAt qg ((ln.length + k) * 7 + 3)
          have y4 := cellsAt qg ((ln.length + k) * 7 + 4)
          have y5 := cellsAt qg ((ln.length + k) * 7 + 5)
          have y6 := cellsAt qg ((ln.length + k) * 7 + 6)
          rw [← Array.getElem?_toList, hcur, List.getElem?_append_right (by omega), hA] at y0 y1 y2 y3 y4 y5 y6
          rw [show (ln.length + k) * 7 - (ln.length + k) * 7 = 0 by omega] at y0
          rw [show (ln.length + k) * 7 + 1 - (ln.length + k) * 7 = 1 by omega] at y1
          rw [show (ln.length + k) * 7 + 2 - (ln.length + k) * 7 = 2 by omega] at y2
          rw [show (ln.length + k) * 7 + 3 - (ln.length + k) * 7 = 3 by omega] at y3
          rw [show (ln.length + k) * 7 + 4 - (ln.length + k) * 7 = 4 by omega] at y4
          rw [show (ln.length + k) * 7 + 5 - (ln.length + k) * 7 = 5 by omega] at y5
          rw [show (ln.length + k) * 7 + 6 - (ln.length + k) * 7 = 6 by omega] at y6
          simp only [List.getElem?_cons_zero, List.getElem?_cons_succ] at y0 y1 y2 y3 y4 y5 y6
          have f0 := frozenAt qg ((ln.length + k) * 7)
          have f1 := frozenAt qg ((ln.length + k) * 7 + 1)
          have f2 := frozenAt qg ((ln.length + k) * 7 + 2)
          have f3 := frozenAt qg ((ln.length + k) * 7 + 3)
          have f4 := frozenAt qg ((ln.length + k) * 7 + 4)
          have f5 := frozenAt qg ((ln.length + k) * 7 + 5)
          have f6 := frozenAt qg ((ln.length + k) * 7 + 6)
          obtain ⟨cur', e1, e2⟩ := setAll_row gn 79 [.int .i64 0, .int .i64 0, .int .i64 0, .int .i64 (-77), .int .i64 0, .int .i64 0, .string ⟨#[]⟩] ((ln.length + k) * 7) wr curN (ncells (ln ++ List.replicate k padN)) [c0, c1, c2, c3, c4, c5, c6] rest qg (by rw [hcur]; simp) hA rfl
          have e3 : ncells (ln ++ List.replicate (k + 1) padN) = ncells (ln ++ List.replicate k padN) ++ [.int .i64 0, .int .i64 0, .int .i64 0, .int .i64 (-77), .int .i64 0, .int .i64 0, .string ⟨#[]⟩] := by
            rw [List.replicate_succ', ← List.append_assoc, ncells_append]
            rfl
          have E3 := Lib.hid e3
          have E2 := Lib.hid e2
          have i0 : ((ln.length : Int) + (k : Int)) < (ln.length : Int) + 8 := by omega
          have i1 : (0 : Int) ≤ (ln.length : Int) + (k : Int) := by omega
          have bs : Below w.heap.size w (setAll wr gn ((ln.length + k) * 7) [.int .i64 0, .int .i64 0, .int .i64 0, .int .i64 (-77), .int .i64 0, .int .i64 0, .string ⟨#[]⟩]) := setAll_below (by omega) _ _ _ _ hbw
          have s0 := (setAll_other gn [.int .i64 0, .int .i64 0, .int .i64 0, .int .i64 (-77), .int .i64 0, .int .i64 0, .string ⟨#[]⟩] ((ln.length + k) * 7) wr w.heap.size (by omega)).trans q0
          have s1 := (setAll_other gn [.int .i64 0, .int .i64 0, .int .i64 0, .int .i64 (-77), .int .i64 0, .int .i64 0, .string ⟨#[]⟩] ((ln.length + k) * 7) wr pr (by omega)).trans q1
          have s2 := (setAll_other gn [.int .i64 0, .int .i64 0, .int .i64 0, .int .i64 (-77), .int .i64 0, .int .i64 0, .string ⟨#[]⟩] ((ln.length + k) * 7) wr px (by omega)).trans q2
          have s3 := (setAll_other gn [.int .i64 0, .int .i64 0, .int .i64 0, .int .i64 (-77), .int .i64 0, .int .i64 0, .string ⟨#[]⟩] ((ln.length + k) * 7) wr gt (by omega)).trans qt
          clear hA e2 e3 hcur
          simp only [List.length_cons] at hrest
          go_wp2
          refine ⟨⟨k + 1, cur', rest, ?_, by omega, bs, s0, s1, s2, s3, e1, ?_, by omega⟩, by simp [intOf]; omega⟩
          · go_num
          · rw [E2.out, E3.out]
        · obtain rfl : k = 8 := by omega
          have hr0 : rest = [] := List.eq_nil_of_length_eq_zero (by omega)
          subst hr0
          rw [List.append_nil] at hcur
          have HCURN := Lib.hid hcur
          clear hcur hrest
          have z1 := cellsAt q0 1
          have z9 := cellsAt q0 9
          have v0 := cellsAt q2 0
          have u0 := cellsAt q1 0
          have v1 := cellsAt q2 1
          have u1 := cellsAt q1 1
          have v2 := cellsAt q2 2
          have u2 := cellsAt q1 2
          have v3 := cellsAt q2 3
          have u3 := cellsAt q1 3
          have v4 := cellsAt q2 4
          have u4 := cellsAt q1 4
          have v5 := cellsAt q2 5
          have u5 := cellsAt q1 5
          have v6 := cellsAt q2 6
          have u6 := cellsAt q1 6
          have v7 := cellsAt q2 7
          have u7 := cellsAt q1 7
          have v8 := cellsAt q2 8
          have u8 := cellsAt q1 8
          have v9 := cellsAt q2 9
          have u9 := cellsAt q1 9
          have v10 := cellsAt q2 10
          have u10 := cellsAt q1 10
          have v11 := cellsAt q2 11
          have u11 := cellsAt q1 11
          have v12 := cellsAt q2 12
          have u12 := cellsAt q1 12
          simp only [List.getElem?_toArray, List.getElem?_cons_zero, List.getElem?_cons_succ] at z1 z9 v0 u0 v1 u1 v2 u2 v3 u3 v4 u4 v5 u5 v6 u6 v7 u7 v8 u8 v9 u9 v10 u10 v11 u11 v12 u12
          have f1 := frozenAt q2 1
          have f9 := frozenAt q2 9
          have fr0 := frozenAt q1 0
          have fr1 := frozenAt q1 1
          have fr2 := frozenAt q1 2
          have fr3 := frozenAt q1 3
          have fr4 := frozenAt q1 4
          have fr5 := frozenAt q1 5
          have fr6 := frozenAt q1 6
          have fr7 := frozenAt q1 7
          have fr8 := frozenAt q1 8
          have fr9 := frozenAt q1 9
          have fr10 := frozenAt q1 10
          have fr11 := frozenAt q1 11
          have fr12 := frozenAt q1 12
          have bE : Below w.heap.size w (setAll ((wr.setCell ⟨px, 1, none⟩ (.slice (some ⟨gt, 0, none⟩) lt.length (lt.length + 8))).setCell ⟨px, 9, none⟩ (.slice (some ⟨gn, 0, none⟩) ln.length (ln.length + 8))) pr 0 [.int .i64 kind, .slice (some ⟨gt, 0, none⟩) lt.length (lt.length + 8), .int .i64 hs, .int .i64 hf, .int .i64 hu, .int .i64 rs, .int .i64 rv, .int .i64 rb, .int .i64 nm, .slice (some ⟨gn, 0, none⟩) ln.length (ln.length + 8), .int .i64 cs, .int .i64 cf, .int .i64 cc]) := setAll_below (by omega) _ _ _ _ ((hbw.setCell (p := ⟨px, 1, none⟩) (by show _ ≤ px; omega) _).setCell (p := ⟨px, 9, none⟩) (by show _ ≤ px; omega) _)
          have tE : (setAll ((wr.setCell ⟨px, 1, none⟩ (.slice (some ⟨gt, 0, none⟩) lt.length (lt.length + 8))).setCell ⟨px, 9, none⟩ (.slice (some ⟨gn, 0, none⟩) ln.length (ln.length + 8))) pr 0 [.int .i64 kind, .slice (some ⟨gt, 0, none⟩) lt.length (lt.length + 8), .int .i64 hs, .int .i64 hf, .int .i64 hu, .int .i64 rs, .int .i64 rv, .int .i64 rb, .int .i64 nm, .slice (some ⟨gn, 0, none⟩) ln.length (ln.length + 8), .int .i64 cs, .int .i64 cf, .int .i64 cc]).heap[gt]? = some (.cells cur 77 (0, 0)) := by
            rw [setAll_other pr _ _ _ gt (by omega), Below.heap_setCell _ _ _ _ (show gt ≠ px by omega), Below.heap_setCell _ _ _ _ (show gt ≠ px by omega)]
            exact qt
          have nE : (setAll ((wr.setCell ⟨px, 1, none⟩ (.slice (some ⟨gt, 0, none⟩) lt.length (lt.length + 8))).setCell ⟨px, 9, none⟩ (.slice (some ⟨gn, 0, none⟩) ln.length (ln.length + 8))) pr 0 [.int .i64 kind, .slice (some ⟨gt, 0, none⟩) lt.length (lt.length + 8), .int .i64 hs, .int .i64 hf, .int .i64 hu, .int .i64 rs, .int .i64 rv, .int .i64 rb, .int .i64 nm, .slice (some ⟨gn, 0, none⟩) ln.length (ln.length + 8), .int .i64 cs, .int .i64 cf, .int .i64 cc]).heap[gn]? = some (.cells curN 79 (0, 0)) := by
            rw [setAll_other pr _ _ _ gn (by omega), Below.heap_setCell _ _ _ _ (show gn ≠ px by omega), Below.heap_setCell _ _ _ _ (show gn ≠ px by omega)]
            exact qg
          clear q0 q1 q2 qt qg hbw
          go_wp2
          refine bodyPost_ret (v := .agg #[.int .i64 kind, .slice (some ⟨gt, 0, none⟩) lt.length (lt.length + 8), .int .i64 hs, .int .i64 hf, .int .i64 hu, .int .i64 rs, .int .i64 rv, .int .i64 rb, .int .i64 nm, .slice (some ⟨gn, 0, none⟩) ln.length (ln.length + 8), .int .i64 cs, .int .i64 cf, .int .i64 cc]) (by simp [results, Tryd.results14, go_sem, u0, u1, u2, u3, u4, u5, u6, u7, u8, u9, u10, u11, u12, Nat.ne_of_lt n2, Nat.ne_of_gt n2]) rfl ⟨bE, gt, gn, cur, curN, rfl, tE, HCUR.out, nE, HCURN.out⟩
end Go.Proofs.YteibjmlimcpaoaaDoor
