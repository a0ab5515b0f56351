/-
  What the small functions of the document's answer on reports give: visorref.to, one, two, four, for every number in the range that they are called at; nothing that lay in memory turns.
  What visorref.tables answers, for every list of tables wherever it lies; nothing that lay in memory turns.
  visorref.harmful and visorref.utf8, at this program: for every number, for every character.
  What visorref.proper answers, for every string; nothing that lay in memory turns.
  What visorref.names answers, for every list of names wherever it lies; nothing that lay in memory turns.
  What visorref.Encode answers, for every report wherever its lists lie; nothing that lay in memory turns.
  Plain lists of bytes: what the document's answer takes for a proper text is what the library's decoder takes for valid UTF-8 without a harmful character. No program in it.
  What report.writer's methods one, two, four, bytes leave: the bytes that were written behind those that stood; nothing else that lay in memory turns.
  What report.writer's methods table and name leave: the bytes of a table, of a name, behind those that stood.
  What the law's own lentReport makes: a report of its own with the same lists, eight marks more behind each; nothing that lay in memory turns.
  What report.writer's method report leaves: the bytes of a right report.
  What report.rightText answers, for every string: with text.Harmful walked and utf8.ValidString by the library's own contract. Nothing that lay in memory turns.
  What report.within, rightTables, rightNames answer, for every number and every list wherever it lies; nothing that lay in memory turns.
  What report.rightNames answers, for every list of names wherever it lies; nothing that lay in memory turns.
  What report.right answers, for every report wherever its lists lie; nothing that lay in memory turns.
  What report.Encode and visor.Encode answer, for every report wherever its lists lie: what the document's answer is; nothing that lay in memory turns.
  Reports read from bytes, as plain functions on lists: as the program reads them (what is missing is marked), as the document's answer does (what is missing reads as 0 and the whole is written again), and that both answer the same. No program in it.
  What report.reader's methods take and number answer, and what they leave of the reader; nothing else that lay in memory turns.
  What report.reader's methods one, two, four, bytes, table and name answer, and what they leave of the reader; nothing else that lay in memory turns. (strings.Clone by the library's own contract.)
  What report.list answers for tables and for names: so many of them, read one behind the other, in new memory; what is left of the reader; nothing else that lay in memory turns.
  What report.reader's method report answers: the report that was read, its lists in new memory; what is left of the reader; nothing else that lay in memory turns.
  What report.Decode and visor.Decode answer, for every string: the right report that has these bytes, its lists in new memory, or that there is none; nothing that lay in memory turns.
-/
import Derived.Test.YteibjmlimcpaoaaGreatDoorProg
import Derived.Test.YteibjmlimcpaoaaGreatDoorPa
import Derived.WalkKit
import Derived.BigCall
import Derived.Deep.QuietTactic
import Derived.BigQuiet
import Derived.Lib.Hide
import Derived.Lib.UnsafeStr
import Derived.Lib.QuietBelow
import Derived.Lib.AppendStr
import Derived.Lib.OwnKind
import Derived.OneCell
import Derived.Lib.OthersKept
import Derived.Laws.MakeOwn
import Derived.Laws.CopyRow
import Derived.Laws.CopyOwn
set_option linter.unusedVariables false
namespace Go.Proofs.YteibjmlimcpaoaaGreatDoor
open Go.RowKit

theorem ret_bool {a b : Bool} (h : a = b) : Ending.returned (.bool a) = .returned (.bool b) := by rw [h]
theorem ret_str {a b : ByteArray} (h : a = b) : Ending.returned (.string a) = Ending.returned (.string b) := by rw [h]
theorem addr_add (b o j : Nat) : (⟨b, o, none⟩ : Addr).add j = ⟨b, o + j, none⟩ := by simp [Addr.add]
theorem ba_append (a b : Array UInt8) : (ByteArray.mk a ++ ByteArray.mk b) = ByteArray.mk (a ++ b) := by
  apply ByteArray.ext
  simp

/-- is a number from 0 to top? -/
def toB (top n : Int) : Bool := decide (0 ≤ n ∧ n ≤ top)
def oneL (n : Nat) : List UInt8 := [UInt8.ofNat n]
def twoL (n : Nat) : List UInt8 := [UInt8.ofNat (n / 256), UInt8.ofNat n]
def fourL (n : Nat) : List UInt8 := twoL (n / 65536) ++ twoL n

set_option maxHeartbeats 400000 in
theorem to17 (top n : Int) (w : World) :
    Calls Tryz.prog 83 #[.int .i64 top, .int .i64 n] w fun e w' => e = .returned (.bool (toB top n)) ∧ w' = w := by
  go_enter Tryz.func83, Tryz.ntmps83
  go_wp2
  all_goals go_ret
  all_goals refine ⟨ret_bool ?_, rfl⟩
  all_goals rw [Bool.eq_iff_iff]
  all_goals simp only [toB, decide_eq_true_eq, Bool.false_eq_true, false_iff]
  all_goals omega

theorem run_conv (w : World) (l : List UInt8) (cs : Array Value) (hl : cs.toList = Lib.byteCells l) (n : Nat) (hn : n = l.length) :
    (convert 143 9 (.slice (some ⟨w.heap.size, 0, none⟩) n n)).run Tryz.prog (w.alloc (.cells cs 5)) = .ok (.string ⟨l.toArray⟩) (w.alloc (.cells cs 5)) := by
  subst hn
  refine run_convert_bytes_back _ 143 9 5 ⟨w.heap.size, 0, none⟩ _ l Tryz.underlying143 Tryz.underlying5 Tryz.underlying9 ?_
  intro j hj
  rw [addr_add, World.cell?_alloc_new, ← Array.getElem?_toList, hl]
  simp [Lib.byteCells, hj]

end Go.Proofs.YteibjmlimcpaoaaGreatDoor

set_option linter.unusedVariables false
namespace Go.Proofs.YteibjmlimcpaoaaGreatDoor
open Go.RowKit Go.Sort

/-- a slice of n elements whose cells are xs, wherever it lies -/
def RowIs (w : World) (v : Value) (n : Nat) (xs : List Value) : Prop :=
  ∃ ao cap, v = .slice ao n cap ∧ (0 < n → ∃ g o, ao = some ⟨g, o, none⟩ ∧ ∀ (j : Nat) (u : Value), xs[j]? = some u → w.cell? ⟨g, o + j, none⟩ = some u)

theorem cell_lt {w : World} {g o : Nat} {u : Value} (h : w.cell? ⟨g, o, none⟩ = some u) : g < w.heap.size := by
  rcases Nat.lt_or_ge g w.heap.size with h' | h'
  · exact h'
  · simp [World.cell?, Array.getElem?_eq_none h'] at h
theorem RowIs.on {w w' : World} {v : Value} {n : Nat} {xs : List Value} (h : RowIs w v n xs) (hb : Below w.heap.size w w') : RowIs w' v n xs := by
  obtain ⟨ao, cap, rfl, hc⟩ := h
  refine ⟨ao, cap, rfl, fun hn => ?_⟩
  obtain ⟨g, o, rfl, hcell⟩ := hc hn
  refine ⟨g, o, rfl, fun j u hj => ?_⟩
  have := hcell j u hj
  rw [hb.cell (p := ⟨g, o + j, none⟩) (cell_lt this)]
  exact this

def tcells : List Tab → List Value
  | [] => []
  | t :: r => .string t.tag :: .int .i64 t.st :: .int .i64 t.sz :: tcells r
theorem tcells_at : ∀ (l : List Tab) (k : Nat) (t : Tab), l[k]? = some t → (tcells l)[k * 3]? = some (.string t.tag) ∧ (tcells l)[k * 3 + 1]? = some (.int .i64 t.st) ∧ (tcells l)[k * 3 + 2]? = some (.int .i64 t.sz)
  | [], k, t, h => by simp at h
  | x :: l, 0, t, h => by
    simp at h
    subst h
    exact ⟨rfl, rfl, rfl⟩
  | x :: l, k + 1, t, h => by
    have := tcells_at l k t (by simpa using h)
    rw [show (k + 1) * 3 = k * 3 + 3 by omega]
    exact this

def tabOk (t : Tab) : Bool := decide (t.tag.size = 4) && toB 4 t.st && toB 2000 t.sz
/-- tables in bytes, behind those that stand already -/
def tabsGo : List Tab → List UInt8 → List UInt8 × Bool
  | [], acc => (acc, true)
  | t :: r, acc => if tabOk t then tabsGo r (acc ++ t.tag.data.toList ++ oneL t.st.toNat ++ twoL t.sz.toNat) else ([], false)
def tabsR (l : List Tab) : List UInt8 × Bool := if 16 < l.length then ([], false) else tabsGo l (oneL l.length)

end Go.Proofs.YteibjmlimcpaoaaGreatDoor

set_option linter.unusedVariables false
namespace Go.Proofs.YteibjmlimcpaoaaGreatDoor
open Go.RowKit

set_option maxHeartbeats 400000 in
theorem harm27 (c : Int) (w : World) :
    Calls Tryz.prog 87 #[.int .i64 c] w fun e w' => e = .returned (.bool (harmB c)) ∧ w' = w := by
  go_enter Tryz.func87, Tryz.ntmps87
  go_wp2
  all_goals go_ret
  all_goals refine ⟨ret_bool ?_, rfl⟩
  all_goals rw [Bool.eq_iff_iff]
  all_goals simp only [harmB, Bool.or_eq_true, beq_iff_eq, decide_eq_true_eq, true_iff]
  all_goals omega

end Go.Proofs.YteibjmlimcpaoaaGreatDoor

set_option linter.unusedVariables false
namespace Go.Proofs.YteibjmlimcpaoaaGreatDoor
open Go.RowKit Go.Sort

/-- how many bytes a character has whose first byte is b -/
def widthOf (b : Nat) : Nat := if 240 ≤ b then 4 else if 224 ≤ b then 3 else if 192 ≤ b then 2 else 1
/-- what the first j of its n bytes tell -/
def decT (n : Nat) (l : List UInt8) : Nat → Nat
  | 0 => 0
  | 1 => if n = 1 then (l.getD 0 0).toNat else (l.getD 0 0).toNat % 2 ^ (7 - n)
  | j + 2 => 64 * decT n l (j + 1) + (l.getD (j + 1) 0).toNat % 64
def properGo : Nat → List UInt8 → Bool
  | 0, _ => true
  | _ + 1, [] => true
  | f + 1, a :: l =>
    if (a :: l).length < widthOf a.toNat then false
    else if harmB (decT (widthOf a.toNat) (a :: l) (widthOf a.toNat)) then false
    else if 1114111 < decT (widthOf a.toNat) (a :: l) (widthOf a.toNat) then false
    else if 55296 ≤ decT (widthOf a.toNat) (a :: l) (widthOf a.toNat) ∧ decT (widthOf a.toNat) (a :: l) (widthOf a.toNat) ≤ 57343 then false
    else if utf8L (decT (widthOf a.toNat) (a :: l) (widthOf a.toNat)) ≠ (a :: l).take (widthOf a.toNat) then false
    else properGo f ((a :: l).drop (widthOf a.toNat))
def properB (l : List UInt8) : Bool := if 60 < l.length then false else properGo l.length l

theorem getD_byte (s : ByteArray) (i : Nat) (h : i < s.size) : s.data.toList.getD i 0 = s[i] := by
  have h' : i < s.data.toList.length := by simpa using h
  rw [List.getD_eq_getElem?_getD, List.getElem?_eq_getElem h', Option.getD_some]
  rfl
theorem index_at (s : ByteArray) (i : Int) (j : Nat) (h : i = j) (hj : j < s.size) (W : World) : (Instr.index 9 (.string s) (.int .i64 i)).run Tryz.prog W = .ok (.int .u8 (s[j].toNat : Int)) W := by
  subst h
  rw [run_index_string W 9 s .i64 _ Tryz.underlying9, dif_pos ⟨by omega, by omega⟩]
  rfl
theorem val_int {k : IntKind} {a b : Int} (h : a = b) : Value.int k a = Value.int k b := by rw [h]
def strSize : Value → Nat
  | .string t => t.size
  | _ => 0
theorem extract_toList (s : ByteArray) (k : Nat) : (s.extract k s.size).data.toList = s.data.toList.drop k := by
  have h : s.size = s.data.toList.length := by simp
  simp only [ByteArray.data_extract, Array.toList_extract, List.extract_eq_take_drop]
  rw [h, List.take_of_length_le (by simp)]
theorem size_extract (s : ByteArray) (k : Nat) : (s.extract k s.size).size = s.size - k := by
  simp [ByteArray.size_extract]

end Go.Proofs.YteibjmlimcpaoaaGreatDoor

set_option linter.unusedVariables false
set_option linter.unusedSimpArgs false
namespace Go.Proofs.YteibjmlimcpaoaaGreatDoor
open Go.RowKit Go.Sort

def ncells : List Nm → List Value
  | [] => []
  | x :: r => .int .i64 x.pl :: .int .i64 x.en :: .int .i64 x.la :: .int .i64 x.id :: .int .i64 x.st :: .int .i64 x.ms :: .string x.tx :: ncells r
theorem ncells_at : ∀ (l : List Nm) (k : Nat) (x : Nm), l[k]? = some x → (ncells l)[k * 7]? = some (.int .i64 x.pl) ∧ (ncells l)[k * 7 + 1]? = some (.int .i64 x.en) ∧ (ncells l)[k * 7 + 2]? = some (.int .i64 x.la) ∧ (ncells l)[k * 7 + 3]? = some (.int .i64 x.id) ∧ (ncells l)[k * 7 + 4]? = some (.int .i64 x.st) ∧ (ncells l)[k * 7 + 5]? = some (.int .i64 x.ms) ∧ (ncells l)[k * 7 + 6]? = some (.string x.tx)
  | [], k, t, h => by simp at h
  | x :: l, 0, t, h => by
    simp at h
    subst h
    exact ⟨rfl, rfl, rfl, rfl, rfl, rfl, rfl⟩
  | x :: l, k + 1, t, h => by
    have := ncells_at l k t (by simpa using h)
    rw [show (k + 1) * 7 = k * 7 + 7 by omega]
    exact this

def nmOk (x : Nm) : Bool := toB 65535 x.pl && toB 65535 x.en && toB 65535 x.la && toB 65535 x.id && toB 8 x.st && toB 7 x.ms && properB x.tx.data.toList
def nmL (x : Nm) : List UInt8 := twoL x.pl.toNat ++ twoL x.en.toNat ++ twoL x.la.toNat ++ twoL x.id.toNat ++ oneL x.st.toNat ++ oneL x.ms.toNat ++ oneL x.tx.size ++ x.tx.data.toList
def nmsGo : List Nm → List UInt8 → List UInt8 × Bool
  | [], acc => (acc, true)
  | x :: r, acc => if nmOk x then nmsGo r (acc ++ nmL x) else ([], false)
def nmsR (l : List Nm) : List UInt8 × Bool := if 20 < l.length then ([], false) else nmsGo l (oneL l.length)

end Go.Proofs.YteibjmlimcpaoaaGreatDoor

set_option linter.unusedVariables false
set_option linter.unusedSimpArgs false
namespace Go.Proofs.YteibjmlimcpaoaaGreatDoor
open Go.RowKit Go.Sort

def encOf (kind hs hf hu rs rv rb nm cs cf cc : Int) (t n : List UInt8 × Bool) : List UInt8 × Int :=
  if ((toB 3 kind && [hs, rs, nm, cs].all (toB 8)) && [hf, hu, rv, rb, cf].all (toB 65535)) && t.2 && n.2 && toB 1114112 cc then
    (oneL kind.toNat ++ t.1 ++ oneL hs.toNat ++ twoL hf.toNat ++ twoL hu.toNat ++ oneL rs.toNat ++ twoL rv.toNat ++ twoL rb.toNat ++ oneL nm.toNat ++ n.1 ++ oneL cs.toNat ++ twoL cf.toNat ++ fourL cc.toNat, 0)
  else ([], 5)

end Go.Proofs.YteibjmlimcpaoaaGreatDoor

set_option linter.unusedVariables false
set_option linter.unusedSimpArgs false
namespace Go.Proofs.YteibjmlimcpaoaaGreatDoor

end Go.Proofs.YteibjmlimcpaoaaGreatDoor

set_option linter.unusedVariables false
set_option linter.unusedSimpArgs false
namespace Go.Proofs.YteibjmlimcpaoaaGreatDoor
open Go.RowKit Go.Sort

theorem byteCells_length (l : List UInt8) : (Lib.byteCells l).length = l.length := by simp [Lib.byteCells]
theorem byteCells_append (a b : List UInt8) : Lib.byteCells (a ++ b) = Lib.byteCells a ++ Lib.byteCells b := by simp [Lib.byteCells]
theorem newCells (w : World) (cs : List Value) (T : TypeId) : ∀ j u, cs[j]? = some u → (w.alloc (.cells cs.toArray T)).cell? ((⟨w.heap.size, 0, none⟩ : Addr).add j) = some u := by
  intro j u hj
  rw [addr_add, Nat.zero_add, World.cell?_alloc_new]
  simpa using hj
theorem infoByte : (Tryz.prog.info? 5).map (fun i => (i.zero, i.size, i.bytes)) = some (some (.int .u8 0), 1, 1) := by kernel_rfl

end Go.Proofs.YteibjmlimcpaoaaGreatDoor

set_option linter.unusedVariables false
set_option linter.unusedSimpArgs false
namespace Go.Proofs.YteibjmlimcpaoaaGreatDoor
open Go.RowKit Go.Sort

theorem allocAt (w : World) (o : Obj) : (w.alloc o).heap[w.heap.size]? = some o := by
  show (w.heap.push o)[w.heap.size]? = _
  simp
theorem cellsAt {k : Nat} {w : World} {cs : Array Value} {T : TypeId} {fz : Nat × Nat} (h : w.heap[k]? = some (.cells cs T fz)) (i : Nat) : w.cell? ⟨k, i, none⟩ = cs[i]? := by
  simp [World.cell?, h]

end Go.Proofs.YteibjmlimcpaoaaGreatDoor

set_option linter.unusedVariables false
set_option linter.unusedSimpArgs false
namespace Go.Proofs.YteibjmlimcpaoaaGreatDoor
open Go.RowKit Go.Sort

theorem run_copyN (w : World) (dT sT ty elem : TypeId) (k g m cap : Nat) (cur : Array Value) (t : TypeId) (v : Value) (n : Nat) (xs : List Value)
    (hu : Tryz.prog.underlying dT = some (.slice elem)) (hs : (Tryz.prog.info? elem).map (·.size) = some k)
    (hg : w.heap[g]? = some (.cells cur t (0, 0))) (hv : RowIs w v n xs) (hxs : xs.length = n * k) (hnm : n ≤ m) (hfit : xs.length ≤ cur.size) (h1 : ∀ u ∈ xs, u.oneCell' = true) :
    (Builtin.copy_ #[dT, sT] ty #[.slice (some ⟨g, 0, none⟩) m cap, v]).run Tryz.prog w = .ok (.int .i64 n) (w.setRow g (xs ++ cur.toList.drop xs.length).toArray) := by
  obtain ⟨ao, c, rfl, hc⟩ := hv
  have hst := run_storeCells_at Tryz.prog g 0 t xs 0 cur w hg (by simpa using hfit) h1
  simp only [Nat.add_zero, Nat.zero_add, List.take_zero, List.nil_append] at hst
  cases hq : Tryz.prog.info? elem with
  | none => simp [hq] at hs
  | some i =>
    have hi : i.size = k := by simpa [hq] using hs
    have hmin : Nat.min n m = n := Nat.min_eq_left hnm
    by_cases hn : n = 0
    · subst hn
      have : xs = [] := List.eq_nil_of_length_eq_zero (by omega)
      subst this
      have hl0 : ∀ a : Addr, (loadCells a 0).run Tryz.prog w = .ok #[] w := fun a => run_loadCells_list (P := Tryz.prog) w a [] (by simp)
      cases ao with
      | none => simp [Builtin.copy_, run_underlying hu, Builtin.lenOf, Builtin.firstCells, sizeOf, typeInfo, hq, hi, hmin, hst, goInt]
      | some a => simp [Builtin.copy_, run_underlying hu, Builtin.lenOf, Builtin.firstCells, sizeOf, typeInfo, hq, hi, hmin, hl0, hst, goInt]
    · obtain ⟨g', o', rfl, hcl⟩ := hc (by omega)
      have hl := run_loadCells_list (P := Tryz.prog) w ⟨g', o', none⟩ xs (fun j u hj => by rw [addr_add]; exact hcl j u hj)
      rw [hxs] at hl
      simp [Builtin.copy_, run_underlying hu, Builtin.lenOf, Builtin.firstCells, sizeOf, typeInfo, hq, hi, hmin, hl, hst, goInt]

theorem upon_copyN {o : Oper} {a : Act} {K : Act → World → Prop} {Q : Exit → Act → World → Prop} (w : World) (dT sT ty elem : TypeId) (k g m cap : Nat) (cur : Array Value) (t : TypeId) (v : Value) (n : Nat) (xs : List Value)
    (hu : Tryz.prog.underlying dT = some (.slice elem)) (hsz : (Tryz.prog.info? elem).map (·.size) = some k)
    (hg : w.heap[g]? = some (.cells cur t (0, 0))) (hv : RowIs w v n xs) (hxs : xs.length = n * k) (hnm : n ≤ m) (hfit : xs.length ≤ cur.size) (h1 : ∀ u ∈ xs, u.oneCell' = true)
    (h : ∀ w', w'.heap[g]? = some (.cells (xs ++ cur.toList.drop xs.length).toArray t (0, 0)) → (∀ j, j ≠ g → w'.heap[j]? = w.heap[j]?) → Below g w w' → K (a.put o.dst (.int .i64 n)) w') :
    Oper.upon Tryz.prog o a K Q ((Sem.run Tryz.prog (Builtin.copy_ #[dT, sT] ty #[.slice (some ⟨g, 0, none⟩) m cap, v]) w).andThen fun a w' => Result.ok (Next.value a) w') := by
  rw [run_copyN w dT sT ty elem k g m cap cur t v n xs hu hsz hg hv hxs hnm hfit h1]
  simp only [Result.andThen]
  rw [Oper.upon_value]
  exact h _ (setRow_heap w g _ _ t _ hg) (fun j hj => setRow_other w g j _ hj) (below_setRow (Below.refl _ _) (Nat.le_refl _) _)
theorem allocAtN (w : World) (o : Obj) (g : Nat) (hg : g = w.heap.size) : (w.alloc o).heap[g]? = some o := by
  subst hg
  exact allocAt w o
theorem allocOldN {w : World} {k : Nat} {o o' : Obj} (h : w.heap[k]? = some o) : (w.alloc o').heap[k]? = some o :=
  (Lib.alloc_old w o' k (Array.getElem?_eq_some_iff.1 h).1).trans h

/-- stores into cells that stand side by side in one row -/
def setAll (w : World) (g : Nat) : Nat → List Value → World
  | _, [] => w
  | i, v :: vs => setAll (w.setCell ⟨g, i, none⟩ v) g (i + 1) vs
theorem setAll_row (g : Nat) (t : TypeId) : ∀ (vs : List Value) (i : Nat) (w : World) (cur : Array Value) (A B C : List Value), w.heap[g]? = some (.cells cur t (0, 0)) → cur.toList = A ++ B ++ C → A.length = i → B.length = vs.length →
    ∃ cur', (setAll w g i vs).heap[g]? = some (.cells cur' t (0, 0)) ∧ cur'.toList = A ++ vs ++ C
  | [], i, w, cur, A, B, C, hg, hc, hA, hB => by
    have : B = [] := List.eq_nil_of_length_eq_zero hB
    subst this
    exact ⟨cur, hg, hc⟩
  | v :: vs, i, w, cur, A, [], C, hg, hc, hA, hB => by simp at hB
  | v :: vs, i, w, cur, A, b :: B, C, hg, hc, hA, hB => by
    have h2 : (w.setCell ⟨g, i, none⟩ v).heap[g]? = some (.cells (cur.setIfInBounds i v) t (0, 0)) := by
      rw [setCell_eq_setRow w g i cur t (0, 0) v hg]
      exact setRow_heap w g cur _ t _ hg
    have h3 : (cur.setIfInBounds i v).toList = (A ++ [v]) ++ B ++ C := by
      rw [Array.toList_setIfInBounds, hc, ← hA]
      simp
    obtain ⟨cur', e1, e2⟩ := setAll_row g t vs (i + 1) _ _ (A ++ [v]) B C h2 h3 (by simp [hA]) (by simpa using hB)
    exact ⟨cur', e1, by rw [e2]; simp⟩
theorem setAll_other (g : Nat) : ∀ (vs : List Value) (i : Nat) (w : World) (k : Nat), k ≠ g → (setAll w g i vs).heap[k]? = w.heap[k]?
  | [], i, w, k, h => rfl
  | v :: vs, i, w, k, h => by
    rw [setAll, setAll_other g vs (i + 1) _ k h]
    exact Below.heap_setCell _ _ _ _ (fun e => h e)
theorem setAll_below {B g : Nat} (hB : B ≤ g) : ∀ (vs : List Value) (i : Nat) (a w : World), Below B a w → Below B a (setAll w g i vs)
  | [], i, a, w, h => h
  | v :: vs, i, a, w, h => setAll_below hB vs (i + 1) a _ (h.setCell (p := ⟨g, i, none⟩) hB v)
theorem frozenAt {k : Nat} {w : World} {cs : Array Value} {T : TypeId} (h : w.heap[k]? = some (.cells cs T (0, 0))) (i : Nat) : w.frozen? ⟨k, i, none⟩ = false := by
  simp [World.frozen?, h]

theorem wrapL (x : Int) (h0 : 0 ≤ x) (h1 : x < 9223372036854775808) : IntKind.i64.wrap x = x := by
  rw [IntKind.wrap_i64]
  omega
theorem infoT : (Tryz.prog.info? 74).map (fun i => (i.zero, i.size, i.bytes)) = some (some (.agg #[.string ⟨#[]⟩, .int .i64 0, .int .i64 0]), 3, 32) := by kernel_rfl
theorem infoN : (Tryz.prog.info? 72).map (fun i => (i.zero, i.size, i.bytes)) = some (some (.agg #[.int .i64 0, .int .i64 0, .int .i64 0, .int .i64 0, .int .i64 0, .int .i64 0, .string ⟨#[]⟩]), 7, 64) := by kernel_rfl
theorem tcells_length : ∀ l : List Tab, (tcells l).length = l.length * 3
  | [] => rfl
  | t :: r => by simp only [tcells, List.length_cons, tcells_length r]; omega
theorem ncells_length : ∀ l : List Nm, (ncells l).length = l.length * 7
  | [] => rfl
  | t :: r => by simp only [ncells, List.length_cons, ncells_length r]; omega
theorem tcells_append (a b : List Tab) : tcells (a ++ b) = tcells a ++ tcells b := by
  induction a with
  | nil => rfl
  | cons t r ih => simp [tcells, ih]
theorem ncells_append (a b : List Nm) : ncells (a ++ b) = ncells a ++ ncells b := by
  induction a with
  | nil => rfl
  | cons t r ih => simp [ncells, ih]

end Go.Proofs.YteibjmlimcpaoaaGreatDoor

set_option linter.unusedVariables false
set_option linter.unusedSimpArgs false
namespace Go.Proofs.YteibjmlimcpaoaaGreatDoor
open Go.RowKit Go.Sort

def tabL (t : Tab) : List UInt8 := t.tag.data.toList ++ oneL t.st.toNat ++ twoL t.sz.toNat
end Go.Proofs.YteibjmlimcpaoaaGreatDoor

set_option linter.unusedVariables false
set_option linter.unusedSimpArgs false
namespace Go.Proofs.YteibjmlimcpaoaaGreatDoor
open Go.RowKit Go.Sort

end Go.Proofs.YteibjmlimcpaoaaGreatDoor

set_option linter.unusedVariables false
set_option linter.unusedSimpArgs false
namespace Go.Proofs.YteibjmlimcpaoaaGreatDoor
open Go.RowKit Go.Sort

end Go.Proofs.YteibjmlimcpaoaaGreatDoor

set_option linter.unusedVariables false
set_option linter.unusedSimpArgs false
namespace Go.Proofs.YteibjmlimcpaoaaGreatDoor
open Go.RowKit Go.Sort

end Go.Proofs.YteibjmlimcpaoaaGreatDoor

set_option linter.unusedVariables false
set_option linter.unusedSimpArgs false
namespace Go.Proofs.YteibjmlimcpaoaaGreatDoor
open Go.RowKit Go.Sort

def rightB (kind hs hf hu rs rv rb nm cs cf cc : Int) (lt : List Tab) (ln : List Nm) : Bool :=
  [kind].all (toB 3) && (decide (lt.length ≤ 16) && lt.all tabOk) && [hs, rs, nm, cs].all (toB 8) && [hf, hu, rv, rb, cf].all (toB 65535) && (decide (ln.length ≤ 20) && ln.all nmOk) && [cc].all (toB 1114112)

end Go.Proofs.YteibjmlimcpaoaaGreatDoor

set_option linter.unusedVariables false
set_option linter.unusedSimpArgs false
namespace Go.Proofs.YteibjmlimcpaoaaGreatDoor
open Go.RowKit Go.Sort

theorem run_conv_own (w : World) (B : Nat) (l : List UInt8) (v : Value) (h : w.ownsRow B 5 1 v l.length (Lib.byteCells l)) (hl : 0 < l.length) :
    (convert 143 9 v).run Tryz.prog w = .ok (.string ⟨l.toArray⟩) w := by
  rcases h.2 with ⟨_, hv⟩ | ⟨g, cap, cur, hv, _⟩
  · omega
  subst hv
  refine run_convert_bytes_back _ 143 9 5 ⟨g, 0, none⟩ _ l Tryz.underlying143 Tryz.underlying5 Tryz.underlying9 ?_
  intro j hj
  refine h.cells rfl j _ ?_
  simp [Lib.byteCells, hj]

end Go.Proofs.YteibjmlimcpaoaaGreatDoor

set_option linter.unusedVariables false
set_option linter.unusedSimpArgs false
namespace Go.Proofs.YteibjmlimcpaoaaGreatDoor

/-- what is left, and whether bytes were missing -/
abbrev St := List UInt8 × Bool
def Rep.right (r : Rep) : Bool := rightB r.kind r.hs r.hf r.hu r.rs r.rv r.rb r.nm r.cs r.cf r.cc r.lt r.ln
def Rep.enc (r : Rep) : List UInt8 × Int := encOf r.kind r.hs r.hf r.hu r.rs r.rv r.rb r.nm r.cs r.cf r.cc (tabsR r.lt) (nmsR r.ln)
def Rep.bytes (r : Rep) : List UInt8 := oneL r.kind.toNat ++ (oneL r.lt.length ++ (r.lt.flatMap tabL ++ (oneL r.hs.toNat ++ (twoL r.hf.toNat ++ (twoL r.hu.toNat ++ (oneL r.rs.toNat ++ (twoL r.rv.toNat ++ (twoL r.rb.toNat ++ (oneL r.nm.toNat ++ (oneL r.ln.length ++ (r.ln.flatMap nmL ++ (oneL r.cs.toNat ++ (twoL r.cf.toNat ++ fourL r.cc.toNat)))))))))))))
end Go.Proofs.YteibjmlimcpaoaaGreatDoor

set_option linter.unusedVariables false
set_option linter.unusedSimpArgs false
namespace Go.Proofs.YteibjmlimcpaoaaGreatDoor
open Go.RowKit Go.Sort

theorem grown_trans {w w1 w2 : World} {r : Option Nat} (h : w.grownBy w1 r) (k : w1.grownBy w2 r) : w.grownBy w2 r :=
  ⟨k.os.trans h.os, k.tape.trans h.tape, k.output.trans h.output, Nat.le_trans h.size k.size, fun i hi hn => (k.block i (Nat.lt_of_lt_of_le hi h.size) hn).trans (h.block i hi hn)⟩
theorem grown_below {w w1 : World} (r : Option Nat) (h : Below w.heap.size w w1) : w.grownBy w1 r := ⟨h.os, h.tape, h.output, h.size, fun i hi _ => h.block i hi⟩
theorem grown_set {w w1 : World} {p : Nat} (h : w.grownBy w1 (some p)) (i : Nat) (v : Value) : w.grownBy (w1.setCell ⟨p, i, none⟩ v) (some p) :=
  ⟨h.os, h.tape, h.output, by simpa [World.setCell] using h.size, fun k hk hn => by
    rw [Below.heap_setCell _ _ _ _ (fun e => hn (by rw [e]))]
    exact h.block k hk hn⟩
theorem setCell_row {w : World} {p i : Nat} {cs : Array Value} {T : TypeId} (h : w.heap[p]? = some (.cells cs T (0, 0))) (v : Value) : (w.setCell ⟨p, i, none⟩ v).heap[p]? = some (.cells (cs.setIfInBounds i v) T (0, 0)) := by
  rw [setCell_eq_setRow w p i cs T (0, 0) v h]
  exact setRow_heap w p cs _ T _ h

theorem ba_size (l : List UInt8) : (ByteArray.mk l.toArray).size = l.length := by
  show Array.size _ = _
  simp

theorem belowAt' {w w' : World} {k : Nat} {o : Obj} (hb : Below w.heap.size w w') (h : w.heap[k]? = some o) : w'.heap[k]? = some o := by
  rw [hb.block k (Array.getElem?_eq_some_iff.1 h).1]
  exact h
theorem conv_bytes (w : World) (t : List UInt8) : ∃ cap w2, (convert 9 143 (.string ⟨t.toArray⟩)).run Tryz.prog w = .ok (.slice (some ⟨w.heap.size, 0, none⟩) t.length cap) w2 ∧ Below w.heap.size w w2 ∧ ∀ (j : Nat) (a : UInt8), t[j]? = some a → w2.cell? ⟨w.heap.size, j, none⟩ = some (.int .u8 (a.toNat : Nat)) := by
  have h := run_bytes_of_string (P := Tryz.prog) w 9 143 5 ⟨t.toArray⟩ Tryz.underlying9 Tryz.underlying143 Tryz.underlying5
  have hz := ba_size t
  refine ⟨_, _, by rw [h, hz], (Below.refl _ _).drew.alloc (Nat.le_refl _) _, ?_⟩
  intro j a hj
  have hlt : j < t.length := (List.getElem?_eq_some_iff.1 hj).1
  have he : t[j] = a := Option.some.inj ((List.getElem?_eq_getElem hlt).symm.trans hj)
  have hc := cellsAt (allocAt w.drew (.cells (bytesRow ⟨t.toArray⟩ (grownCap w t.length 0 5)) 5 ((bytesRow ⟨t.toArray⟩ (grownCap w t.length 0 5)).size, (bytesRow ⟨t.toArray⟩ (grownCap w t.length 0 5)).size + 1))) j
  have hd : (w.drew.heap.size) = w.heap.size := rfl
  rw [hd] at hc
  rw [hc, bytesRow_at _ _ _ (by simpa using hlt)]
  simp [he]
theorem wraps_i64 (n : Int) (h0 : 0 ≤ n) (h1 : n < 2 ^ 63) : IntKind.i64.wrap n = n := wrapL n h0 (by omega)
theorem or8 (x y : Int) (h1 : 0 ≤ x) (h2 : x % 256 = 0) (h3 : x < 9223372036854775808) (h4 : 0 ≤ y) (h5 : y < 256) : bits .or .i64 x y = x + y :=
  bits_join .i64 63 (by decide) wraps_i64 8 x y h1 h2 h3 h4 h5 (by omega)
end Go.Proofs.YteibjmlimcpaoaaGreatDoor

set_option linter.unusedVariables false
set_option linter.unusedSimpArgs false
namespace Go.Proofs.YteibjmlimcpaoaaGreatDoor
open Go.RowKit Go.Sort

theorem grownAt {w w' : World} {k p : Nat} {o : Obj} (h : w.heap[k]? = some o) (g : w.grownBy w' (some p)) (hne : k ≠ p) : w'.heap[k]? = some o := by
  rw [g.block k (Array.getElem?_eq_some_iff.1 h).1 (fun e => hne (Option.some.inj e))]
  exact h
end Go.Proofs.YteibjmlimcpaoaaGreatDoor

set_option linter.unusedVariables false
set_option linter.unusedSimpArgs false
namespace Go.Proofs.YteibjmlimcpaoaaGreatDoor
open Go.RowKit Go.Sort

/-- a row that lies in new memory is not an old block -/
theorem own_ne_old' {w : World} {B p e size n : Nat} {v : Value} {xs : List Value} (h : w.ownsRow B e size v n xs) (hp : p < B) : v.ownBlock ≠ some p := by
  intro e
  have := (h.lt p e).1
  omega
theorem own_ne_old {w : World} {B p e size n : Nat} {v : Value} {xs : List Value} (h : w.ownsRow B e size v n xs) (hp : p < B) : v.ownBlock = none ∨ v.ownBlock ≠ some p := .inr (own_ne_old' h hp)
theorem grown_row {w w1 w2 : World} {r row : Option Nat} (h : w.grownBy w1 r) (k : w1.grownBy w2 row) (hr : ∀ j, row = some j → w.heap.size ≤ j) : w.grownBy w2 r :=
  ⟨k.os.trans h.os, k.tape.trans h.tape, k.output.trans h.output, Nat.le_trans h.size k.size, fun i hi hn => (k.block i (Nat.lt_of_lt_of_le hi h.size) (fun e => by have := hr i e.symm; omega)).trans (h.block i hi hn)⟩

end Go.Proofs.YteibjmlimcpaoaaGreatDoor

set_option linter.unusedVariables false
set_option linter.unusedSimpArgs false
namespace Go.Proofs.YteibjmlimcpaoaaGreatDoor
open Go.RowKit Go.Sort

def Rep.val (r : Rep) (T N : Value) : Value := .agg #[.int .i64 r.kind, T, .int .i64 r.hs, .int .i64 r.hf, .int .i64 r.hu, .int .i64 r.rs, .int .i64 r.rv, .int .i64 r.rb, .int .i64 r.nm, N, .int .i64 r.cs, .int .i64 r.cf, .int .i64 r.cc]

end Go.Proofs.YteibjmlimcpaoaaGreatDoor

set_option linter.unusedVariables false
set_option linter.unusedSimpArgs false
namespace Go.Proofs.YteibjmlimcpaoaaGreatDoor
open Go.RowKit Go.Sort

theorem rowOfOwn {w : World} {B e k : Nat} {v : Value} {n : Nat} {xs : List Value} (h : w.ownsRow B e k v n xs) : RowIs w v n xs := by
  obtain ⟨h1, ⟨rfl, rfl⟩ | ⟨g, cap, cur, rfl, hb, hg, hn, hm, hs, ht⟩⟩ := h
  · exact ⟨none, 0, rfl, fun h => by omega⟩
  · refine ⟨_, _, rfl, fun _ => ⟨g, 0, rfl, fun j u hj => ?_⟩⟩
    rw [Nat.zero_add, cellsAt hg, ← Array.getElem?_toList]
    rw [← ht, List.getElem?_take] at hj
    split at hj
    · exact hj
    · cases hj
end Go.Proofs.YteibjmlimcpaoaaGreatDoor
