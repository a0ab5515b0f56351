/-
  What the small functions of the document's answer on reports give: visorref.to, one, two, four, for every number in the range that they are called at; nothing that lay in memory turns.
  What visorref.tables answers, for every list of tables wherever it lies; nothing that lay in memory turns.
  visorref.harmful and visorref.utf8, at this program: for every number, for every character.
  What visorref.proper answers, for every string; nothing that lay in memory turns.
  What visorref.names answers, for every list of names wherever it lies; nothing that lay in memory turns.
  What visorref.Encode answers, for every report wherever its lists lie; nothing that lay in memory turns.
  Plain lists of bytes: what the document's answer takes for a proper text is what the library's decoder takes for valid UTF-8 without a harmful character. No program in it.
-/
import Derived.Test.YteibjmlimcpaoaaGreatDoorProg
import Derived.Test.YteibjmlimcpaoaaGreatDoorPa
import Derived.WalkKit
import Derived.BigCall
import Derived.Deep.QuietTactic
import Derived.BigQuiet
import Derived.Lib.Hide
import Derived.Lib.UnsafeStr
import Derived.Lib.QuietBelow
import Derived.Lib.ValidLaws
set_option linter.unusedVariables false
namespace Go.Proofs.YteibjmlimcpaoaaGreatDoor
open Go.RowKit

theorem ret_bool {a b : Bool} (h : a = b) : Ending.returned (.bool a) = .returned (.bool b) := by rw [h]
theorem ret_str {a b : ByteArray} (h : a = b) : Ending.returned (.string a) = Ending.returned (.string b) := by rw [h]
theorem addr_add (b o j : Nat) : (⟨b, o, none⟩ : Addr).add j = ⟨b, o + j, none⟩ := by simp [Addr.add]
theorem ba_append (a b : Array UInt8) : (ByteArray.mk a ++ ByteArray.mk b) = ByteArray.mk (a ++ b) := by
  apply ByteArray.ext
  simp

/-- is a number from 0 to top? -/
def toB (top n : Int) : Bool := decide (0 ≤ n ∧ n ≤ top)
def oneL (n : Nat) : List UInt8 := [UInt8.ofNat n]
def twoL (n : Nat) : List UInt8 := [UInt8.ofNat (n / 256), UInt8.ofNat n]
def fourL (n : Nat) : List UInt8 := twoL (n / 65536) ++ twoL n

set_option maxHeartbeats 400000 in
theorem to17 (top n : Int) (w : World) :
    Calls Tryz.prog 83 #[.int .i64 top, .int .i64 n] w fun e w' => e = .returned (.bool (toB top n)) ∧ w' = w := by
  go_enter Tryz.func83, Tryz.ntmps83
  go_wp2
  all_goals go_ret
  all_goals refine ⟨ret_bool ?_, rfl⟩
  all_goals rw [Bool.eq_iff_iff]
  all_goals simp only [toB, decide_eq_true_eq, Bool.false_eq_true, false_iff]
  all_goals omega

theorem run_conv (w : World) (l : List UInt8) (cs : Array Value) (hl : cs.toList = Lib.byteCells l) (n : Nat) (hn : n = l.length) :
    (convert 143 9 (.slice (some ⟨w.heap.size, 0, none⟩) n n)).run Tryz.prog (w.alloc (.cells cs 5)) = .ok (.string ⟨l.toArray⟩) (w.alloc (.cells cs 5)) := by
  subst hn
  refine run_convert_bytes_back _ 143 9 5 ⟨w.heap.size, 0, none⟩ _ l Tryz.underlying143 Tryz.underlying5 Tryz.underlying9 ?_
  intro j hj
  rw [addr_add, World.cell?_alloc_new, ← Array.getElem?_toList, hl]
  simp [Lib.byteCells, hj]

end Go.Proofs.YteibjmlimcpaoaaGreatDoor

set_option linter.unusedVariables false
namespace Go.Proofs.YteibjmlimcpaoaaGreatDoor
open Go.RowKit Go.Sort

/-- a slice of n elements whose cells are xs, wherever it lies -/
def RowIs (w : World) (v : Value) (n : Nat) (xs : List Value) : Prop :=
  ∃ ao cap, v = .slice ao n cap ∧ (0 < n → ∃ g o, ao = some ⟨g, o, none⟩ ∧ ∀ (j : Nat) (u : Value), xs[j]? = some u → w.cell? ⟨g, o + j, none⟩ = some u)

theorem cell_lt {w : World} {g o : Nat} {u : Value} (h : w.cell? ⟨g, o, none⟩ = some u) : g < w.heap.size := by
  rcases Nat.lt_or_ge g w.heap.size with h' | h'
  · exact h'
  · simp [World.cell?, Array.getElem?_eq_none h'] at h
theorem RowIs.on {w w' : World} {v : Value} {n : Nat} {xs : List Value} (h : RowIs w v n xs) (hb : Below w.heap.size w w') : RowIs w' v n xs := by
  obtain ⟨ao, cap, rfl, hc⟩ := h
  refine ⟨ao, cap, rfl, fun hn => ?_⟩
  obtain ⟨g, o, rfl, hcell⟩ := hc hn
  refine ⟨g, o, rfl, fun j u hj => ?_⟩
  have := hcell j u hj
  rw [hb.cell (p := ⟨g, o + j, none⟩) (cell_lt this)]
  exact this

def tcells : List Tab → List Value
  | [] => []
  | t :: r => .string t.tag :: .int .i64 t.st :: .int .i64 t.sz :: tcells r
theorem tcells_at : ∀ (l : List Tab) (k : Nat) (t : Tab), l[k]? = some t → (tcells l)[k * 3]? = some (.string t.tag) ∧ (tcells l)[k * 3 + 1]? = some (.int .i64 t.st) ∧ (tcells l)[k * 3 + 2]? = some (.int .i64 t.sz)
  | [], k, t, h => by simp at h
  | x :: l, 0, t, h => by
    simp at h
    subst h
    exact ⟨rfl, rfl, rfl⟩
  | x :: l, k + 1, t, h => by
    have := tcells_at l k t (by simpa using h)
    rw [show (k + 1) * 3 = k * 3 + 3 by omega]
    exact this

def tabOk (t : Tab) : Bool := decide (t.tag.size = 4) && toB 4 t.st && toB 2000 t.sz
/-- tables in bytes, behind those that stand already -/
def tabsGo : List Tab → List UInt8 → List UInt8 × Bool
  | [], acc => (acc, true)
  | t :: r, acc => if tabOk t then tabsGo r (acc ++ t.tag.data.toList ++ oneL t.st.toNat ++ twoL t.sz.toNat) else ([], false)
def tabsR (l : List Tab) : List UInt8 × Bool := if 16 < l.length then ([], false) else tabsGo l (oneL l.length)

end Go.Proofs.YteibjmlimcpaoaaGreatDoor

set_option linter.unusedVariables false
namespace Go.Proofs.YteibjmlimcpaoaaGreatDoor
open Go.RowKit

set_option maxHeartbeats 400000 in
theorem harm27 (c : Int) (w : World) :
    Calls Tryz.prog 87 #[.int .i64 c] w fun e w' => e = .returned (.bool (harmB c)) ∧ w' = w := by
  go_enter Tryz.func87, Tryz.ntmps87
  go_wp2
  all_goals go_ret
  all_goals refine ⟨ret_bool ?_, rfl⟩
  all_goals rw [Bool.eq_iff_iff]
  all_goals simp only [harmB, Bool.or_eq_true, beq_iff_eq, decide_eq_true_eq, true_iff]
  all_goals omega

set_option maxRecDepth 100000 in
set_option maxHeartbeats 1000000 in
theorem utf28_1 (n : Nat) (w : World) (h : n < 128) :
    Calls Tryz.prog 125 #[.int .i64 n] w fun e w' => e = .returned (.string ⟨(utf8L n).toArray⟩) ∧ Below w.heap.size w w' := by
  have hf : utf8L n = [UInt8.ofNat n] := by unfold utf8L; rw [if_pos h]
  obtain ⟨l, hl⟩ : ∃ l, utf8L n = l := ⟨_, rfl⟩
  rw [hl]
  rw [hl] at hf
  have hc := run_conv w l #[.int .u8 (n : Int)] (by rw [hf]; simp [Lib.byteCells]; omega) 1 (by rw [hf]; rfl)
  clear hf hl
  go_enter Tryz.func125, Tryz.ntmps125
  go_wp2
  go_ret
  exact ⟨rfl, (Below.refl _ _).alloc (Nat.le_refl _) _⟩

set_option maxRecDepth 100000 in
set_option maxHeartbeats 1000000 in
theorem utf28_2 (n : Nat) (w : World) (h : 128 ≤ n) (h1 : n < 2048) :
    Calls Tryz.prog 125 #[.int .i64 n] w fun e w' => e = .returned (.string ⟨(utf8L n).toArray⟩) ∧ Below w.heap.size w w' := by
  have hf : utf8L n = [UInt8.ofNat (192 + n / 64), UInt8.ofNat (128 + n % 64)] := by unfold utf8L; rw [if_neg (by omega), if_pos h1]
  obtain ⟨l, hl⟩ : ∃ l, utf8L n = l := ⟨_, rfl⟩
  rw [hl]
  rw [hl] at hf
  have hc := run_conv w l #[.int .u8 (192 + (n : Int) / 64), .int .u8 (128 + (n : Int) % 64)] (by rw [hf]; simp [Lib.byteCells]; omega) 2 (by rw [hf]; rfl)
  clear hf hl
  go_enter Tryz.func125, Tryz.ntmps125
  go_wp2
  go_ret
  exact ⟨rfl, (Below.refl _ _).alloc (Nat.le_refl _) _⟩

set_option maxRecDepth 100000 in
set_option maxHeartbeats 1000000 in
theorem utf28_3 (n : Nat) (w : World) (h : 2048 ≤ n) (h1 : n < 65536) :
    Calls Tryz.prog 125 #[.int .i64 n] w fun e w' => e = .returned (.string ⟨(utf8L n).toArray⟩) ∧ Below w.heap.size w w' := by
  have hf : utf8L n = [UInt8.ofNat (224 + n / 4096), UInt8.ofNat (128 + n / 64 % 64), UInt8.ofNat (128 + n % 64)] := by unfold utf8L; rw [if_neg (by omega), if_neg (by omega), if_pos h1]
  obtain ⟨l, hl⟩ : ∃ l, utf8L n = l := ⟨_, rfl⟩
  rw [hl]
  rw [hl] at hf
  have hc := run_conv w l #[.int .u8 (224 + (n : Int) / 4096), .int .u8 (128 + (n : Int) / 64 % 64), .int .u8 (128 + (n : Int) % 64)] (by rw [hf]; simp [Lib.byteCells]; omega) 3 (by rw [hf]; rfl)
  clear hf hl
  obtain ⟨x, hx⟩ : ∃ x : Int, (n : Int) = x := ⟨_, rfl⟩
  rw [hx] at hc
  rw [hx]
  have g0 : 0 ≤ x := by omega
  have g1 : 128 ≤ x := by omega
  have g2 : 2048 ≤ x := by omega
  have g3 : 2048 ≤ x := by omega
  have g4 : x < 65536 := by omega
  clear hx h h1
  go_enter Tryz.func125, Tryz.ntmps125
  go_wp2
  go_ret
  exact ⟨rfl, (Below.refl _ _).alloc (Nat.le_refl _) _⟩

set_option maxRecDepth 100000 in
set_option maxHeartbeats 1000000 in
theorem utf28_4 (n : Nat) (w : World) (h : 65536 ≤ n) (h1 : n ≤ 1114111) :
    Calls Tryz.prog 125 #[.int .i64 n] w fun e w' => e = .returned (.string ⟨(utf8L n).toArray⟩) ∧ Below w.heap.size w w' := by
  have hf : utf8L n = [UInt8.ofNat (240 + n / 262144), UInt8.ofNat (128 + n / 4096 % 64), UInt8.ofNat (128 + n / 64 % 64), UInt8.ofNat (128 + n % 64)] := by unfold utf8L; rw [if_neg (by omega), if_neg (by omega), if_neg (by omega)]
  obtain ⟨l, hl⟩ : ∃ l, utf8L n = l := ⟨_, rfl⟩
  rw [hl]
  rw [hl] at hf
  have hc := run_conv w l #[.int .u8 (240 + (n : Int) / 262144), .int .u8 (128 + (n : Int) / 4096 % 64), .int .u8 (128 + (n : Int) / 64 % 64), .int .u8 (128 + (n : Int) % 64)] (by rw [hf]; simp [Lib.byteCells]; omega) 4 (by rw [hf]; rfl)
  clear hf hl
  obtain ⟨x, hx⟩ : ∃ x : Int, (n : Int) = x := ⟨_, rfl⟩
  rw [hx] at hc
  rw [hx]
  have g0 : 0 ≤ x := by omega
  have g1 : 128 ≤ x := by omega
  have g2 : 2048 ≤ x := by omega
  have g3 : 65536 ≤ x := by omega
  have g4 : x ≤ 1114111 := by omega
  clear hx h h1
  go_enter Tryz.func125, Tryz.ntmps125
  go_wp2
  go_ret
  exact ⟨rfl, (Below.refl _ _).alloc (Nat.le_refl _) _⟩

theorem utf28 (n : Nat) (w : World) (h : n ≤ 1114111) :
    Calls Tryz.prog 125 #[.int .i64 n] w fun e w' => e = .returned (.string ⟨(utf8L n).toArray⟩) ∧ Below w.heap.size w w' := by
  by_cases c1 : n < 128
  · exact utf28_1 n w c1
  by_cases c2 : n < 2048
  · exact utf28_2 n w (by omega) c2
  by_cases c3 : n < 65536
  · exact utf28_3 n w (by omega) c3
  exact utf28_4 n w (by omega) h

end Go.Proofs.YteibjmlimcpaoaaGreatDoor

set_option linter.unusedVariables false
namespace Go.Proofs.YteibjmlimcpaoaaGreatDoor
open Go.RowKit Go.Sort

/-- how many bytes a character has whose first byte is b -/
def widthOf (b : Nat) : Nat := if 240 ≤ b then 4 else if 224 ≤ b then 3 else if 192 ≤ b then 2 else 1
/-- what the first j of its n bytes tell -/
def decT (n : Nat) (l : List UInt8) : Nat → Nat
  | 0 => 0
  | 1 => if n = 1 then (l.getD 0 0).toNat else (l.getD 0 0).toNat % 2 ^ (7 - n)
  | j + 2 => 64 * decT n l (j + 1) + (l.getD (j + 1) 0).toNat % 64
def properGo : Nat → List UInt8 → Bool
  | 0, _ => true
  | _ + 1, [] => true
  | f + 1, a :: l =>
    if (a :: l).length < widthOf a.toNat then false
    else if harmB (decT (widthOf a.toNat) (a :: l) (widthOf a.toNat)) then false
    else if 1114111 < decT (widthOf a.toNat) (a :: l) (widthOf a.toNat) then false
    else if 55296 ≤ decT (widthOf a.toNat) (a :: l) (widthOf a.toNat) ∧ decT (widthOf a.toNat) (a :: l) (widthOf a.toNat) ≤ 57343 then false
    else if utf8L (decT (widthOf a.toNat) (a :: l) (widthOf a.toNat)) ≠ (a :: l).take (widthOf a.toNat) then false
    else properGo f ((a :: l).drop (widthOf a.toNat))
def properB (l : List UInt8) : Bool := if 60 < l.length then false else properGo l.length l

theorem getD_byte (s : ByteArray) (i : Nat) (h : i < s.size) : s.data.toList.getD i 0 = s[i] := by
  have h' : i < s.data.toList.length := by simpa using h
  rw [List.getD_eq_getElem?_getD, List.getElem?_eq_getElem h', Option.getD_some]
  rfl
theorem decT_one (n : Nat) (l : List UInt8) : decT n l 1 = if n = 1 then (l.getD 0 0).toNat else (l.getD 0 0).toNat % 2 ^ (7 - n) := rfl
theorem decT_step (n : Nat) (l : List UInt8) (j : Nat) (h : 1 ≤ j) : decT n l (j + 1) = 64 * decT n l j + (l.getD j 0).toNat % 64 := by
  cases j with
  | zero => omega
  | succ j => rfl
theorem decT_le (n : Nat) (l : List UInt8) (h1 : decT n l 1 < 256) : ∀ j, 1 ≤ j → j ≤ 4 → decT n l j < 67108864 := by
  intro j a b
  have s1 : decT n l 2 = 64 * decT n l 1 + (l.getD 1 0).toNat % 64 := decT_step n l 1 (by omega)
  have s2 : decT n l 3 = 64 * decT n l 2 + (l.getD 2 0).toNat % 64 := decT_step n l 2 (by omega)
  have s3 : decT n l 4 = 64 * decT n l 3 + (l.getD 3 0).toNat % 64 := decT_step n l 3 (by omega)
  have hj : j = 1 ∨ j = 2 ∨ j = 3 ∨ j = 4 := by omega
  rcases hj with rfl | rfl | rfl | rfl <;> omega

theorem properGo_step (f : Nat) (l : List UInt8) (h : 0 < l.length) (hf : l.length ≤ f) (n z : Nat) (hn : widthOf (l.getD 0 0).toNat = n) (hz : decT n l n = z) :
    properGo f l = if l.length < n then false else if harmB z then false else if 1114111 < z then false else if 55296 ≤ z ∧ z ≤ 57343 then false else if utf8L z ≠ l.take n then false else properGo (f - 1) (l.drop n) := by
  cases f with
  | zero => omega
  | succ f =>
    cases l with
    | nil => simp at h
    | cons a l =>
      have e : (a :: l).getD 0 0 = a := rfl
      rw [e] at hn
      subst hn hz
      rfl
theorem index_at (s : ByteArray) (i : Int) (j : Nat) (h : i = j) (hj : j < s.size) (W : World) : (Instr.index 9 (.string s) (.int .i64 i)).run Tryz.prog W = .ok (.int .u8 (s[j].toNat : Int)) W := by
  subst h
  rw [run_index_string W 9 s .i64 _ Tryz.underlying9, dif_pos ⟨by omega, by omega⟩]
  rfl
theorem val_int {k : IntKind} {a b : Int} (h : a = b) : Value.int k a = Value.int k b := by rw [h]
def strSize : Value → Nat
  | .string t => t.size
  | _ => 0
theorem extract_toList (s : ByteArray) (k : Nat) : (s.extract k s.size).data.toList = s.data.toList.drop k := by
  have h : s.size = s.data.toList.length := by simp
  simp only [ByteArray.data_extract, Array.toList_extract, List.extract_eq_take_drop]
  rw [h, List.take_of_length_le (by simp)]
theorem extract_front (s : ByteArray) (k : Nat) : (s.extract 0 k).data.toList = s.data.toList.take k := by
  simp [ByteArray.data_extract]
theorem size_extract (s : ByteArray) (k : Nat) : (s.extract k s.size).size = s.size - k := by
  simp [ByteArray.size_extract]

end Go.Proofs.YteibjmlimcpaoaaGreatDoor

set_option linter.unusedVariables false
set_option linter.unusedSimpArgs false
namespace Go.Proofs.YteibjmlimcpaoaaGreatDoor
open Go.RowKit Go.Sort

theorem properB_size (s : ByteArray) (h : properB s.data.toList = true) : s.size ≤ 60 := by
  have hl : s.data.toList.length = s.size := by simp
  unfold properB at h
  rw [hl] at h
  by_cases hb : 60 < s.size
  · rw [if_pos hb] at h
    cases h
  · omega

def oneBA (n : Nat) : ByteArray := ⟨(oneL n).toArray⟩
def twoBA (n : Nat) : ByteArray := ⟨(twoL n).toArray⟩
theorem oneBA_size (n : Nat) : (oneBA n).size = 1 := rfl
theorem twoBA_size (n : Nat) : (twoBA n).size = 2 := rfl
def ncells : List Nm → List Value
  | [] => []
  | x :: r => .int .i64 x.pl :: .int .i64 x.en :: .int .i64 x.la :: .int .i64 x.id :: .int .i64 x.st :: .int .i64 x.ms :: .string x.tx :: ncells r
theorem ncells_at : ∀ (l : List Nm) (k : Nat) (x : Nm), l[k]? = some x → (ncells l)[k * 7]? = some (.int .i64 x.pl) ∧ (ncells l)[k * 7 + 1]? = some (.int .i64 x.en) ∧ (ncells l)[k * 7 + 2]? = some (.int .i64 x.la) ∧ (ncells l)[k * 7 + 3]? = some (.int .i64 x.id) ∧ (ncells l)[k * 7 + 4]? = some (.int .i64 x.st) ∧ (ncells l)[k * 7 + 5]? = some (.int .i64 x.ms) ∧ (ncells l)[k * 7 + 6]? = some (.string x.tx)
  | [], k, t, h => by simp at h
  | x :: l, 0, t, h => by
    simp at h
    subst h
    exact ⟨rfl, rfl, rfl, rfl, rfl, rfl, rfl⟩
  | x :: l, k + 1, t, h => by
    have := ncells_at l k t (by simpa using h)
    rw [show (k + 1) * 7 = k * 7 + 7 by omega]
    exact this

def nmOk (x : Nm) : Bool := toB 65535 x.pl && toB 65535 x.en && toB 65535 x.la && toB 65535 x.id && toB 8 x.st && toB 7 x.ms && properB x.tx.data.toList
def nmL (x : Nm) : List UInt8 := twoL x.pl.toNat ++ twoL x.en.toNat ++ twoL x.la.toNat ++ twoL x.id.toNat ++ oneL x.st.toNat ++ oneL x.ms.toNat ++ oneL x.tx.size ++ x.tx.data.toList
def nmsGo : List Nm → List UInt8 → List UInt8 × Bool
  | [], acc => (acc, true)
  | x :: r, acc => if nmOk x then nmsGo r (acc ++ nmL x) else ([], false)
def nmsR (l : List Nm) : List UInt8 × Bool := if 20 < l.length then ([], false) else nmsGo l (oneL l.length)

theorem new7 {wr w5 : World} {x0 x1 x2 x3 x4 x5 x6 : Value} (hb : Below (wr.alloc (.cells #[x0, x1, x2, x3, x4, x5, x6] 72)).heap.size (wr.alloc (.cells #[x0, x1, x2, x3, x4, x5, x6] 72)) w5) :
    w5.cell? ⟨wr.heap.size, 0, none⟩ = some x0 ∧ w5.cell? ⟨wr.heap.size, 1, none⟩ = some x1 ∧ w5.cell? ⟨wr.heap.size, 2, none⟩ = some x2 ∧ w5.cell? ⟨wr.heap.size, 3, none⟩ = some x3 ∧ w5.cell? ⟨wr.heap.size, 4, none⟩ = some x4 ∧ w5.cell? ⟨wr.heap.size, 5, none⟩ = some x5 ∧ w5.cell? ⟨wr.heap.size, 6, none⟩ = some x6 := by
  have h : ∀ i, w5.cell? ⟨wr.heap.size, i, none⟩ = (wr.alloc (.cells #[x0, x1, x2, x3, x4, x5, x6] 72)).cell? ⟨wr.heap.size, i, none⟩ := fun i => hb.cell (p := ⟨wr.heap.size, i, none⟩) (by simp)
  refine ⟨?_, ?_, ?_, ?_, ?_, ?_, ?_⟩ <;> (rw [h, World.cell?_alloc_new]; rfl)

theorem toB_nat {top n : Int} (h : toB top n = true) : ∃ k : Nat, n = k ∧ (k : Int) ≤ top := by
  simp only [toB, decide_eq_true_eq] at h
  exact ⟨n.toNat, by omega, by omega⟩

end Go.Proofs.YteibjmlimcpaoaaGreatDoor

set_option linter.unusedVariables false
set_option linter.unusedSimpArgs false
namespace Go.Proofs.YteibjmlimcpaoaaGreatDoor
open Go.RowKit Go.Sort

theorem tabsGo_length : ∀ (l : List Tab) (acc : List UInt8), (tabsGo l acc).1.length ≤ acc.length + 7 * l.length
  | [], acc => by simp [tabsGo]
  | t :: r, acc => by
    rw [tabsGo]
    split
    · rename_i h
      have h4 : t.tag.size = 4 := by
        simp only [tabOk, Bool.and_eq_true, decide_eq_true_eq] at h
        exact h.1.1
      have h9 := tabsGo_length r (acc ++ t.tag.data.toList ++ oneL t.st.toNat ++ twoL t.sz.toNat)
      have e3 : t.tag.data.toList.length = t.tag.size := by simp
      have e4 : (acc ++ t.tag.data.toList ++ oneL t.st.toNat ++ twoL t.sz.toNat).length = acc.length + 7 := by
        simp only [List.length_append, oneL, twoL, List.length_cons, List.length_nil]
        omega
      simp only [List.length_cons]
      omega
    · simp
theorem tabsR_length (l : List Tab) : (tabsR l).1.length ≤ 200 := by
  unfold tabsR
  split
  · simp
  · have := tabsGo_length l (oneL l.length)
    have e : (oneL l.length).length = 1 := rfl
    omega
theorem nmsGo_length : ∀ (l : List Nm) (acc : List UInt8), (nmsGo l acc).1.length ≤ acc.length + 71 * l.length
  | [], acc => by simp [nmsGo]
  | x :: r, acc => by
    rw [nmsGo]
    split
    · rename_i h
      have h6 : x.tx.size ≤ 60 := by
        simp only [nmOk, Bool.and_eq_true] at h
        exact properB_size _ h.2
      have h9 := nmsGo_length r (acc ++ nmL x)
      have e3 : x.tx.data.toList.length = x.tx.size := by simp
      have e4 : (acc ++ nmL x).length ≤ acc.length + 71 := by
        simp only [List.length_append, nmL, oneL, twoL, List.length_cons, List.length_nil]
        omega
      simp only [List.length_cons]
      omega
    · simp
theorem nmsR_length (l : List Nm) : (nmsR l).1.length ≤ 2000 := by
  unfold nmsR
  split
  · simp
  · have := nmsGo_length l (oneL l.length)
    have e : (oneL l.length).length = 1 := rfl
    omega

def fourBA (n : Nat) : ByteArray := ⟨(fourL n).toArray⟩
theorem fourBA_size (n : Nat) : (fourBA n).size = 4 := rfl
theorem cellOn {w1 w2 : World} {g o : Nat} {u : Value} (h : w1.cell? ⟨g, o, none⟩ = some u) (hb : Below w1.heap.size w1 w2) : w2.cell? ⟨g, o, none⟩ = some u := by
  rw [hb.cell (p := ⟨g, o, none⟩) (cell_lt h)]
  exact h
theorem newAt {w w' : World} {cs : Array Value} {T : TypeId} (hb : Below (w.alloc (.cells cs T)).heap.size (w.alloc (.cells cs T)) w') (i : Nat) : w'.cell? ⟨w.heap.size, i, none⟩ = cs[i]? := by
  rw [hb.cell (p := ⟨w.heap.size, i, none⟩) (by simp), World.cell?_alloc_new]

def encOf (kind hs hf hu rs rv rb nm cs cf cc : Int) (t n : List UInt8 × Bool) : List UInt8 × Int :=
  if ((toB 3 kind && [hs, rs, nm, cs].all (toB 8)) && [hf, hu, rv, rb, cf].all (toB 65535)) && t.2 && n.2 && toB 1114112 cc then
    (oneL kind.toNat ++ t.1 ++ oneL hs.toNat ++ twoL hf.toNat ++ twoL hu.toNat ++ oneL rs.toNat ++ twoL rv.toNat ++ twoL rb.toNat ++ oneL nm.toNat ++ n.1 ++ oneL cs.toNat ++ twoL cf.toNat ++ fourL cc.toNat, 0)
  else ([], 5)

end Go.Proofs.YteibjmlimcpaoaaGreatDoor

set_option linter.unusedVariables false
set_option linter.unusedSimpArgs false
namespace Go.Proofs.YteibjmlimcpaoaaGreatDoor

/-- no character of a text, as the decoder reads it, is harmful -/
def runesGo : Nat → List UInt8 → Bool
  | 0, _ => true
  | f + 1, l => if l = [] then true else if harmB ((Lib.decodeL l).1 : Int) then false else runesGo f (l.drop (Lib.decodeL l).2)
/-- the same, and each is one -/
def okGo : Nat → List UInt8 → Bool
  | 0, _ => true
  | f + 1, l => if l = [] then true else if (Lib.decodeL l).1 = 65533 ∧ (Lib.decodeL l).2 = 1 then false else if harmB ((Lib.decodeL l).1 : Int) then false else okGo f (l.drop (Lib.decodeL l).2)

theorem okGo_both : ∀ (f : Nat) (l : List UInt8), okGo f l = (Lib.validGoD f l && runesGo f l)
  | 0, l => rfl
  | f + 1, l => by
    rw [okGo, Lib.validGoD, runesGo, okGo_both f]
    by_cases h : l = []
    · simp [h]
    · rw [if_neg h, if_neg h, if_neg h]
      by_cases h2 : (Lib.decodeL l).1 = 65533 ∧ (Lib.decodeL l).2 = 1
      · rw [if_pos h2, if_pos h2]; rfl
      · rw [if_neg h2, if_neg h2]
        cases harmB ((Lib.decodeL l).1 : Int) <;> simp

theorem u8eq (x : Nat) (a : UInt8) : UInt8.ofNat x = a ↔ x % 256 = a.toNat := by
  rw [← UInt8.toNat_inj]
  simp

/-- the test of one character, over numbers -/
def stepN (n b0 b1 b2 b3 : Nat) : Option (Nat × Nat) :=
  if b0 < 128 then some (b0, 1)
  else if b0 < 192 then none
  else if b0 < 224 then (if 2 ≤ n ∧ b1 / 64 = 2 ∧ 128 ≤ b0 % 32 * 64 + b1 % 64 then some (b0 % 32 * 64 + b1 % 64, 2) else none)
  else if b0 < 240 then (if 3 ≤ n ∧ b1 / 64 = 2 ∧ b2 / 64 = 2 ∧ 2048 ≤ b0 % 16 * 4096 + b1 % 64 * 64 + b2 % 64 ∧ (b0 % 16 * 4096 + b1 % 64 * 64 + b2 % 64 < 55296 ∨ 57344 ≤ b0 % 16 * 4096 + b1 % 64 * 64 + b2 % 64) then some (b0 % 16 * 4096 + b1 % 64 * 64 + b2 % 64, 3) else none)
  else (if 4 ≤ n ∧ b0 < 248 ∧ b1 / 64 = 2 ∧ b2 / 64 = 2 ∧ b3 / 64 = 2 ∧ 65536 ≤ b0 % 8 * 262144 + b1 % 64 * 4096 + b2 % 64 * 64 + b3 % 64 ∧ b0 % 8 * 262144 + b1 % 64 * 4096 + b2 % 64 * 64 + b3 % 64 ≤ 1114111 then some (b0 % 8 * 262144 + b1 % 64 * 4096 + b2 % 64 * 64 + b3 % 64, 4) else none)

set_option maxHeartbeats 2000000 in
theorem stepN_decode (n b0 b1 b2 b3 : Nat) (h0 : b0 < 256) :
    (stepN n b0 b1 b2 b3 = none ∧ Lib.decodeN n b0 b1 b2 b3 = (65533, 1)) ∨ (∃ z k, stepN n b0 b1 b2 b3 = some (z, k) ∧ Lib.decodeN n b0 b1 b2 b3 = (z, k) ∧ ¬ (z = 65533 ∧ k = 1)) := by
  unfold stepN Lib.decodeN
  by_cases c1 : b0 < 128
  · right
    refine ⟨b0, 1, ?_, ?_, by omega⟩ <;> simp only [c1, if_true]
  by_cases c2 : b0 < 192
  · left
    simp only [c1, c2, if_false, if_true]
    rw [if_neg (by omega), if_neg (by omega), if_neg (by omega)]
    exact ⟨trivial, rfl⟩
  by_cases c3 : b0 < 224
  · simp only [c1, c2, c3, if_false, if_true]
    by_cases c : 2 ≤ n ∧ b1 / 64 = 2 ∧ 128 ≤ b0 % 32 * 64 + b1 % 64
    · right
      rw [if_pos c, if_pos (by omega), if_pos (by omega)]
      exact ⟨_, _, rfl, rfl, by omega⟩
    · left
      rw [if_neg c]
      refine ⟨rfl, ?_⟩
      by_cases d : b0 / 32 = 6 ∧ (1 < n ∧ b1 / 64 = 2)
      · rw [if_pos d, if_neg (by omega)]
      · rw [if_neg d, if_neg (by omega), if_neg (by omega)]
  by_cases c4 : b0 < 240
  · simp only [c1, c2, c3, c4, if_false, if_true]
    rw [if_neg (show ¬ (b0 / 32 = 6 ∧ (1 < n ∧ b1 / 64 = 2)) by omega)]
    by_cases c : 3 ≤ n ∧ b1 / 64 = 2 ∧ b2 / 64 = 2 ∧ 2048 ≤ b0 % 16 * 4096 + b1 % 64 * 64 + b2 % 64 ∧ (b0 % 16 * 4096 + b1 % 64 * 64 + b2 % 64 < 55296 ∨ 57344 ≤ b0 % 16 * 4096 + b1 % 64 * 64 + b2 % 64)
    · right
      rw [if_pos c, if_pos (by omega), if_pos (by omega)]
      exact ⟨_, _, rfl, rfl, by omega⟩
    · left
      rw [if_neg c]
      refine ⟨rfl, ?_⟩
      by_cases d : b0 / 16 = 14 ∧ (1 < n ∧ b1 / 64 = 2) ∧ (2 < n ∧ b2 / 64 = 2)
      · rw [if_pos d, if_neg (by omega)]
      · rw [if_neg d, if_neg (by omega)]
  · simp only [c1, c2, c3, c4, if_false, if_true]
    rw [if_neg (show ¬ (b0 / 32 = 6 ∧ (1 < n ∧ b1 / 64 = 2)) by omega), if_neg (show ¬ (b0 / 16 = 14 ∧ (1 < n ∧ b1 / 64 = 2) ∧ (2 < n ∧ b2 / 64 = 2)) by omega)]
    by_cases c : 4 ≤ n ∧ b0 < 248 ∧ b1 / 64 = 2 ∧ b2 / 64 = 2 ∧ b3 / 64 = 2 ∧ 65536 ≤ b0 % 8 * 262144 + b1 % 64 * 4096 + b2 % 64 * 64 + b3 % 64 ∧ b0 % 8 * 262144 + b1 % 64 * 4096 + b2 % 64 * 64 + b3 % 64 ≤ 1114111
    · right
      rw [if_pos c, if_pos (by omega), if_pos (by omega)]
      exact ⟨_, _, rfl, rfl, by omega⟩
    · left
      rw [if_neg c]
      refine ⟨rfl, ?_⟩
      by_cases d : b0 / 8 = 30 ∧ (1 < n ∧ b1 / 64 = 2) ∧ (2 < n ∧ b2 / 64 = 2) ∧ (3 < n ∧ b3 / 64 = 2)
      · rw [if_pos d, if_neg (by omega)]
      · rw [if_neg d]

theorem take1 : ∀ (l : List UInt8), 1 ≤ l.length → l.take 1 = [l.getD 0 0]
  | a :: l, _ => rfl
theorem take2 : ∀ (l : List UInt8), 2 ≤ l.length → l.take 2 = [l.getD 0 0, l.getD 1 0]
  | a :: b :: l, _ => rfl
theorem take3 : ∀ (l : List UInt8), 3 ≤ l.length → l.take 3 = [l.getD 0 0, l.getD 1 0, l.getD 2 0]
  | a :: b :: c :: l, _ => rfl
theorem take4 : ∀ (l : List UInt8), 4 ≤ l.length → l.take 4 = [l.getD 0 0, l.getD 1 0, l.getD 2 0, l.getD 3 0]
  | a :: b :: c :: d :: l, _ => rfl

/-- the document's test of one character -/
def stepD (l : List UInt8) : Bool :=
  let k := widthOf (l.getD 0 0).toNat
  let z := decT k l k
  decide (k ≤ l.length ∧ z ≤ 1114111 ∧ ¬ (55296 ≤ z ∧ z ≤ 57343) ∧ utf8L z = l.take k)

set_option maxHeartbeats 2000000 in
theorem stepD_N (l : List UInt8) (h : 0 < l.length) :
    (stepD l = false ∧ stepN l.length (l.getD 0 0).toNat (l.getD 1 0).toNat (l.getD 2 0).toNat (l.getD 3 0).toNat = none) ∨
    (stepD l = true ∧ stepN l.length (l.getD 0 0).toNat (l.getD 1 0).toNat (l.getD 2 0).toNat (l.getD 3 0).toNat = some (decT (widthOf (l.getD 0 0).toNat) l (widthOf (l.getD 0 0).toNat), widthOf (l.getD 0 0).toNat)) := by
  have B0 := (l.getD 0 0).toNat_lt
  have B1 := (l.getD 1 0).toNat_lt
  have B2 := (l.getD 2 0).toNat_lt
  have B3 := (l.getD 3 0).toNat_lt
  unfold stepD
  by_cases c1 : (l.getD 0 0).toNat < 128
  · have hw : widthOf (l.getD 0 0).toNat = 1 := by unfold widthOf; rw [if_neg (by omega), if_neg (by omega), if_neg (by omega)]
    right
    rw [hw]
    have hz : decT 1 l 1 = (l.getD 0 0).toNat := rfl
    simp only [hz]
    refine ⟨decide_eq_true ⟨by omega, by omega, by omega, ?_⟩, ?_⟩
    · rw [take1 l (by omega)]
      unfold utf8L
      rw [if_pos c1]
      congr 1
      rw [u8eq]
      omega
    · unfold stepN; rw [if_pos c1]
  by_cases c2 : (l.getD 0 0).toNat < 192
  · have hw : widthOf (l.getD 0 0).toNat = 1 := by unfold widthOf; rw [if_neg (by omega), if_neg (by omega), if_neg (by omega)]
    left
    rw [hw]
    have hz : decT 1 l 1 = (l.getD 0 0).toNat := rfl
    simp only [hz]
    refine ⟨decide_eq_false ?_, ?_⟩
    · rintro ⟨_, _, _, e⟩
      rw [take1 l (by omega)] at e
      unfold utf8L at e
      rw [if_neg c1, if_pos (by omega)] at e
      simp at e
    · unfold stepN; rw [if_neg c1, if_pos c2]
  by_cases c3 : (l.getD 0 0).toNat < 224
  · have hw : widthOf (l.getD 0 0).toNat = 2 := by unfold widthOf; rw [if_neg (by omega), if_neg (by omega), if_pos (by omega)]
    rw [hw]
    have hz : decT 2 l 2 = (l.getD 0 0).toNat % 32 * 64 + (l.getD 1 0).toNat % 64 := by
      rw [decT_step 2 l 1 (by omega), decT_one, if_neg (by decide)]
      show 64 * ((l.getD 0 0).toNat % 32) + _ = _
      omega
    simp only [hz]
    unfold stepN
    rw [if_neg c1, if_neg c2, if_pos c3]
    by_cases c : 2 ≤ l.length ∧ (l.getD 1 0).toNat / 64 = 2 ∧ 128 ≤ (l.getD 0 0).toNat % 32 * 64 + (l.getD 1 0).toNat % 64
    · right
      rw [if_pos c]
      refine ⟨decide_eq_true ⟨by omega, by omega, by omega, ?_⟩, rfl⟩
      rw [take2 l (by omega)]
      unfold utf8L
      rw [if_neg (by omega), if_pos (by omega)]
      have e1 := (u8eq (192 + ((l.getD 0 0).toNat % 32 * 64 + (l.getD 1 0).toNat % 64) / 64) (l.getD 0 0)).2 (by omega)
      have e2 := (u8eq (128 + ((l.getD 0 0).toNat % 32 * 64 + (l.getD 1 0).toNat % 64) % 64) (l.getD 1 0)).2 (by omega)
      rw [e1, e2]
    · left
      rw [if_neg c]
      refine ⟨decide_eq_false ?_, rfl⟩
      rintro ⟨h1, _, _, e⟩
      rw [take2 l h1] at e
      unfold utf8L at e
      by_cases d : (l.getD 0 0).toNat % 32 * 64 + (l.getD 1 0).toNat % 64 < 128
      · rw [if_pos d] at e
        simp at e
      · rw [if_neg d, if_pos (by omega)] at e
        simp only [List.cons.injEq, and_true] at e
        have e2 := (u8eq _ _).1 e.2
        omega
  by_cases c4 : (l.getD 0 0).toNat < 240
  · have hw : widthOf (l.getD 0 0).toNat = 3 := by unfold widthOf; rw [if_neg (by omega), if_pos (by omega)]
    rw [hw]
    have hz : decT 3 l 3 = (l.getD 0 0).toNat % 16 * 4096 + (l.getD 1 0).toNat % 64 * 64 + (l.getD 2 0).toNat % 64 := by
      rw [decT_step 3 l 2 (by omega), decT_step 3 l 1 (by omega), decT_one, if_neg (by decide)]
      show 64 * (64 * ((l.getD 0 0).toNat % 16) + _) + _ = _
      omega
    simp only [hz]
    unfold stepN
    rw [if_neg c1, if_neg c2, if_neg c3, if_pos c4]
    obtain ⟨Z, hZ⟩ : ∃ Z, (l.getD 0 0).toNat % 16 * 4096 + (l.getD 1 0).toNat % 64 * 64 + (l.getD 2 0).toNat % 64 = Z := ⟨_, rfl⟩
    rw [hZ]
    by_cases c : 3 ≤ l.length ∧ (l.getD 1 0).toNat / 64 = 2 ∧ (l.getD 2 0).toNat / 64 = 2 ∧ 2048 ≤ Z ∧ (Z < 55296 ∨ 57344 ≤ Z)
    · right
      rw [if_pos c]
      refine ⟨decide_eq_true ⟨by omega, by omega, by omega, ?_⟩, rfl⟩
      rw [take3 l (by omega)]
      unfold utf8L
      rw [if_neg (by omega), if_neg (by omega), if_pos (by omega)]
      have e1 := (u8eq (224 + Z / 4096) (l.getD 0 0)).2 (by omega)
      have e2 := (u8eq (128 + Z / 64 % 64) (l.getD 1 0)).2 (by omega)
      have e3 := (u8eq (128 + Z % 64) (l.getD 2 0)).2 (by omega)
      rw [e1, e2, e3]
    · left
      rw [if_neg c]
      refine ⟨decide_eq_false ?_, rfl⟩
      rintro ⟨h1, h2, h3, e⟩
      rw [take3 l h1] at e
      unfold utf8L at e
      by_cases d : Z < 128
      · rw [if_pos d] at e
        simp at e
      by_cases d2 : Z < 2048
      · rw [if_neg d, if_pos d2] at e
        simp at e
      · rw [if_neg d, if_neg d2, if_pos (by omega)] at e
        simp only [List.cons.injEq, and_true] at e
        have e2 := (u8eq _ _).1 e.2.1
        have e3 := (u8eq _ _).1 e.2.2
        omega
  · have hw : widthOf (l.getD 0 0).toNat = 4 := by unfold widthOf; rw [if_pos (by omega)]
    rw [hw]
    have hz : decT 4 l 4 = (l.getD 0 0).toNat % 8 * 262144 + (l.getD 1 0).toNat % 64 * 4096 + (l.getD 2 0).toNat % 64 * 64 + (l.getD 3 0).toNat % 64 := by
      rw [decT_step 4 l 3 (by omega), decT_step 4 l 2 (by omega), decT_step 4 l 1 (by omega), decT_one, if_neg (by decide)]
      show 64 * (64 * (64 * ((l.getD 0 0).toNat % 8) + _) + _) + _ = _
      omega
    simp only [hz]
    unfold stepN
    rw [if_neg c1, if_neg c2, if_neg c3, if_neg c4]
    obtain ⟨Z, hZ⟩ : ∃ Z, (l.getD 0 0).toNat % 8 * 262144 + (l.getD 1 0).toNat % 64 * 4096 + (l.getD 2 0).toNat % 64 * 64 + (l.getD 3 0).toNat % 64 = Z := ⟨_, rfl⟩
    rw [hZ]
    by_cases c : 4 ≤ l.length ∧ (l.getD 0 0).toNat < 248 ∧ (l.getD 1 0).toNat / 64 = 2 ∧ (l.getD 2 0).toNat / 64 = 2 ∧ (l.getD 3 0).toNat / 64 = 2 ∧ 65536 ≤ Z ∧ Z ≤ 1114111
    · right
      rw [if_pos c]
      refine ⟨decide_eq_true ⟨by omega, by omega, by omega, ?_⟩, rfl⟩
      rw [take4 l (by omega)]
      unfold utf8L
      rw [if_neg (by omega), if_neg (by omega), if_neg (by omega)]
      have e1 := (u8eq (240 + Z / 262144) (l.getD 0 0)).2 (by omega)
      have e2 := (u8eq (128 + Z / 4096 % 64) (l.getD 1 0)).2 (by omega)
      have e3 := (u8eq (128 + Z / 64 % 64) (l.getD 2 0)).2 (by omega)
      have e4 := (u8eq (128 + Z % 64) (l.getD 3 0)).2 (by omega)
      rw [e1, e2, e3, e4]
    · left
      rw [if_neg c]
      refine ⟨decide_eq_false ?_, rfl⟩
      rintro ⟨h1, h2, h3, e⟩
      rw [take4 l h1] at e
      unfold utf8L at e
      by_cases d : Z < 128
      · rw [if_pos d] at e
        simp at e
      by_cases d2 : Z < 2048
      · rw [if_neg d, if_pos d2] at e
        simp at e
      by_cases d3 : Z < 65536
      · rw [if_neg d, if_neg d2, if_pos d3] at e
        simp at e
      · rw [if_neg d, if_neg d2, if_neg d3] at e
        simp only [List.cons.injEq, and_true] at e
        have e1 := (u8eq _ _).1 e.1
        have e2 := (u8eq _ _).1 e.2.1
        have e3 := (u8eq _ _).1 e.2.2.1
        have e4 := (u8eq _ _).1 e.2.2.2
        omega

theorem properGo_ok (f : Nat) : ∀ (l : List UInt8), l.length ≤ f → properGo f l = okGo f l := by
  induction f with
  | zero => intro l h; rfl
  | succ f ih =>
    intro l h
    by_cases hne : l = []
    · subst hne; rfl
    have hp : 0 < l.length := List.length_pos_iff.2 hne
    obtain ⟨K, hK⟩ : ∃ K, widthOf (l.getD 0 0).toNat = K := ⟨_, rfl⟩
    obtain ⟨Z, hZ⟩ : ∃ Z, decT K l K = Z := ⟨_, rfl⟩
    have hst := properGo_step (f + 1) l hp h K Z hK hZ
    have hok : okGo (f + 1) l = if (Lib.decodeL l).1 = 65533 ∧ (Lib.decodeL l).2 = 1 then false else if harmB ((Lib.decodeL l).1 : Int) then false else okGo f (l.drop (Lib.decodeL l).2) := by
      rw [okGo, if_neg hne]
    have hd := Lib.decodeL_N l
    have h9 := stepN_decode l.length (l.getD 0 0).toNat (l.getD 1 0).toNat (l.getD 2 0).toNat (l.getD 3 0).toNat (l.getD 0 0).toNat_lt
    rw [← hd] at h9
    have h8 := stepD_N l hp
    unfold stepD at h8
    simp only [hK, hZ] at h8
    have hwp : 1 ≤ K := by rw [← hK]; unfold widthOf; split; omega; split; omega; split <;> omega
    rw [hst, hok]
    rcases h8 with ⟨d1, d2⟩ | ⟨d1, d2⟩
    · rcases h9 with ⟨e1, e2⟩ | ⟨z, k, e1, e2, e3⟩
      · rw [e2, if_pos (show ((65533, 1) : Nat × Nat).1 = 65533 ∧ ((65533, 1) : Nat × Nat).2 = 1 from ⟨rfl, rfl⟩)]
        have d3 := of_decide_eq_false d1
        by_cases q1 : l.length < K
        · rw [if_pos q1]
        rw [if_neg q1]
        split
        · rfl
        by_cases q2 : 1114111 < Z
        · rw [if_pos q2]
        rw [if_neg q2]
        by_cases q3 : 55296 ≤ Z ∧ Z ≤ 57343
        · rw [if_pos q3]
        rw [if_neg q3]
        by_cases q4 : utf8L Z = l.take K
        · exact absurd ⟨by omega, by omega, q3, q4⟩ d3
        · rw [if_pos q4]
      · rw [d2] at e1; cases e1
    · rcases h9 with ⟨e1, e2⟩ | ⟨z, k, e1, e2, e3⟩
      · rw [d2] at e1; cases e1
      · rw [d2] at e1
        simp only [Option.some.injEq, Prod.mk.injEq] at e1
        obtain ⟨rfl, rfl⟩ := e1
        rw [e2, if_neg (show ¬ ((Z, K).1 = 65533 ∧ (Z, K).2 = 1) from e3)]
        obtain ⟨f1, f2, f3, f4⟩ := of_decide_eq_true d1
        have ih' := ih (l.drop K) (by rw [List.length_drop]; omega)
        rw [if_neg (by omega)]
        split
        · rfl
        · rw [if_neg (show ¬ 1114111 < Z by omega)]
          first | rw [if_neg f3] | skip
          rw [if_neg (by rw [f4]; simp)]
          exact ih'

theorem properB_eq (l : List UInt8) : properB l = (if 60 < l.length then false else (Lib.validD l && runesGo l.length l)) := by
  unfold properB
  rw [properGo_ok _ _ (Nat.le_refl _), okGo_both]
  rfl
end Go.Proofs.YteibjmlimcpaoaaGreatDoor
