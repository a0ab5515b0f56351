/-
  What the small functions of the document's answer on reports give: visorref.to, one, two, four, for every number in the range that they are called at; nothing that lay in memory turns.
  What visorref.tables answers, for every list of tables wherever it lies; nothing that lay in memory turns.
  visorref.harmful and visorref.utf8, at this program: for every number, for every character.
  What visorref.proper answers, for every string; nothing that lay in memory turns.
  What visorref.names answers, for every list of names wherever it lies; nothing that lay in memory turns.
  What visorref.Encode answers, for every report wherever its lists lie; nothing that lay in memory turns.
  Plain lists of bytes: what the document's answer takes for a proper text is what the library's decoder takes for valid UTF-8 without a harmful character. No program in it.
-/
import Derived.Test.YteibjmlimcpaoaaDoorProg
import Derived.Test.YteibjmlimcpaoaaDoorPa
import Derived.WalkKit
import Derived.BigCall
import Derived.Deep.QuietTactic
import Derived.BigQuiet
import Derived.Lib.Hide
import Derived.Lib.UnsafeStr
import Derived.Lib.QuietBelow
import Derived.Lib.ValidLaws
set_option linter.unusedVariables false
namespace Go.Proofs.YteibjmlimcpaoaaDoor
open Go.RowKit

theorem ret_bool {a b : Bool} (h : a = b) : Ending.returned (.bool a) = .returned (.bool b) := by rw [h]
theorem ret_str {a b : ByteArray} (h : a = b) : Ending.returned (.string a) = Ending.returned (.string b) := by rw [h]
theorem addr_add (b o j : Nat) : (⟨b, o, none⟩ : Addr).add j = ⟨b, o + j, none⟩ := by simp [Addr.add]
theorem ba_append (a b : Array UInt8) : (ByteArray.mk a ++ ByteArray.mk b) = ByteArray.mk (a ++ b) := by
  apply ByteArray.ext
  simp

/-- is a number from 0 to top? -/
def toB (top n : Int) : Bool := decide (0 ≤ n ∧ n ≤ top)
def oneL (n : Nat) : List UInt8 := [UInt8.ofNat n]
def twoL (n : Nat) : List UInt8 := [UInt8.ofNat (n / 256), UInt8.ofNat n]
def fourL (n : Nat) : List UInt8 := twoL (n / 65536) ++ twoL n

set_option maxHeartbeats 400000 in
theorem to17 (top n : Int) (w : World) :
    Calls Tryd.prog 37 #[.int .i64 top, .int .i64 n] w fun e w' => e = .returned (.bool (toB top n)) ∧ w' = w := by
  go_enter Tryd.func37, Tryd.ntmps37
  go_wp2
  all_goals go_ret
  all_goals refine ⟨ret_bool ?_, rfl⟩
  all_goals rw [Bool.eq_iff_iff]
  all_goals simp only [toB, decide_eq_true_eq, Bool.false_eq_true, false_iff]
  all_goals omega

theorem run_conv (w : World) (l : List UInt8) (cs : Array Value) (hl : cs.toList = Lib.byteCells l) (n : Nat) (hn : n = l.length) :
    (convert 62 9 (.slice (some ⟨w.heap.size, 0, none⟩) n n)).run Tryd.prog (w.alloc (.cells cs 5)) = .ok (.string ⟨l.toArray⟩) (w.alloc (.cells cs 5)) := by
  subst hn
  refine run_convert_bytes_back _ 62 9 5 ⟨w.heap.size, 0, none⟩ _ l Tryd.underlying62 Tryd.underlying5 Tryd.underlying9 ?_
  intro j hj
  rw [addr_add, World.cell?_alloc_new, ← Array.getElem?_toList, hl]
  simp [Lib.byteCells, hj]

set_option maxRecDepth 100000 in
set_option maxHeartbeats 400000 in
theorem one18 (n : Nat) (w : World) (hn : n < 256) :
    Calls Tryd.prog 38 #[.int .i64 n] w fun e w' => e = .returned (.string ⟨(oneL n).toArray⟩) ∧ Below w.heap.size w w' := by
  have hc := run_conv w (oneL n) #[.int .u8 (n : Int)] (by simp [Lib.byteCells, oneL]; omega) 1 rfl
  generalize oneL n = l at *
  go_enter Tryd.func38, Tryd.ntmps38
  go_wp2
  go_ret
  exact ⟨rfl, (Below.refl _ _).alloc (Nat.le_refl _) _⟩

set_option maxRecDepth 100000 in
set_option maxHeartbeats 400000 in
theorem two19 (n : Nat) (w : World) (hn : n < 4294967296) :
    Calls Tryd.prog 39 #[.int .i64 n] w fun e w' => e = .returned (.string ⟨(twoL n).toArray⟩) ∧ Below w.heap.size w w' := by
  have hc := run_conv w (twoL n) #[.int .u8 ((n : Int) / 256 % 256), .int .u8 ((n : Int) % 256)] (by simp [Lib.byteCells, twoL]) 2 rfl
  generalize twoL n = l at *
  go_enter Tryd.func39, Tryd.ntmps39
  go_wp2
  go_ret
  exact ⟨rfl, (Below.refl _ _).alloc (Nat.le_refl _) _⟩

set_option maxRecDepth 100000 in
set_option maxHeartbeats 400000 in
theorem four20 (n : Nat) (w : World) (hn : n < 4294967296) :
    Calls Tryd.prog 40 #[.int .i64 n] w fun e w' => e = .returned (.string ⟨(fourL n).toArray⟩) ∧ Below w.heap.size w w' := by
  have A := Lib.hid (fun w => two19 (n / 65536) w (by omega))
  rw [show ((n / 65536 : Nat) : Int) = (n : Int) / 65536 by omega] at A
  have B := Lib.hid (fun w => two19 n w hn)
  have e : fourL n = twoL (n / 65536) ++ twoL n := rfl
  rw [e]
  have l1 : (twoL (n / 65536)).length = 2 := rfl
  have l2 : (twoL n).length = 2 := rfl
  generalize twoL (n / 65536) = x at *
  generalize twoL n = y at *
  have l1' : x.length ≤ 2 := by omega
  have l2' : y.length ≤ 2 := by omega
  clear e l1 l2
  go_enter Tryd.func40, Tryd.ntmps40
  go_wp2_with (go_at_call 39; refine (A.out _).mono ?_; rintro e w1 ⟨rfl, hb1⟩; refine Hid.out ?_)
  refine Lib.hid ?_
  go_wp2_with (go_at_call 39; refine (B.out _).mono ?_; rintro e w2 ⟨rfl, hb2⟩)
  go_ret
  refine ⟨ret_str ?_, hb1.trans (hb2.mono hb1.size)⟩
  rw [ba_append]
  simp
end Go.Proofs.YteibjmlimcpaoaaDoor

set_option linter.unusedVariables false
namespace Go.Proofs.YteibjmlimcpaoaaDoor
open Go.RowKit Go.Sort

/-- a slice of n elements whose cells are xs, wherever it lies -/
def RowIs (w : World) (v : Value) (n : Nat) (xs : List Value) : Prop :=
  ∃ ao cap, v = .slice ao n cap ∧ (0 < n → ∃ g o, ao = some ⟨g, o, none⟩ ∧ ∀ (j : Nat) (u : Value), xs[j]? = some u → w.cell? ⟨g, o + j, none⟩ = some u)

theorem cell_lt {w : World} {g o : Nat} {u : Value} (h : w.cell? ⟨g, o, none⟩ = some u) : g < w.heap.size := by
  rcases Nat.lt_or_ge g w.heap.size with h' | h'
  · exact h'
  · simp [World.cell?, Array.getElem?_eq_none h'] at h
theorem RowIs.on {w w' : World} {v : Value} {n : Nat} {xs : List Value} (h : RowIs w v n xs) (hb : Below w.heap.size w w') : RowIs w' v n xs := by
  obtain ⟨ao, cap, rfl, hc⟩ := h
  refine ⟨ao, cap, rfl, fun hn => ?_⟩
  obtain ⟨g, o, rfl, hcell⟩ := hc hn
  refine ⟨g, o, rfl, fun j u hj => ?_⟩
  have := hcell j u hj
  rw [hb.cell (p := ⟨g, o + j, none⟩) (cell_lt this)]
  exact this

def tcells : List Tab → List Value
  | [] => []
  | t :: r => .string t.tag :: .int .i64 t.st :: .int .i64 t.sz :: tcells r
theorem tcells_at : ∀ (l : List Tab) (k : Nat) (t : Tab), l[k]? = some t → (tcells l)[k * 3]? = some (.string t.tag) ∧ (tcells l)[k * 3 + 1]? = some (.int .i64 t.st) ∧ (tcells l)[k * 3 + 2]? = some (.int .i64 t.sz)
  | [], k, t, h => by simp at h
  | x :: l, 0, t, h => by
    simp at h
    subst h
    exact ⟨rfl, rfl, rfl⟩
  | x :: l, k + 1, t, h => by
    have := tcells_at l k t (by simpa using h)
    rw [show (k + 1) * 3 = k * 3 + 3 by omega]
    exact this

def tabOk (t : Tab) : Bool := decide (t.tag.size = 4) && toB 4 t.st && toB 2000 t.sz
/-- tables in bytes, behind those that stand already -/
def tabsGo : List Tab → List UInt8 → List UInt8 × Bool
  | [], acc => (acc, true)
  | t :: r, acc => if tabOk t then tabsGo r (acc ++ t.tag.data.toList ++ oneL t.st.toNat ++ twoL t.sz.toNat) else ([], false)
def tabsR (l : List Tab) : List UInt8 × Bool := if 16 < l.length then ([], false) else tabsGo l (oneL l.length)

set_option maxRecDepth 100000 in
set_option maxHeartbeats 2000000 in
theorem tables15_big (v : Value) (l : List Tab) (w : World) (hl : l.length ≤ 9223372036854775807) (hb : 16 < l.length) (hv : RowIs w v l.length (tcells l)) :
    Calls Tryd.prog 35 #[v] w fun e w' => e = .returned (.tuple #[.string ⟨#[]⟩, .bool false]) ∧ Below w.heap.size w w' := by
  obtain ⟨ao, cap, rfl, _⟩ := hv
  have hb' : (16 : Int) < (l.length : Int) := by omega
  go_enter Tryd.func35, Tryd.ntmps35
  go_wp2
  go_ret2
  exact ⟨rfl, Below.refl _ _⟩

set_option maxRecDepth 100000 in
set_option maxHeartbeats 2000000 in
theorem tables15_small (v : Value) (l : List Tab) (w : World) (r : List UInt8 × Bool) (hl : l.length ≤ 16) (hv : RowIs w v l.length (tcells l)) (hr : tabsGo l (oneL l.length) = r) :
    Calls Tryd.prog 35 #[v] w fun e w' => e = .returned (.tuple #[.string ⟨r.1.toArray⟩, .bool r.2]) ∧ Below w.heap.size w w' := by
  have hl' : ¬ (16 : Int) < (l.length : Int) := by omega
  have O := Lib.hid (one18 l.length w (by omega))
  have HR := Lib.hid hr
  have HV := Lib.hid hv
  have lo : (oneL l.length).length = 1 := rfl
  generalize oneL l.length = o1 at *
  clear hr
  obtain ⟨ao, cap, rfl, hcell⟩ := hv
  clear hcell
  go_enter Tryd.func35, Tryd.ntmps35
  go_wp2_with (go_at_call 38; refine O.out.mono ?_; rintro e w1 ⟨rfl, hb1⟩)
  go_loopw [4, 5] (fun ss is wr => ∃ (k : Nat) (acc : List UInt8), ss = .string ⟨acc.toArray⟩ ∧ is = .int .i64 k ∧ k ≤ l.length ∧ Below w.heap.size w wr ∧ acc.length = 1 + 7 * k ∧ Hid (tabsGo (l.drop k) acc = r)) (fun _ is _ => l.length - (intOf is).toNat)
  case atStart => exact ⟨0, o1, rfl, rfl, Nat.zero_le _, hb1, by omega, HR⟩
  case round =>
    obtain ⟨k, acc, rfl, rfl, hk, hbw, hal, H⟩ := hrel
    by_cases hlt : k < l.length
    · obtain ⟨_, _, hao, hcell⟩ := HV.out.on hbw
      cases hao
      obtain ⟨g, o, rfl, hcl⟩ := hcell (by omega)
      obtain ⟨⟨tag, st, sz⟩, hx⟩ : ∃ x, l[k]? = some x := ⟨_, List.getElem?_eq_getElem hlt⟩
      obtain ⟨t0, t1, t2⟩ := tcells_at l k _ hx
      have c0 := hcl _ _ t0
      have c1 := hcl _ _ t1
      have c2 := hcl _ _ t2
      simp only at c0 c1 c2
      rw [← Nat.add_assoc] at c1 c2
      have hdr : l.drop k = ⟨tag, st, sz⟩ :: l.drop (k + 1) := by
        rw [List.drop_eq_getElem_cons hlt]
        congr 1
        exact Option.some.inj ((List.getElem?_eq_getElem hlt).symm.trans hx)
      have h1 := H.out
      rw [hdr, tabsGo] at h1
      clear hcell hcl t0 t1 t2 hdr H hx
      have T4 := Lib.hid (fun w => to17 4 st w)
      have T2 := Lib.hid (fun w => to17 2000 sz w)
      by_cases q1 : tag.size = 4
      · cases q2 : toB 4 st
        · rw [q2] at T4
          have hok : tabOk ⟨tag, st, sz⟩ = false := by simp [tabOk, q2]
          rw [hok] at h1
          have H1 := Lib.hid h1
          clear h1 hok q2
          go_wp2_with (first | (go_at_call 37; refine (T4.out _).mono ?_; rintro e w4 ⟨rfl, rfl⟩; refine Hid.out ?_))
          refine Lib.hid ?_
          cases q3 : toB 2000 sz
          all_goals
            rw [q3] at T2
            clear q3
            go_wp2_with (first | (go_at_call 37; refine (T2.out _).mono ?_; rintro e w5 ⟨rfl, rfl⟩))
            go_ret2
            refine ⟨?_, hbw⟩
            rw [← H1.out]
            rfl
        · cases q3 : toB 2000 sz
          · rw [q2] at T4
            rw [q3] at T2
            have hok : tabOk ⟨tag, st, sz⟩ = false := by simp [tabOk, q3]
            rw [hok] at h1
            have H1 := Lib.hid h1
            clear h1 hok q2 q3
            go_wp2_with (first | (go_at_call 37; refine (T4.out _).mono ?_; rintro e w4 ⟨rfl, rfl⟩; refine Hid.out ?_))
            refine Lib.hid ?_
            go_wp2_with (first | (go_at_call 37; refine (T2.out _).mono ?_; rintro e w5 ⟨rfl, rfl⟩))
            go_ret2
            refine ⟨?_, hbw⟩
            rw [← H1.out]
            rfl
          · rw [q2] at T4
            rw [q3] at T2
            have hok : tabOk ⟨tag, st, sz⟩ = true := by simp [tabOk, q1, q2, q3]
            rw [if_pos hok] at h1
            have H1 := Lib.hid h1
            simp only [toB, decide_eq_true_eq] at q2 q3
            obtain ⟨s0, s1⟩ := q2
            obtain ⟨z0, z1⟩ := q3
            clear h1 hok
            go_wp2_with (first | (go_at_call 37; refine (T4.out _).mono ?_; rintro e w4 ⟨rfl, rfl⟩; refine Hid.out ?_))
            refine Lib.hid ?_
            go_wp2_with (first | (go_at_call 37; refine (T2.out _).mono ?_; rintro e w5 ⟨rfl, rfl⟩; refine Hid.out ?_))
            refine Lib.hid ?_
            obtain ⟨sn, rfl⟩ := Int.eq_ofNat_of_zero_le s0
            obtain ⟨zn, rfl⟩ := Int.eq_ofNat_of_zero_le z0
            have k0 := cell_regrown c0
            have k1 := cell_regrown c1
            have k2 := cell_regrown c2
            have cO : ∀ d os, Calls Tryd.prog 38 #[.int .i64 (sn : Int)] (grow (redrawn w5 d) os) fun e w'' => e = .returned (.string ⟨(oneL sn).toArray⟩) ∧ ∃ p : Regrown, w'' = grow (redrawn w5 p.d) p.os := fun d os => Calls.regrown_of (one18 sn _ (by omega))
            have cT : ∀ d os, Calls Tryd.prog 39 #[.int .i64 (zn : Int)] (grow (redrawn w5 d) os) fun e w'' => e = .returned (.string ⟨(twoL zn).toArray⟩) ∧ ∃ p : Regrown, w'' = grow (redrawn w5 p.d) p.os := fun d os => Calls.regrown_of (two19 zn _ (by omega))
            have CO := Lib.hid cO
            have CT := Lib.hid cT
            clear cO cT
            obtain ⟨X1, hX1⟩ : ∃ X : ByteArray, ByteArray.mk (oneL sn).toArray = X := ⟨_, rfl⟩
            obtain ⟨X2, hX2⟩ : ∃ X : ByteArray, ByteArray.mk (twoL zn).toArray = X := ⟨_, rfl⟩
            obtain ⟨A, hA⟩ : ∃ X : ByteArray, ByteArray.mk acc.toArray = X := ⟨_, rfl⟩
            have sX1 : X1.size = 1 := by rw [← hX1]; rfl
            have sX2 : X2.size = 2 := by rw [← hX2]; rfl
            have sA : A.size = 1 + 7 * k := by rw [← hA, ← hal]; show acc.toArray.size = _; simp
            rw [hX1] at CO
            rw [hX2] at CT
            rw [hA]
            have ik0 : (0 : Int) ≤ (k : Int) := by omega
            have ik1 : (k : Int) < (l.length : Int) := by omega
            have n1 : ¬ 9223372036854775807 < A.size + tag.size := by omega
            have n2 : ¬ 9223372036854775807 < A.size + tag.size + X1.size := by omega
            have n3 : ¬ 9223372036854775807 < A.size + tag.size + X1.size + X2.size := by omega
            have HE := Lib.hid (And.intro hX1 (And.intro hX2 (And.intro hA (And.intro q1 hal))))
            clear hX1 hX2 hA sX1 sX2 sA hal
            go_wp2
            clear q1
            refine wp_region_quiet_below (by kernel_rfl) (by kernel_rfl) ?_
            repeat (quiet_step (first | exact CO.out _ _ | exact CT.out _ _))
            refine wpQuiet_nil ?_
            intro _ hw'
            obtain ⟨⟨dq, osq⟩, hw''⟩ := hw'
            subst hw''
            have hbg := hbw.trans ((below_regrown w5 dq osq).mono hbw.size)
            go_wp2
            obtain ⟨hX1, hX2, hA, q1, hal⟩ := HE.out
            refine ⟨⟨k + 1, acc ++ tag.data.toList ++ oneL sn ++ twoL zn, ?_, by go_num, by omega, hbg, ?_, H1⟩, by simp [intOf]; omega⟩
            · rw [← hX1, ← hX2, ← hA]
              exact congrArg Value.string (ByteArray.ext (by simp))
            · simp only [List.length_append]
              have e1 : (oneL sn).length = 1 := rfl
              have e2 : (twoL zn).length = 2 := rfl
              have e3 : tag.data.toList.length = tag.size := by simp
              omega
      · have hok : tabOk ⟨tag, st, sz⟩ = false := by simp [tabOk, q1]
        rw [hok] at h1
        have H1 := Lib.hid h1
        have q1' : ((tag.size : Int) == 4) = false := by simp only [beq_eq_false_iff_ne]; omega
        have q1'' : ((tag.size : Int) != 4) = true := by simp only [bne_iff_ne]; omega
        clear h1 hok
        generalize toB 4 st = b1 at *
        generalize toB 2000 sz = b2 at *
        go_wp2_with (first | (go_at_call 37; refine (T4.out _).mono ?_; rintro e w4 ⟨rfl, rfl⟩; refine Hid.out ?_))
        refine Lib.hid ?_
        go_wp2_with (first | (go_at_call 37; refine (T2.out _).mono ?_; rintro e w5 ⟨rfl, rfl⟩))
        go_ret2
        refine ⟨?_, hbw⟩
        rw [← H1.out]
        rfl
    · have h2 := H.out
      rw [List.drop_eq_nil_of_le (by omega)] at h2
      have H2 := Lib.hid h2
      clear h2 H
      have hge : ¬ ((k : Int) < (l.length : Int)) := by omega
      go_wp2
      go_ret2
      refine ⟨?_, hbw⟩
      rw [← H2.out]
      rfl
end Go.Proofs.YteibjmlimcpaoaaDoor

set_option linter.unusedVariables false
namespace Go.Proofs.YteibjmlimcpaoaaDoor
open Go.RowKit

set_option maxHeartbeats 400000 in
theorem harm27 (c : Int) (w : World) :
    Calls Tryd.prog 32 #[.int .i64 c] w fun e w' => e = .returned (.bool (harmB c)) ∧ w' = w := by
  go_enter Tryd.func32, Tryd.ntmps32
  go_wp2
  all_goals go_ret
  all_goals refine ⟨ret_bool ?_, rfl⟩
  all_goals rw [Bool.eq_iff_iff]
  all_goals simp only [harmB, Bool.or_eq_true, beq_iff_eq, decide_eq_true_eq, true_iff]
  all_goals omega

set_option maxRecDepth 100000 in
set_option maxHeartbeats 1000000 in
theorem utf28_1 (n : Nat) (w : World) (h : n < 128) :
    Calls Tryd.prog 55 #[.int .i64 n] w fun e w' => e = .returned (.string ⟨(utf8L n).toArray⟩) ∧ Below w.heap.size w w' := by
  have hf : utf8L n = [UInt8.ofNat n] := by unfold utf8L; rw [if_pos h]
  obtain ⟨l, hl⟩ : ∃ l, utf8L n = l := ⟨_, rfl⟩
  rw [hl]
  rw [hl] at hf
  have hc := run_conv w l #[.int .u8 (n : Int)] (by rw [hf]; simp [Lib.byteCells]; omega) 1 (by rw [hf]; rfl)
  clear hf hl
  go_enter Tryd.func55, Tryd.ntmps55
  go_wp2
  go_ret
  exact ⟨rfl, (Below.refl _ _).alloc (Nat.le_refl _) _⟩

set_option maxRecDepth 100000 in
set_option maxHeartbeats 1000000 in
theorem utf28_2 (n : Nat) (w : World) (h : 128 ≤ n) (h1 : n < 2048) :
    Calls Tryd.prog 55 #[.int .i64 n] w fun e w' => e = .returned (.string ⟨(utf8L n).toArray⟩) ∧ Below w.heap.size w w' := by
  have hf : utf8L n = [UInt8.ofNat (192 + n / 64), UInt8.ofNat (128 + n % 64)] := by unfold utf8L; rw [if_neg (by omega), if_pos h1]
  obtain ⟨l, hl⟩ : ∃ l, utf8L n = l := ⟨_, rfl⟩
  rw [hl]
  rw [hl] at hf
  have hc := run_conv w l #[.int .u8 (192 + (n : Int) / 64), .int .u8 (128 + (n : Int) % 64)] (by rw [hf]; simp [Lib.byteCells]; omega) 2 (by rw [hf]; rfl)
  clear hf hl
  go_enter Tryd.func55, Tryd.ntmps55
  go_wp2
  go_ret
  exact ⟨rfl, (Below.refl _ _).alloc (Nat.le_refl _) _⟩

set_option maxRecDepth 100000 in
set_option maxHeartbeats 1000000 in
theorem utf28_3 (n : Nat) (w : World) (h : 2048 ≤ n) (h1 : n < 65536) :
    Calls Tryd.prog 55 #[.int .i64 n] w fun e w' => e = .returned (.string ⟨(utf8L n).toArray⟩) ∧ Below w.heap.size w w' := by
  have hf : utf8L n = [UInt8.ofNat (224 + n / 4096), UInt8.ofNat (128 + n / 64 % 64), UInt8.ofNat (128 + n % 64)] := by unfold utf8L; rw [if_neg (by omega), if_neg (by omega), if_pos h1]
  obtain ⟨l, hl⟩ : ∃ l, utf8L n = l := ⟨_, rfl⟩
  rw [hl]
  rw [hl] at hf
  have hc := run_conv w l #[.int .u8 (224 + (n : Int) / 4096), .int .u8 (128 + (n : Int) / 64 % 64), .int .u8 (128 + (n : Int) % 64)] (by rw [hf]; simp [Lib.byteCells]; omega) 3 (by rw [hf]; rfl)
  clear hf hl
  obtain ⟨x, hx⟩ : ∃ x : Int, (n : Int) = x := ⟨_, rfl⟩
  rw [hx] at hc
  rw [hx]
  have g0 : 0 ≤ x := by omega
  have g1 : 128 ≤ x := by omega
  have g2 : 2048 ≤ x := by omega
  have g3 : 2048 ≤ x := by omega
  have g4 : x < 65536 := by omega
  clear hx h h1
  go_enter Tryd.func55, Tryd.ntmps55
  go_wp2
  go_ret
  exact ⟨rfl, (Below.refl _ _).alloc (Nat.le_refl _) _⟩

set_option maxRecDepth 100000 in
set_option maxHeartbeats 1000000 in
theorem utf28_4 (n : Nat) (w : World) (h : 65536 ≤ n) (h1 : n ≤ 1114111) :
    Calls Tryd.prog 55 #[.int .i64 n] w fun e w' => e = .returned (.string ⟨(utf8L n).toArray⟩) ∧ Below w.heap.size w w' := by
  have hf : utf8L n = [UInt8.ofNat (240 + n / 262144), UInt8.ofNat (128 + n / 4096 % 64), UInt8.ofNat (128 + n / 64 % 64), UInt8.ofNat (128 + n % 64)] := by unfold utf8L; rw [if_neg (by omega), if_neg (by omega), if_neg (by omega)]
  obtain ⟨l, hl⟩ : ∃ l, utf8L n = l := ⟨_, rfl⟩
  rw [hl]
  rw [hl] at hf
  have hc := run_conv w l #[.int .u8 (240 + (n : Int) / 262144), .int .u8 (128 + (n : Int) / 4096 % 64), .int .u8 (128 + (n : Int) / 64 % 64), .int .u8 (128 + (n : Int) % 64)] (by rw [hf]; simp [Lib.byteCells]; omega) 4 (by rw [hf]; rfl)
  clear hf hl
  obtain ⟨x, hx⟩ : ∃ x : Int, (n : Int) = x := ⟨_, rfl⟩
  rw [hx] at hc
  rw [hx]
  have g0 : 0 ≤ x := by omega
  have g1 : 128 ≤ x := by omega
  have g2 : 2048 ≤ x := by omega
  have g3 : 65536 ≤ x := by omega
  have g4 : x ≤ 1114111 := by omega
  clear hx h h1
  go_enter Tryd.func55, Tryd.ntmps55
  go_wp2
  go_ret
  exact ⟨rfl, (Below.refl _ _).alloc (Nat.le_refl _) _⟩

theorem utf28 (n : Nat) (w : World) (h : n ≤ 1114111) :
    Calls Tryd.prog 55 #[.int .i64 n] w fun e w' => e = .returned (.string ⟨(utf8L n).toArray⟩) ∧ Below w.heap.size w w' := by
  by_cases c1 : n < 128
  · exact utf28_1 n w c1
  by_cases c2 : n < 2048
  · exact utf28_2 n w (by omega) c2
  by_cases c3 : n < 65536
  · exact utf28_3 n w (by omega) c3
  exact utf28_4 n w (by omega) h

end Go.Proofs.YteibjmlimcpaoaaDoor

set_option linter.unusedVariables false
namespace Go.Proofs.YteibjmlimcpaoaaDoor
open Go.RowKit Go.Sort

/-- how many bytes a character has whose first byte is b -/
def widthOf (b : Nat) : Nat := if 240 ≤ b then 4 else if 224 ≤ b then 3 else if 192 ≤ b then 2 else 1
/-- what the first j of its n bytes tell -/
def decT (n : Nat) (l : List UInt8) : Nat → Nat
  | 0 => 0
  | 1 => if n = 1 then (l.getD 0 0).toNat else (l.getD 0 0).toNat % 2 ^ (7 - n)
  | j + 2 => 64 * decT n l (j + 1) + (l.getD (j + 1) 0).toNat % 64
def properGo : Nat → List UInt8 → Bool
  | 0, _ => true
  | _ + 1, [] => true
  | f + 1, a :: l =>
    if (a :: l).length < widthOf a.toNat then false
    else if harmB (decT (widthOf a.toNat) (a :: l) (widthOf a.toNat)) then false
    else if 1114111 < decT (widthOf a.toNat) (a :: l) (widthOf a.toNat) then false
    else if 55296 ≤ decT (widthOf a.toNat) (a :: l) (widthOf a.toNat) ∧ decT (widthOf a.toNat) (a :: l) (widthOf a.toNat) ≤ 57343 then false
    else if utf8L (decT (widthOf a.toNat) (a :: l) (widthOf a.toNat)) ≠ (a :: l).take (widthOf a.toNat) then false
    else properGo f ((a :: l).drop (widthOf a.toNat))
def properB (l : List UInt8) : Bool := if 60 < l.length then false else properGo l.length l

theorem getD_byte (s : ByteArray) (i : Nat) (h : i < s.size) : s.data.toList.getD i 0 = s[i] := by
  have h' : i < s.data.toList.length := by simpa using h
  rw [List.getD_eq_getElem?_getD, List.getElem?_eq_getElem h', Option.getD_some]
  rfl
theorem decT_one (n : Nat) (l : List UInt8) : decT n l 1 = if n = 1 then (l.getD 0 0).toNat else (l.getD 0 0).toNat % 2 ^ (7 - n) := rfl
theorem decT_step (n : Nat) (l : List UInt8) (j : Nat) (h : 1 ≤ j) : decT n l (j + 1) = 64 * decT n l j + (l.getD j 0).toNat % 64 := by
  cases j with
  | zero => omega
  | succ j => rfl
theorem decT_le (n : Nat) (l : List UInt8) (h1 : decT n l 1 < 256) : ∀ j, 1 ≤ j → j ≤ 4 → decT n l j < 67108864 := by
  intro j a b
  have s1 : decT n l 2 = 64 * decT n l 1 + (l.getD 1 0).toNat % 64 := decT_step n l 1 (by omega)
  have s2 : decT n l 3 = 64 * decT n l 2 + (l.getD 2 0).toNat % 64 := decT_step n l 2 (by omega)
  have s3 : decT n l 4 = 64 * decT n l 3 + (l.getD 3 0).toNat % 64 := decT_step n l 3 (by omega)
  have hj : j = 1 ∨ j = 2 ∨ j = 3 ∨ j = 4 := by omega
  rcases hj with rfl | rfl | rfl | rfl <;> omega

theorem properGo_step (f : Nat) (l : List UInt8) (h : 0 < l.length) (hf : l.length ≤ f) (n z : Nat) (hn : widthOf (l.getD 0 0).toNat = n) (hz : decT n l n = z) :
    properGo f l = if l.length < n then false else if harmB z then false else if 1114111 < z then false else if 55296 ≤ z ∧ z ≤ 57343 then false else if utf8L z ≠ l.take n then false else properGo (f - 1) (l.drop n) := by
  cases f with
  | zero => omega
  | succ f =>
    cases l with
    | nil => simp at h
    | cons a l =>
      have e : (a :: l).getD 0 0 = a := rfl
      rw [e] at hn
      subst hn hz
      rfl
theorem index_at (s : ByteArray) (i : Int) (j : Nat) (h : i = j) (hj : j < s.size) (W : World) : (Instr.index 9 (.string s) (.int .i64 i)).run Tryd.prog W = .ok (.int .u8 (s[j].toNat : Int)) W := by
  subst h
  rw [run_index_string W 9 s .i64 _ Tryd.underlying9, dif_pos ⟨by omega, by omega⟩]
  rfl
theorem val_int {k : IntKind} {a b : Int} (h : a = b) : Value.int k a = Value.int k b := by rw [h]
def strSize : Value → Nat
  | .string t => t.size
  | _ => 0
theorem extract_toList (s : ByteArray) (k : Nat) : (s.extract k s.size).data.toList = s.data.toList.drop k := by
  have h : s.size = s.data.toList.length := by simp
  simp only [ByteArray.data_extract, Array.toList_extract, List.extract_eq_take_drop]
  rw [h, List.take_of_length_le (by simp)]
theorem extract_front (s : ByteArray) (k : Nat) : (s.extract 0 k).data.toList = s.data.toList.take k := by
  simp [ByteArray.data_extract]
theorem size_extract (s : ByteArray) (k : Nat) : (s.extract k s.size).size = s.size - k := by
  simp [ByteArray.size_extract]

set_option maxRecDepth 100000 in
set_option maxHeartbeats 1000000 in
theorem proper26_big (s : ByteArray) (w : World) (hs : 60 < s.size) (hm : s.size ≤ 9223372036854775807) :
    Calls Tryd.prog 58 #[.string s] w fun e w' => e = .returned (.bool false) ∧ Below w.heap.size w w' := by
  have hs' : (60 : Int) < (s.size : Int) := by omega
  go_enter Tryd.func58, Tryd.ntmps58
  go_wp2
  go_ret
  exact ⟨rfl, Below.refl _ _⟩

set_option maxRecDepth 100000 in
set_option maxHeartbeats 4000000 in
theorem proper26_small (s : ByteArray) (w : World) (r : Bool) (hs : s.size ≤ 60) (hr : properGo s.size s.data.toList = r) :
    Calls Tryd.prog 58 #[.string s] w fun e w' => e = .returned (.bool r) ∧ Below w.heap.size w w' := by
  have hs' : ¬ (60 : Int) < (s.size : Int) := by omega
  have HR := Lib.hid hr
  clear hr
  go_enter Tryd.func58, Tryd.ntmps58
  go_wp2
  go_loopw [0] (fun ss wr => ∃ (t : ByteArray) (f : Nat), ss = .string t ∧ t.size ≤ 60 ∧ t.size ≤ f ∧ Below w.heap.size w wr ∧ Hid (properGo f t.data.toList = r)) (fun ss _ => strSize ss)
  case atStart => exact ⟨s, s.size, rfl, hs, Nat.le_refl _, Below.refl _ _, HR⟩
  case round =>
    obtain ⟨t, f, rfl, hts, htf, hbw, H⟩ := hrel
    by_cases h0 : 0 < t.size
    · have hne : t.toList.isEmpty = false := by
        rw [ByteArray.toList_eq]
        cases ht : t.data.toList with
        | nil =>
          have h : t.data.toList.length = 0 := by rw [ht]; rfl
          have h2 : t.data.toList.length = t.size := by simp
          omega
        | cons => rfl
      have htl : t.data.toList.length = t.size := by simp
      have G27 := Lib.hid (fun (c : Int) w => harm27 c w)
      by_cases c4 : 240 ≤ t[0].toNat
      · obtain ⟨x0, hx0⟩ : ∃ x0 : Int, ((t[0].toNat : Nat) : Int) = x0 := ⟨_, rfl⟩
        have i0 := fun W => (index_at t 0 0 rfl h0 W).trans (by rw [hx0])
        have b0 : t[0].toNat < 256 := t[0].toNat_lt
        have q0 : 240 ≤ x0 := by omega
        have q1 : x0 < 256 := by omega
        have h0' : (0 : Int) < (t.size : Int) := by omega
        have hw : widthOf (t.data.toList.getD 0 0).toNat = 4 := by
          rw [getD_byte t 0 h0]
          unfold widthOf
          simp only [c4, if_true]
        have hst := properGo_step f t.data.toList (by omega) (by omega) 4 _ hw rfl
        have hd1 : decT 4 t.data.toList 1 = t[0].toNat % 8 := by
          rw [decT_one, if_neg (by decide), getD_byte t 0 h0]
        have HX := Lib.hid hx0
        have HD := Lib.hid hd1
        have hdl := decT_le 4 t.data.toList (by omega)
        have HDL := Lib.hid hdl
        have h1 := H.out
        rw [hst] at h1
        have H1 := Lib.hid h1
        clear hx0 hd1 hw hst hdl h1 H b0
        by_cases hsz : t.size < 4
        · have h2 := H1.out
          rw [if_pos (by omega)] at h2
          have H2 := Lib.hid h2
          have hsz' : (t.size : Int) < 4 := by omega
          clear h2
          go_wp2
          go_ret
          exact ⟨ret_bool H2.out, hbw⟩
        · have hsz' : (4 : Int) ≤ (t.size : Int) := by omega
          go_wp2_with fail
          go_loop [4, 5] (fun cs js => ∃ j : Nat, 1 ≤ j ∧ j ≤ 4 ∧ js = .int .i64 j ∧ cs = .int .i64 (decT 4 t.data.toList j)) (fun _ js => 4 - (intOf js).toNat)
          case atStart => exact ⟨1, by omega, by omega, rfl, val_int (by have := HX.out; have := HD.out; omega)⟩
          case round =>
            obtain ⟨j, hj1, hj2, rfl, rfl⟩ := hrel
            by_cases hj : j < 4
            · obtain ⟨y, hy⟩ : ∃ y : Int, ((t[j].toNat : Nat) : Int) = y := ⟨_, rfl⟩
              have ij := fun W => (index_at t (j : Int) j rfl (by omega) W).trans (by rw [hy])
              have y0 : 0 ≤ y := by omega
              have y1 : y < 256 := by have := t[j].toNat_lt; omega
              have ds := decT_step 4 t.data.toList j hj1
              rw [getD_byte t j (by omega)] at ds
              obtain ⟨pj, hpj⟩ : ∃ pj : Int, ((decT 4 t.data.toList j : Nat) : Int) = pj := ⟨_, rfl⟩
              have pj0 : 0 ≤ pj := by omega
              have pj1 : pj < 67108864 := by have := HDL.out j hj1 (by omega); omega
              have HF : Hid ((decT 4 t.data.toList (j + 1) : Int) = 64 * pj + y % 64) := by show _ = _; omega
              rw [hpj]
              clear hy ds hpj i0
              have hji : (j : Int) < 4 := by omega
              go_wp2
              exact ⟨⟨j + 1, by omega, by omega, by go_num, val_int (by have := HF.out; omega)⟩, by simp [intOf]; omega⟩
            · obtain rfl : j = 4 := by omega
              obtain ⟨z, hz⟩ : ∃ z : Nat, decT 4 t.data.toList 4 = z := ⟨_, rfl⟩
              rw [hz]
              have zb : z < 67108864 := by have := HDL.out 4 (by omega) (by omega); omega
              have h2 := H1.out
              rw [hz, if_neg (by omega)] at h2
              clear i0 hz
              have G := Lib.hid (fun w => G27.out z w)
              cases hh : harmB z
              · rw [hh] at G h2
                simp only [Bool.false_eq_true, if_false] at h2
                obtain ⟨zi, hzi⟩ : ∃ zi : Int, (z : Int) = zi := ⟨_, rfl⟩
                rw [hzi] at G
                rw [hzi]
                have HZ := Lib.hid hzi
                have zi0 : 0 ≤ zi := by omega
                by_cases d1 : 1114111 < z
                · rw [if_pos d1] at h2
                  have d1' : 1114111 < zi := by omega
                  have H2 := Lib.hid h2
                  clear h2 d1 hzi hh
                  go_wp2_with (go_at_call 32; refine (G.out _).mono ?_; rintro e w4 ⟨rfl, rfl⟩)
                  refine wp_region_quiet_below (by kernel_rfl) (by kernel_rfl) ?_
                  repeat (first | go_big_quiet_step (fail) | quiet_step (fail))
                  refine wpQuiet_nil ?_
                  intro _ hw'
                  obtain ⟨⟨dq, osq⟩, hw''⟩ := hw'
                  subst hw''
                  have hbg := hbw.trans ((below_regrown w4 dq osq).mono hbw.size)
                  go_wp2
                  go_ret
                  exact ⟨ret_bool H2.out, hbg⟩
                · rw [if_neg d1] at h2
                  have d1' : zi ≤ 1114111 := by omega
                  by_cases d2 : 55296 ≤ z ∧ z ≤ 57343
                  · rw [if_pos d2] at h2
                    have d2' : 55296 ≤ zi := by omega
                    have d3' : zi ≤ 57343 := by omega
                    have H2 := Lib.hid h2
                    clear h2 d1 d2 hzi hh
                    go_wp2_with (go_at_call 32; refine (G.out _).mono ?_; rintro e w4 ⟨rfl, rfl⟩)
                    refine wp_region_quiet_below (by kernel_rfl) (by kernel_rfl) ?_
                    repeat (first | go_big_quiet_step (fail) | quiet_step (fail))
                    refine wpQuiet_nil ?_
                    intro _ hw'
                    obtain ⟨⟨dq, osq⟩, hw''⟩ := hw'
                    subst hw''
                    have hbg := hbw.trans ((below_regrown w4 dq osq).mono hbw.size)
                    go_wp2
                    go_ret
                    exact ⟨ret_bool H2.out, hbg⟩
                  · rw [if_neg d2] at h2
                    have U0 := fun w => utf28 z w (by omega)
                    rw [hzi] at U0
                    obtain ⟨X, hX⟩ : ∃ X : ByteArray, ByteArray.mk (utf8L z).toArray = X := ⟨_, rfl⟩
                    have hXY : utf8L z = t.data.toList.take 4 ↔ (X.toList == (t.extract 0 4).toList) = true := by
                      rw [← hX, ByteArray.toList_eq, ByteArray.toList_eq, extract_front, beq_iff_eq]
                    rw [hX] at U0
                    have HXY := Lib.hid hXY
                    have d1n : ¬ 1114111 < zi := by omega
                    have d2s : decide (55296 ≤ zi) = false ∨ (55296 ≤ zi ∧ decide (zi ≤ 57343) = false) := by simp only [decide_eq_false_iff_not]; omega
                    clear hX hXY
                    by_cases d4 : (X.toList == (t.extract 0 4).toList) = true
                    · have h5 := HXY.out.2 d4
                      rw [if_neg (by simpa using h5)] at h2
                      have H2 := Lib.hid h2
                      clear h2 h5 d1 d2 hzi hh HXY
                      rcases d2s with d2' | ⟨d2', d3'⟩
                      all_goals
                        go_wp2_with (go_at_call 32; refine (G.out _).mono ?_; rintro e w4 ⟨rfl, rfl⟩)
                        have CU : Hid (∀ d os, Calls Tryd.prog 55 #[.int .i64 zi] (grow (redrawn w4 d) os) fun e w'' => e = .returned (.string X) ∧ ∃ p : Regrown, w'' = grow (redrawn w4 p.d) p.os) := fun d os => Calls.regrown_of (U0 _)
                        refine wp_region_quiet_below (by kernel_rfl) (by kernel_rfl) ?_
                        repeat (first | go_big_quiet_step (exact CU.out _ _) | quiet_step (exact CU.out _ _))
                        refine wpQuiet_nil ?_
                        intro _ hw'
                        obtain ⟨⟨dq, osq⟩, hw''⟩ := hw'
                        subst hw''
                        have hbg := hbw.trans ((below_regrown w4 dq osq).mono hbw.size)
                        go_wp2
                        go_roundw
                        case rel =>
                          refine ⟨t.extract 4 t.size, f - 1, rfl, ?_, ?_, hbg, ?_⟩
                          · rw [size_extract]; omega
                          · rw [size_extract]; omega
                          · rw [extract_toList]; exact H2
                        case measure =>
                          show (t.extract 4 t.size).size < t.size
                          rw [size_extract]
                          omega
                    · have h5 : utf8L z ≠ t.data.toList.take 4 := fun h => d4 (HXY.out.1 h)
                      have d4f : (X.toList == (t.extract 0 4).toList) = false := by simpa using d4
                      rw [if_pos h5] at h2
                      have H2 := Lib.hid h2
                      clear h2 h5 d1 d2 hzi hh HXY d4
                      rcases d2s with d2' | ⟨d2', d3'⟩
                      all_goals
                        go_wp2_with (go_at_call 32; refine (G.out _).mono ?_; rintro e w4 ⟨rfl, rfl⟩)
                        have CU : Hid (∀ d os, Calls Tryd.prog 55 #[.int .i64 zi] (grow (redrawn w4 d) os) fun e w'' => e = .returned (.string X) ∧ ∃ p : Regrown, w'' = grow (redrawn w4 p.d) p.os) := fun d os => Calls.regrown_of (U0 _)
                        refine wp_region_quiet_below (by kernel_rfl) (by kernel_rfl) ?_
                        repeat (first | go_big_quiet_step (exact CU.out _ _) | quiet_step (exact CU.out _ _))
                        refine wpQuiet_nil ?_
                        intro _ hw'
                        obtain ⟨⟨dq, osq⟩, hw''⟩ := hw'
                        subst hw''
                        have hbg := hbw.trans ((below_regrown w4 dq osq).mono hbw.size)
                        go_wp2
                        go_ret
                        exact ⟨ret_bool H2.out, hbg⟩
              · rw [hh] at G h2
                simp only [if_true] at h2
                have H2 := Lib.hid h2
                clear h2 hh
                go_wp2_with (go_at_call 32; refine (G.out _).mono ?_; rintro e w4 ⟨rfl, rfl⟩)
                refine wp_region_quiet_below (by kernel_rfl) (by kernel_rfl) ?_
                repeat (first | go_big_quiet_step (fail) | quiet_step (fail))
                refine wpQuiet_nil ?_
                intro _ hw'
                obtain ⟨⟨dq, osq⟩, hw''⟩ := hw'
                subst hw''
                have hbg := hbw.trans ((below_regrown w4 dq osq).mono hbw.size)
                go_wp2
                go_ret
                exact ⟨ret_bool H2.out, hbg⟩
      by_cases c3 : 224 ≤ t[0].toNat
      · obtain ⟨x0, hx0⟩ : ∃ x0 : Int, ((t[0].toNat : Nat) : Int) = x0 := ⟨_, rfl⟩
        have i0 := fun W => (index_at t 0 0 rfl h0 W).trans (by rw [hx0])
        have b0 : t[0].toNat < 256 := t[0].toNat_lt
        have q0 : 224 ≤ x0 := by omega
        have q1 : x0 < 240 := by omega
        have h0' : (0 : Int) < (t.size : Int) := by omega
        have hw : widthOf (t.data.toList.getD 0 0).toNat = 3 := by
          rw [getD_byte t 0 h0]
          unfold widthOf
          simp only [c4, c3, if_false, if_true]
        have hst := properGo_step f t.data.toList (by omega) (by omega) 3 _ hw rfl
        have hd1 : decT 3 t.data.toList 1 = t[0].toNat % 16 := by
          rw [decT_one, if_neg (by decide), getD_byte t 0 h0]
        have HX := Lib.hid hx0
        have HD := Lib.hid hd1
        have hdl := decT_le 3 t.data.toList (by omega)
        have HDL := Lib.hid hdl
        have h1 := H.out
        rw [hst] at h1
        have H1 := Lib.hid h1
        clear hx0 hd1 hw hst hdl h1 H b0
        by_cases hsz : t.size < 3
        · have h2 := H1.out
          rw [if_pos (by omega)] at h2
          have H2 := Lib.hid h2
          have hsz' : (t.size : Int) < 3 := by omega
          clear h2
          go_wp2
          go_ret
          exact ⟨ret_bool H2.out, hbw⟩
        · have hsz' : (3 : Int) ≤ (t.size : Int) := by omega
          go_wp2_with fail
          go_loop [4, 5] (fun cs js => ∃ j : Nat, 1 ≤ j ∧ j ≤ 3 ∧ js = .int .i64 j ∧ cs = .int .i64 (decT 3 t.data.toList j)) (fun _ js => 3 - (intOf js).toNat)
          case atStart => exact ⟨1, by omega, by omega, rfl, val_int (by have := HX.out; have := HD.out; omega)⟩
          case round =>
            obtain ⟨j, hj1, hj2, rfl, rfl⟩ := hrel
            by_cases hj : j < 3
            · obtain ⟨y, hy⟩ : ∃ y : Int, ((t[j].toNat : Nat) : Int) = y := ⟨_, rfl⟩
              have ij := fun W => (index_at t (j : Int) j rfl (by omega) W).trans (by rw [hy])
              have y0 : 0 ≤ y := by omega
              have y1 : y < 256 := by have := t[j].toNat_lt; omega
              have ds := decT_step 3 t.data.toList j hj1
              rw [getD_byte t j (by omega)] at ds
              obtain ⟨pj, hpj⟩ : ∃ pj : Int, ((decT 3 t.data.toList j : Nat) : Int) = pj := ⟨_, rfl⟩
              have pj0 : 0 ≤ pj := by omega
              have pj1 : pj < 67108864 := by have := HDL.out j hj1 (by omega); omega
              have HF : Hid ((decT 3 t.data.toList (j + 1) : Int) = 64 * pj + y % 64) := by show _ = _; omega
              rw [hpj]
              clear hy ds hpj i0
              have hji : (j : Int) < 3 := by omega
              go_wp2
              exact ⟨⟨j + 1, by omega, by omega, by go_num, val_int (by have := HF.out; omega)⟩, by simp [intOf]; omega⟩
            · obtain rfl : j = 3 := by omega
              obtain ⟨z, hz⟩ : ∃ z : Nat, decT 3 t.data.toList 3 = z := ⟨_, rfl⟩
              rw [hz]
              have zb : z < 67108864 := by have := HDL.out 3 (by omega) (by omega); omega
              have h2 := H1.out
              rw [hz, if_neg (by omega)] at h2
              clear i0 hz
              have G := Lib.hid (fun w => G27.out z w)
              cases hh : harmB z
              · rw [hh] at G h2
                simp only [Bool.false_eq_true, if_false] at h2
                obtain ⟨zi, hzi⟩ : ∃ zi : Int, (z : Int) = zi := ⟨_, rfl⟩
                rw [hzi] at G
                rw [hzi]
                have HZ := Lib.hid hzi
                have zi0 : 0 ≤ zi := by omega
                by_cases d1 : 1114111 < z
                · rw [if_pos d1] at h2
                  have d1' : 1114111 < zi := by omega
                  have H2 := Lib.hid h2
                  clear h2 d1 hzi hh
                  go_wp2_with (go_at_call 32; refine (G.out _).mono ?_; rintro e w4 ⟨rfl, rfl⟩)
                  refine wp_region_quiet_below (by kernel_rfl) (by kernel_rfl) ?_
                  repeat (first | go_big_quiet_step (fail) | quiet_step (fail))
                  refine wpQuiet_nil ?_
                  intro _ hw'
                  obtain ⟨⟨dq, osq⟩, hw''⟩ := hw'
                  subst hw''
                  have hbg := hbw.trans ((below_regrown w4 dq osq).mono hbw.size)
                  go_wp2
                  go_ret
                  exact ⟨ret_bool H2.out, hbg⟩
                · rw [if_neg d1] at h2
                  have d1' : zi ≤ 1114111 := by omega
                  by_cases d2 : 55296 ≤ z ∧ z ≤ 57343
                  · rw [if_pos d2] at h2
                    have d2' : 55296 ≤ zi := by omega
                    have d3' : zi ≤ 57343 := by omega
                    have H2 := Lib.hid h2
                    clear h2 d1 d2 hzi hh
                    go_wp2_with (go_at_call 32; refine (G.out _).mono ?_; rintro e w4 ⟨rfl, rfl⟩)
                    refine wp_region_quiet_below (by kernel_rfl) (by kernel_rfl) ?_
                    repeat (first | go_big_quiet_step (fail) | quiet_step (fail))
                    refine wpQuiet_nil ?_
                    intro _ hw'
                    obtain ⟨⟨dq, osq⟩, hw''⟩ := hw'
                    subst hw''
                    have hbg := hbw.trans ((below_regrown w4 dq osq).mono hbw.size)
                    go_wp2
                    go_ret
                    exact ⟨ret_bool H2.out, hbg⟩
                  · rw [if_neg d2] at h2
                    have U0 := fun w => utf28 z w (by omega)
                    rw [hzi] at U0
                    obtain ⟨X, hX⟩ : ∃ X : ByteArray, ByteArray.mk (utf8L z).toArray = X := ⟨_, rfl⟩
                    have hXY : utf8L z = t.data.toList.take 3 ↔ (X.toList == (t.extract 0 3).toList) = true := by
                      rw [← hX, ByteArray.toList_eq, ByteArray.toList_eq, extract_front, beq_iff_eq]
                    rw [hX] at U0
                    have HXY := Lib.hid hXY
                    have d1n : ¬ 1114111 < zi := by omega
                    have d2s : decide (55296 ≤ zi) = false ∨ (55296 ≤ zi ∧ decide (zi ≤ 57343) = false) := by simp only [decide_eq_false_iff_not]; omega
                    clear hX hXY
                    by_cases d4 : (X.toList == (t.extract 0 3).toList) = true
                    · have h5 := HXY.out.2 d4
                      rw [if_neg (by simpa using h5)] at h2
                      have H2 := Lib.hid h2
                      clear h2 h5 d1 d2 hzi hh HXY
                      rcases d2s with d2' | ⟨d2', d3'⟩
                      all_goals
                        go_wp2_with (go_at_call 32; refine (G.out _).mono ?_; rintro e w4 ⟨rfl, rfl⟩)
                        have CU : Hid (∀ d os, Calls Tryd.prog 55 #[.int .i64 zi] (grow (redrawn w4 d) os) fun e w'' => e = .returned (.string X) ∧ ∃ p : Regrown, w'' = grow (redrawn w4 p.d) p.os) := fun d os => Calls.regrown_of (U0 _)
                        refine wp_region_quiet_below (by kernel_rfl) (by kernel_rfl) ?_
                        repeat (first | go_big_quiet_step (exact CU.out _ _) | quiet_step (exact CU.out _ _))
                        refine wpQuiet_nil ?_
                        intro _ hw'
                        obtain ⟨⟨dq, osq⟩, hw''⟩ := hw'
                        subst hw''
                        have hbg := hbw.trans ((below_regrown w4 dq osq).mono hbw.size)
                        go_wp2
                        go_roundw
                        case rel =>
                          refine ⟨t.extract 3 t.size, f - 1, rfl, ?_, ?_, hbg, ?_⟩
                          · rw [size_extract]; omega
                          · rw [size_extract]; omega
                          · rw [extract_toList]; exact H2
                        case measure =>
                          show (t.extract 3 t.size).size < t.size
                          rw [size_extract]
                          omega
                    · have h5 : utf8L z ≠ t.data.toList.take 3 := fun h => d4 (HXY.out.1 h)
                      have d4f : (X.toList == (t.extract 0 3).toList) = false := by simpa using d4
                      rw [if_pos h5] at h2
                      have H2 := Lib.hid h2
                      clear h2 h5 d1 d2 hzi hh HXY d4
                      rcases d2s with d2' | ⟨d2', d3'⟩
                      all_goals
                        go_wp2_with (go_at_call 32; refine (G.out _).mono ?_; rintro e w4 ⟨rfl, rfl⟩)
                        have CU : Hid (∀ d os, Calls Tryd.prog 55 #[.int .i64 zi] (grow (redrawn w4 d) os) fun e w'' => e = .returned (.string X) ∧ ∃ p : Regrown, w'' = grow (redrawn w4 p.d) p.os) := fun d os => Calls.regrown_of (U0 _)
                        refine wp_region_quiet_below (by kernel_rfl) (by kernel_rfl) ?_
                        repeat (first | go_big_quiet_step (exact CU.out _ _) | quiet_step (exact CU.out _ _))
                        refine wpQuiet_nil ?_
                        intro _ hw'
                        obtain ⟨⟨dq, osq⟩, hw''⟩ := hw'
                        subst hw''
                        have hbg := hbw.trans ((below_regrown w4 dq osq).mono hbw.size)
                        go_wp2
                        go_ret
                        exact ⟨ret_bool H2.out, hbg⟩
              · rw [hh] at G h2
                simp only [if_true] at h2
                have H2 := Lib.hid h2
                clear h2 hh
                go_wp2_with (go_at_call 32; refine (G.out _).mono ?_; rintro e w4 ⟨rfl, rfl⟩)
                refine wp_region_quiet_below (by kernel_rfl) (by kernel_rfl) ?_
                repeat (first | go_big_quiet_step (fail) | quiet_step (fail))
                refine wpQuiet_nil ?_
                intro _ hw'
                obtain ⟨⟨dq, osq⟩, hw''⟩ := hw'
                subst hw''
                have hbg := hbw.trans ((below_regrown w4 dq osq).mono hbw.size)
                go_wp2
                go_ret
                exact ⟨ret_bool H2.out, hbg⟩
      by_cases c2 : 192 ≤ t[0].toNat
      · obtain ⟨x0, hx0⟩ : ∃ x0 : Int, ((t[0].toNat : Nat) : Int) = x0 := ⟨_, rfl⟩
        have i0 := fun W => (index_at t 0 0 rfl h0 W).trans (by rw [hx0])
        have b0 : t[0].toNat < 256 := t[0].toNat_lt
        have q0 : 192 ≤ x0 := by omega
        have q1 : x0 < 224 := by omega
        have h0' : (0 : Int) < (t.size : Int) := by omega
        have hw : widthOf (t.data.toList.getD 0 0).toNat = 2 := by
          rw [getD_byte t 0 h0]
          unfold widthOf
          simp only [c4, c3, c2, if_false, if_true]
        have hst := properGo_step f t.data.toList (by omega) (by omega) 2 _ hw rfl
        have hd1 : decT 2 t.data.toList 1 = t[0].toNat % 32 := by
          rw [decT_one, if_neg (by decide), getD_byte t 0 h0]
        have HX := Lib.hid hx0
        have HD := Lib.hid hd1
        have hdl := decT_le 2 t.data.toList (by omega)
        have HDL := Lib.hid hdl
        have h1 := H.out
        rw [hst] at h1
        have H1 := Lib.hid h1
        clear hx0 hd1 hw hst hdl h1 H b0
        by_cases hsz : t.size < 2
        · have h2 := H1.out
          rw [if_pos (by omega)] at h2
          have H2 := Lib.hid h2
          have hsz' : (t.size : Int) < 2 := by omega
          clear h2
          go_wp2
          go_ret
          exact ⟨ret_bool H2.out, hbw⟩
        · have hsz' : (2 : Int) ≤ (t.size : Int) := by omega
          go_wp2_with fail
          go_loop [4, 5] (fun cs js => ∃ j : Nat, 1 ≤ j ∧ j ≤ 2 ∧ js = .int .i64 j ∧ cs = .int .i64 (decT 2 t.data.toList j)) (fun _ js => 2 - (intOf js).toNat)
          case atStart => exact ⟨1, by omega, by omega, rfl, val_int (by have := HX.out; have := HD.out; omega)⟩
          case round =>
            obtain ⟨j, hj1, hj2, rfl, rfl⟩ := hrel
            by_cases hj : j < 2
            · obtain ⟨y, hy⟩ : ∃ y : Int, ((t[j].toNat : Nat) : Int) = y := ⟨_, rfl⟩
              have ij := fun W => (index_at t (j : Int) j rfl (by omega) W).trans (by rw [hy])
              have y0 : 0 ≤ y := by omega
              have y1 : y < 256 := by have := t[j].toNat_lt; omega
              have ds := decT_step 2 t.data.toList j hj1
              rw [getD_byte t j (by omega)] at ds
              obtain ⟨pj, hpj⟩ : ∃ pj : Int, ((decT 2 t.data.toList j : Nat) : Int) = pj := ⟨_, rfl⟩
              have pj0 : 0 ≤ pj := by omega
              have pj1 : pj < 67108864 := by have := HDL.out j hj1 (by omega); omega
              have HF : Hid ((decT 2 t.data.toList (j + 1) : Int) = 64 * pj + y % 64) := by show _ = _; omega
              rw [hpj]
              clear hy ds hpj i0
              have hji : (j : Int) < 2 := by omega
              go_wp2
              exact ⟨⟨j + 1, by omega, by omega, by go_num, val_int (by have := HF.out; omega)⟩, by simp [intOf]; omega⟩
            · obtain rfl : j = 2 := by omega
              obtain ⟨z, hz⟩ : ∃ z : Nat, decT 2 t.data.toList 2 = z := ⟨_, rfl⟩
              rw [hz]
              have zb : z < 67108864 := by have := HDL.out 2 (by omega) (by omega); omega
              have h2 := H1.out
              rw [hz, if_neg (by omega)] at h2
              clear i0 hz
              have G := Lib.hid (fun w => G27.out z w)
              cases hh : harmB z
              · rw [hh] at G h2
                simp only [Bool.false_eq_true, if_false] at h2
                obtain ⟨zi, hzi⟩ : ∃ zi : Int, (z : Int) = zi := ⟨_, rfl⟩
                rw [hzi] at G
                rw [hzi]
                have HZ := Lib.hid hzi
                have zi0 : 0 ≤ zi := by omega
                by_cases d1 : 1114111 < z
                · rw [if_pos d1] at h2
                  have d1' : 1114111 < zi := by omega
                  have H2 := Lib.hid h2
                  clear h2 d1 hzi hh
                  go_wp2_with (go_at_call 32; refine (G.out _).mono ?_; rintro e w4 ⟨rfl, rfl⟩)
                  refine wp_region_quiet_below (by kernel_rfl) (by kernel_rfl) ?_
                  repeat (first | go_big_quiet_step (fail) | quiet_step (fail))
                  refine wpQuiet_nil ?_
                  intro _ hw'
                  obtain ⟨⟨dq, osq⟩, hw''⟩ := hw'
                  subst hw''
                  have hbg := hbw.trans ((below_regrown w4 dq osq).mono hbw.size)
                  go_wp2
                  go_ret
                  exact ⟨ret_bool H2.out, hbg⟩
                · rw [if_neg d1] at h2
                  have d1' : zi ≤ 1114111 := by omega
                  by_cases d2 : 55296 ≤ z ∧ z ≤ 57343
                  · rw [if_pos d2] at h2
                    have d2' : 55296 ≤ zi := by omega
                    have d3' : zi ≤ 57343 := by omega
                    have H2 := Lib.hid h2
                    clear h2 d1 d2 hzi hh
                    go_wp2_with (go_at_call 32; refine (G.out _).mono ?_; rintro e w4 ⟨rfl, rfl⟩)
                    refine wp_region_quiet_below (by kernel_rfl) (by kernel_rfl) ?_
                    repeat (first | go_big_quiet_step (fail) | quiet_step (fail))
                    refine wpQuiet_nil ?_
                    intro _ hw'
                    obtain ⟨⟨dq, osq⟩, hw''⟩ := hw'
                    subst hw''
                    have hbg := hbw.trans ((below_regrown w4 dq osq).mono hbw.size)
                    go_wp2
                    go_ret
                    exact ⟨ret_bool H2.out, hbg⟩
                  · rw [if_neg d2] at h2
                    have U0 := fun w => utf28 z w (by omega)
                    rw [hzi] at U0
                    obtain ⟨X, hX⟩ : ∃ X : ByteArray, ByteArray.mk (utf8L z).toArray = X := ⟨_, rfl⟩
                    have hXY : utf8L z = t.data.toList.take 2 ↔ (X.toList == (t.extract 0 2).toList) = true := by
                      rw [← hX, ByteArray.toList_eq, ByteArray.toList_eq, extract_front, beq_iff_eq]
                    rw [hX] at U0
                    have HXY := Lib.hid hXY
                    have d1n : ¬ 1114111 < zi := by omega
                    have d2s : decide (55296 ≤ zi) = false ∨ (55296 ≤ zi ∧ decide (zi ≤ 57343) = false) := by simp only [decide_eq_false_iff_not]; omega
                    clear hX hXY
                    by_cases d4 : (X.toList == (t.extract 0 2).toList) = true
                    · have h5 := HXY.out.2 d4
                      rw [if_neg (by simpa using h5)] at h2
                      have H2 := Lib.hid h2
                      clear h2 h5 d1 d2 hzi hh HXY
                      rcases d2s with d2' | ⟨d2', d3'⟩
                      all_goals
                        go_wp2_with (go_at_call 32; refine (G.out _).mono ?_; rintro e w4 ⟨rfl, rfl⟩)
                        have CU : Hid (∀ d os, Calls Tryd.prog 55 #[.int .i64 zi] (grow (redrawn w4 d) os) fun e w'' => e = .returned (.string X) ∧ ∃ p : Regrown, w'' = grow (redrawn w4 p.d) p.os) := fun d os => Calls.regrown_of (U0 _)
                        refine wp_region_quiet_below (by kernel_rfl) (by kernel_rfl) ?_
                        repeat (first | go_big_quiet_step (exact CU.out _ _) | quiet_step (exact CU.out _ _))
                        refine wpQuiet_nil ?_
                        intro _ hw'
                        obtain ⟨⟨dq, osq⟩, hw''⟩ := hw'
                        subst hw''
                        have hbg := hbw.trans ((below_regrown w4 dq osq).mono hbw.size)
                        go_wp2
                        go_roundw
                        case rel =>
                          refine ⟨t.extract 2 t.size, f - 1, rfl, ?_, ?_, hbg, ?_⟩
                          · rw [size_extract]; omega
                          · rw [size_extract]; omega
                          · rw [extract_toList]; exact H2
                        case measure =>
                          show (t.extract 2 t.size).size < t.size
                          rw [size_extract]
                          omega
                    · have h5 : utf8L z ≠ t.data.toList.take 2 := fun h => d4 (HXY.out.1 h)
                      have d4f : (X.toList == (t.extract 0 2).toList) = false := by simpa using d4
                      rw [if_pos h5] at h2
                      have H2 := Lib.hid h2
                      clear h2 h5 d1 d2 hzi hh HXY d4
                      rcases d2s with d2' | ⟨d2', d3'⟩
                      all_goals
                        go_wp2_with (go_at_call 32; refine (G.out _).mono ?_; rintro e w4 ⟨rfl, rfl⟩)
                        have CU : Hid (∀ d os, Calls Tryd.prog 55 #[.int .i64 zi] (grow (redrawn w4 d) os) fun e w'' => e = .returned (.string X) ∧ ∃ p : Regrown, w'' = grow (redrawn w4 p.d) p.os) := fun d os => Calls.regrown_of (U0 _)
                        refine wp_region_quiet_below (by kernel_rfl) (by kernel_rfl) ?_
                        repeat (first | go_big_quiet_step (exact CU.out _ _) | quiet_step (exact CU.out _ _))
                        refine wpQuiet_nil ?_
                        intro _ hw'
                        obtain ⟨⟨dq, osq⟩, hw''⟩ := hw'
                        subst hw''
                        have hbg := hbw.trans ((below_regrown w4 dq osq).mono hbw.size)
                        go_wp2
                        go_ret
                        exact ⟨ret_bool H2.out, hbg⟩
              · rw [hh] at G h2
                simp only [if_true] at h2
                have H2 := Lib.hid h2
                clear h2 hh
                go_wp2_with (go_at_call 32; refine (G.out _).mono ?_; rintro e w4 ⟨rfl, rfl⟩)
                refine wp_region_quiet_below (by kernel_rfl) (by kernel_rfl) ?_
                repeat (first | go_big_quiet_step (fail) | quiet_step (fail))
                refine wpQuiet_nil ?_
                intro _ hw'
                obtain ⟨⟨dq, osq⟩, hw''⟩ := hw'
                subst hw''
                have hbg := hbw.trans ((below_regrown w4 dq osq).mono hbw.size)
                go_wp2
                go_ret
                exact ⟨ret_bool H2.out, hbg⟩
      obtain ⟨x0, hx0⟩ : ∃ x0 : Int, ((t[0].toNat : Nat) : Int) = x0 := ⟨_, rfl⟩
      have i0 := fun W => (index_at t 0 0 rfl h0 W).trans (by rw [hx0])
      have b0 : t[0].toNat < 256 := t[0].toNat_lt
      have q0 : 0 ≤ x0 := by omega
      have q1 : x0 < 192 := by omega
      have h0' : (0 : Int) < (t.size : Int) := by omega
      have hw : widthOf (t.data.toList.getD 0 0).toNat = 1 := by
        rw [getD_byte t 0 h0]
        unfold widthOf
        simp only [c4, c3, c2, if_false]
      have hst := properGo_step f t.data.toList (by omega) (by omega) 1 _ hw rfl
      have hd1 : decT 1 t.data.toList 1 = t[0].toNat := by
        rw [decT_one, if_pos rfl, getD_byte t 0 h0]
      have HX := Lib.hid hx0
      have HD := Lib.hid hd1
      have hdl := decT_le 1 t.data.toList (by omega)
      have HDL := Lib.hid hdl
      have h1 := H.out
      rw [hst] at h1
      have H1 := Lib.hid h1
      clear hx0 hd1 hw hst hdl h1 H b0
      have hsz' : (1 : Int) ≤ (t.size : Int) := by omega
      go_wp2_with fail
      go_loop [4, 5] (fun cs js => ∃ j : Nat, 1 ≤ j ∧ j ≤ 1 ∧ js = .int .i64 j ∧ cs = .int .i64 (decT 1 t.data.toList j)) (fun _ js => 1 - (intOf js).toNat)
      case atStart => exact ⟨1, by omega, by omega, rfl, val_int (by have := HX.out; have := HD.out; omega)⟩
      case round =>
        obtain ⟨j, hj1, hj2, rfl, rfl⟩ := hrel
        by_cases hj : j < 1
        · omega
        · obtain rfl : j = 1 := by omega
          obtain ⟨z, hz⟩ : ∃ z : Nat, decT 1 t.data.toList 1 = z := ⟨_, rfl⟩
          rw [hz]
          have zb : z < 67108864 := by have := HDL.out 1 (by omega) (by omega); omega
          have h2 := H1.out
          rw [hz, if_neg (by omega)] at h2
          clear i0 hz
          have G := Lib.hid (fun w => G27.out z w)
          cases hh : harmB z
          · rw [hh] at G h2
            simp only [Bool.false_eq_true, if_false] at h2
            obtain ⟨zi, hzi⟩ : ∃ zi : Int, (z : Int) = zi := ⟨_, rfl⟩
            rw [hzi] at G
            rw [hzi]
            have HZ := Lib.hid hzi
            have zi0 : 0 ≤ zi := by omega
            by_cases d1 : 1114111 < z
            · rw [if_pos d1] at h2
              have d1' : 1114111 < zi := by omega
              have H2 := Lib.hid h2
              clear h2 d1 hzi hh
              go_wp2_with (go_at_call 32; refine (G.out _).mono ?_; rintro e w4 ⟨rfl, rfl⟩)
              refine wp_region_quiet_below (by kernel_rfl) (by kernel_rfl) ?_
              repeat (first | go_big_quiet_step (fail) | quiet_step (fail))
              refine wpQuiet_nil ?_
              intro _ hw'
              obtain ⟨⟨dq, osq⟩, hw''⟩ := hw'
              subst hw''
              have hbg := hbw.trans ((below_regrown w4 dq osq).mono hbw.size)
              go_wp2
              go_ret
              exact ⟨ret_bool H2.out, hbg⟩
            · rw [if_neg d1] at h2
              have d1' : zi ≤ 1114111 := by omega
              by_cases d2 : 55296 ≤ z ∧ z ≤ 57343
              · rw [if_pos d2] at h2
                have d2' : 55296 ≤ zi := by omega
                have d3' : zi ≤ 57343 := by omega
                have H2 := Lib.hid h2
                clear h2 d1 d2 hzi hh
                go_wp2_with (go_at_call 32; refine (G.out _).mono ?_; rintro e w4 ⟨rfl, rfl⟩)
                refine wp_region_quiet_below (by kernel_rfl) (by kernel_rfl) ?_
                repeat (first | go_big_quiet_step (fail) | quiet_step (fail))
                refine wpQuiet_nil ?_
                intro _ hw'
                obtain ⟨⟨dq, osq⟩, hw''⟩ := hw'
                subst hw''
                have hbg := hbw.trans ((below_regrown w4 dq osq).mono hbw.size)
                go_wp2
                go_ret
                exact ⟨ret_bool H2.out, hbg⟩
              · rw [if_neg d2] at h2
                have U0 := fun w => utf28 z w (by omega)
                rw [hzi] at U0
                obtain ⟨X, hX⟩ : ∃ X : ByteArray, ByteArray.mk (utf8L z).toArray = X := ⟨_, rfl⟩
                have hXY : utf8L z = t.data.toList.take 1 ↔ (X.toList == (t.extract 0 1).toList) = true := by
                  rw [← hX, ByteArray.toList_eq, ByteArray.toList_eq, extract_front, beq_iff_eq]
                rw [hX] at U0
                have HXY := Lib.hid hXY
                have d1n : ¬ 1114111 < zi := by omega
                have d2s : decide (55296 ≤ zi) = false ∨ (55296 ≤ zi ∧ decide (zi ≤ 57343) = false) := by simp only [decide_eq_false_iff_not]; omega
                clear hX hXY
                by_cases d4 : (X.toList == (t.extract 0 1).toList) = true
                · have h5 := HXY.out.2 d4
                  rw [if_neg (by simpa using h5)] at h2
                  have H2 := Lib.hid h2
                  clear h2 h5 d1 d2 hzi hh HXY
                  rcases d2s with d2' | ⟨d2', d3'⟩
                  all_goals
                    go_wp2_with (go_at_call 32; refine (G.out _).mono ?_; rintro e w4 ⟨rfl, rfl⟩)
                    have CU : Hid (∀ d os, Calls Tryd.prog 55 #[.int .i64 zi] (grow (redrawn w4 d) os) fun e w'' => e = .returned (.string X) ∧ ∃ p : Regrown, w'' = grow (redrawn w4 p.d) p.os) := fun d os => Calls.regrown_of (U0 _)
                    refine wp_region_quiet_below (by kernel_rfl) (by kernel_rfl) ?_
                    repeat (first | go_big_quiet_step (exact CU.out _ _) | quiet_step (exact CU.out _ _))
                    refine wpQuiet_nil ?_
                    intro _ hw'
                    obtain ⟨⟨dq, osq⟩, hw''⟩ := hw'
                    subst hw''
                    have hbg := hbw.trans ((below_regrown w4 dq osq).mono hbw.size)
                    go_wp2
                    go_roundw
                    case rel =>
                      refine ⟨t.extract 1 t.size, f - 1, rfl, ?_, ?_, hbg, ?_⟩
                      · rw [size_extract]; omega
                      · rw [size_extract]; omega
                      · rw [extract_toList]; exact H2
                    case measure =>
                      show (t.extract 1 t.size).size < t.size
                      rw [size_extract]
                      omega
                · have h5 : utf8L z ≠ t.data.toList.take 1 := fun h => d4 (HXY.out.1 h)
                  have d4f : (X.toList == (t.extract 0 1).toList) = false := by simpa using d4
                  rw [if_pos h5] at h2
                  have H2 := Lib.hid h2
                  clear h2 h5 d1 d2 hzi hh HXY d4
                  rcases d2s with d2' | ⟨d2', d3'⟩
                  all_goals
                    go_wp2_with (go_at_call 32; refine (G.out _).mono ?_; rintro e w4 ⟨rfl, rfl⟩)
                    have CU : Hid (∀ d os, Calls Tryd.prog 55 #[.int .i64 zi] (grow (redrawn w4 d) os) fun e w'' => e = .returned (.string X) ∧ ∃ p : Regrown, w'' = grow (redrawn w4 p.d) p.os) := fun d os => Calls.regrown_of (U0 _)
                    refine wp_region_quiet_below (by kernel_rfl) (by kernel_rfl) ?_
                    repeat (first | go_big_quiet_step (exact CU.out _ _) | quiet_step (exact CU.out _ _))
                    refine wpQuiet_nil ?_
                    intro _ hw'
                    obtain ⟨⟨dq, osq⟩, hw''⟩ := hw'
                    subst hw''
                    have hbg := hbw.trans ((below_regrown w4 dq osq).mono hbw.size)
                    go_wp2
                    go_ret
                    exact ⟨ret_bool H2.out, hbg⟩
          · rw [hh] at G h2
            simp only [if_true] at h2
            have H2 := Lib.hid h2
            clear h2 hh
            go_wp2_with (go_at_call 32; refine (G.out _).mono ?_; rintro e w4 ⟨rfl, rfl⟩)
            refine wp_region_quiet_below (by kernel_rfl) (by kernel_rfl) ?_
            repeat (first | go_big_quiet_step (fail) | quiet_step (fail))
            refine wpQuiet_nil ?_
            intro _ hw'
            obtain ⟨⟨dq, osq⟩, hw''⟩ := hw'
            subst hw''
            have hbg := hbw.trans ((below_regrown w4 dq osq).mono hbw.size)
            go_wp2
            go_ret
            exact ⟨ret_bool H2.out, hbg⟩
    · have h2 := H.out
      have htl : t.data.toList.length = t.size := by simp
      have htn : t.data.toList = [] := List.eq_nil_of_length_eq_zero (by omega)
      rw [htn] at h2
      have h3 : r = true := by
        rw [← h2]
        cases f <;> rfl
      have H3 := Lib.hid h3
      have hne : t.toList.isEmpty = true := by rw [ByteArray.toList_eq, htn]; rfl
      clear h2 h3 htn H
      go_wp2
      go_ret
      exact ⟨ret_bool H3.out.symm, hbw⟩
end Go.Proofs.YteibjmlimcpaoaaDoor

set_option linter.unusedVariables false
set_option linter.unusedSimpArgs false
namespace Go.Proofs.YteibjmlimcpaoaaDoor
open Go.RowKit Go.Sort

theorem proper26 (s : ByteArray) (w : World) (hm : s.size ≤ 9223372036854775807) :
    Calls Tryd.prog 58 #[.string s] w fun e w' => e = .returned (.bool (properB s.data.toList)) ∧ Below w.heap.size w w' := by
  have hl : s.data.toList.length = s.size := by simp
  unfold properB
  rw [hl]
  by_cases h : 60 < s.size
  · rw [if_pos h]
    exact proper26_big s w h hm
  · rw [if_neg h]
    exact proper26_small s w _ (by omega) rfl
theorem properB_size (s : ByteArray) (h : properB s.data.toList = true) : s.size ≤ 60 := by
  have hl : s.data.toList.length = s.size := by simp
  unfold properB at h
  rw [hl] at h
  by_cases hb : 60 < s.size
  · rw [if_pos hb] at h
    cases h
  · omega

def oneBA (n : Nat) : ByteArray := ⟨(oneL n).toArray⟩
def twoBA (n : Nat) : ByteArray := ⟨(twoL n).toArray⟩
theorem oneBA_size (n : Nat) : (oneBA n).size = 1 := rfl
theorem twoBA_size (n : Nat) : (twoBA n).size = 2 := rfl
theorem one18B (n : Nat) (hn : n < 256) (w : World) (d : Nat) (os : Array Obj) : Calls Tryd.prog 38 #[.int .i64 (n : Int)] (grow (redrawn w d) os) fun e w'' => e = .returned (.string (oneBA n)) ∧ ∃ p : Regrown, w'' = grow (redrawn w p.d) p.os := Calls.regrown_of (one18 n _ hn)
theorem two19B (n : Nat) (hn : n < 4294967296) (w : World) (d : Nat) (os : Array Obj) : Calls Tryd.prog 39 #[.int .i64 (n : Int)] (grow (redrawn w d) os) fun e w'' => e = .returned (.string (twoBA n)) ∧ ∃ p : Regrown, w'' = grow (redrawn w p.d) p.os := Calls.regrown_of (two19 n _ hn)

def ncells : List Nm → List Value
  | [] => []
  | x :: r => .int .i64 x.pl :: .int .i64 x.en :: .int .i64 x.la :: .int .i64 x.id :: .int .i64 x.st :: .int .i64 x.ms :: .string x.tx :: ncells r
theorem ncells_at : ∀ (l : List Nm) (k : Nat) (x : Nm), l[k]? = some x → (ncells l)[k * 7]? = some (.int .i64 x.pl) ∧ (ncells l)[k * 7 + 1]? = some (.int .i64 x.en) ∧ (ncells l)[k * 7 + 2]? = some (.int .i64 x.la) ∧ (ncells l)[k * 7 + 3]? = some (.int .i64 x.id) ∧ (ncells l)[k * 7 + 4]? = some (.int .i64 x.st) ∧ (ncells l)[k * 7 + 5]? = some (.int .i64 x.ms) ∧ (ncells l)[k * 7 + 6]? = some (.string x.tx)
  | [], k, t, h => by simp at h
  | x :: l, 0, t, h => by
    simp at h
    subst h
    exact ⟨rfl, rfl, rfl, rfl, rfl, rfl, rfl⟩
  | x :: l, k + 1, t, h => by
    have := ncells_at l k t (by simpa using h)
    rw [show (k + 1) * 7 = k * 7 + 7 by omega]
    exact this

def nmOk (x : Nm) : Bool := toB 65535 x.pl && toB 65535 x.en && toB 65535 x.la && toB 65535 x.id && toB 8 x.st && toB 7 x.ms && properB x.tx.data.toList
def nmL (x : Nm) : List UInt8 := twoL x.pl.toNat ++ twoL x.en.toNat ++ twoL x.la.toNat ++ twoL x.id.toNat ++ oneL x.st.toNat ++ oneL x.ms.toNat ++ oneL x.tx.size ++ x.tx.data.toList
def nmsGo : List Nm → List UInt8 → List UInt8 × Bool
  | [], acc => (acc, true)
  | x :: r, acc => if nmOk x then nmsGo r (acc ++ nmL x) else ([], false)
def nmsR (l : List Nm) : List UInt8 × Bool := if 20 < l.length then ([], false) else nmsGo l (oneL l.length)

theorem new7 {wr w5 : World} {x0 x1 x2 x3 x4 x5 x6 : Value} (hb : Below (wr.alloc (.cells #[x0, x1, x2, x3, x4, x5, x6] 79)).heap.size (wr.alloc (.cells #[x0, x1, x2, x3, x4, x5, x6] 79)) w5) :
    w5.cell? ⟨wr.heap.size, 0, none⟩ = some x0 ∧ w5.cell? ⟨wr.heap.size, 1, none⟩ = some x1 ∧ w5.cell? ⟨wr.heap.size, 2, none⟩ = some x2 ∧ w5.cell? ⟨wr.heap.size, 3, none⟩ = some x3 ∧ w5.cell? ⟨wr.heap.size, 4, none⟩ = some x4 ∧ w5.cell? ⟨wr.heap.size, 5, none⟩ = some x5 ∧ w5.cell? ⟨wr.heap.size, 6, none⟩ = some x6 := by
  have h : ∀ i, w5.cell? ⟨wr.heap.size, i, none⟩ = (wr.alloc (.cells #[x0, x1, x2, x3, x4, x5, x6] 79)).cell? ⟨wr.heap.size, i, none⟩ := fun i => hb.cell (p := ⟨wr.heap.size, i, none⟩) (by simp)
  refine ⟨?_, ?_, ?_, ?_, ?_, ?_, ?_⟩ <;> (rw [h, World.cell?_alloc_new]; rfl)

theorem toB_nat {top n : Int} (h : toB top n = true) : ∃ k : Nat, n = k ∧ (k : Int) ≤ top := by
  simp only [toB, decide_eq_true_eq] at h
  exact ⟨n.toNat, by omega, by omega⟩

set_option maxRecDepth 100000 in
set_option maxHeartbeats 2000000 in
theorem names16_big (v : Value) (l : List Nm) (w : World) (hl : l.length ≤ 9223372036854775807) (hb : 20 < l.length) (hv : RowIs w v l.length (ncells l)) :
    Calls Tryd.prog 36 #[v] w fun e w' => e = .returned (.tuple #[.string ⟨#[]⟩, .bool false]) ∧ Below w.heap.size w w' := by
  obtain ⟨ao, cap, rfl, _⟩ := hv
  have hb' : (20 : Int) < (l.length : Int) := by omega
  go_enter Tryd.func36, Tryd.ntmps36
  go_wp2
  go_ret2
  exact ⟨rfl, Below.refl _ _⟩

set_option maxRecDepth 100000 in
set_option maxHeartbeats 4000000 in
theorem names16_small (v : Value) (l : List Nm) (w : World) (r : List UInt8 × Bool) (hl : l.length ≤ 20) (htx : ∀ x ∈ l, x.tx.size ≤ 9223372036854775807) (hv : RowIs w v l.length (ncells l)) (hr : nmsGo l (oneL l.length) = r) :
    Calls Tryd.prog 36 #[v] w fun e w' => e = .returned (.tuple #[.string ⟨r.1.toArray⟩, .bool r.2]) ∧ Below w.heap.size w w' := by
  have hl' : ¬ (20 : Int) < (l.length : Int) := by omega
  have O := Lib.hid (one18 l.length w (by omega))
  have HR := Lib.hid hr
  have HV := Lib.hid hv
  have HTX := Lib.hid htx
  have lo : (oneL l.length).length = 1 := rfl
  generalize oneL l.length = o1 at *
  clear hr htx
  obtain ⟨ao, cap, rfl, hcell⟩ := hv
  clear hcell
  go_enter Tryd.func36, Tryd.ntmps36
  go_wp2_with (go_at_call 38; refine O.out.mono ?_; rintro e w1 ⟨rfl, hb1⟩)
  go_loopw [4, 5] (fun ss is wr => ∃ (k : Nat) (acc : List UInt8), ss = .string ⟨acc.toArray⟩ ∧ is = .int .i64 k ∧ k ≤ l.length ∧ Below w.heap.size w wr ∧ acc.length ≤ 1 + 71 * k ∧ Hid (nmsGo (l.drop k) acc = r)) (fun _ is _ => l.length - (intOf is).toNat)
  case atStart => exact ⟨0, o1, rfl, rfl, Nat.zero_le _, hb1, by omega, HR⟩
  case round =>
    obtain ⟨k, acc, rfl, rfl, hk, hbw, hal, H⟩ := hrel
    by_cases hlt : k < l.length
    · obtain ⟨_, _, hao, hcell⟩ := HV.out.on hbw
      cases hao
      obtain ⟨g, o, rfl, hcl⟩ := hcell (by omega)
      obtain ⟨⟨pl, en, la, id, st, ms, tx⟩, hx⟩ : ∃ x, l[k]? = some x := ⟨_, List.getElem?_eq_getElem hlt⟩
      have htx := HTX.out _ (List.mem_of_getElem? hx)
      obtain ⟨t0, t1, t2, t3, t4, t5, t6⟩ := ncells_at l k _ hx
      have c0 := hcl _ _ t0
      have c1 := hcl _ _ t1
      have c2 := hcl _ _ t2
      have c3 := hcl _ _ t3
      have c4 := hcl _ _ t4
      have c5 := hcl _ _ t5
      have c6 := hcl _ _ t6
      simp only at c0 c1 c2 c3 c4 c5 c6 htx
      rw [← Nat.add_assoc] at c1 c2 c3 c4 c5 c6
      have hdr : l.drop k = ⟨pl, en, la, id, st, ms, tx⟩ :: l.drop (k + 1) := by
        rw [List.drop_eq_getElem_cons hlt]
        congr 1
        exact Option.some.inj ((List.getElem?_eq_getElem hlt).symm.trans hx)
      have h1 := H.out
      rw [hdr, nmsGo] at h1
      have H1 := Lib.hid h1
      have hok : Hid (nmOk ⟨pl, en, la, id, st, ms, tx⟩ = (toB 65535 pl && toB 65535 en && toB 65535 la && toB 65535 id && toB 8 st && toB 7 ms && properB tx.data.toList)) := rfl
      clear hcell hcl t0 t1 t2 t3 t4 t5 t6 hdr H hx h1
      have T0 := Lib.hid (fun w => to17 65535 pl w)
      have T1 := Lib.hid (fun w => to17 65535 en w)
      have T2 := Lib.hid (fun w => to17 65535 la w)
      have T3 := Lib.hid (fun w => to17 65535 id w)
      have T4 := Lib.hid (fun w => to17 8 st w)
      have T5 := Lib.hid (fun w => to17 7 ms w)
      have P := Lib.hid (fun w => proper26 tx w htx)
      have B0 := Lib.hid (fun h => toB_nat (top := 65535) (n := pl) h)
      have B1 := Lib.hid (fun h => toB_nat (top := 65535) (n := en) h)
      have B2 := Lib.hid (fun h => toB_nat (top := 65535) (n := la) h)
      have B3 := Lib.hid (fun h => toB_nat (top := 65535) (n := id) h)
      have B4 := Lib.hid (fun h => toB_nat (top := 8) (n := st) h)
      have B5 := Lib.hid (fun h => toB_nat (top := 7) (n := ms) h)
      have B6 := Lib.hid (fun h => properB_size tx h)
      generalize toB 65535 pl = b0 at *
      generalize toB 65535 en = b1 at *
      generalize toB 65535 la = b2 at *
      generalize toB 65535 id = b3 at *
      generalize toB 8 st = b4 at *
      generalize toB 7 ms = b5 at *
      generalize properB tx.data.toList = b6 at *
      go_wp2_with (go_at_call 37; refine (T0.out _).mono ?_; rintro e w4 ⟨rfl, rfl⟩; refine Hid.out ?_)
      refine Lib.hid ?_
      go_wp2_with (go_at_call 37; refine (T1.out _).mono ?_; rintro e w4 ⟨rfl, rfl⟩; refine Hid.out ?_)
      refine Lib.hid ?_
      go_wp2_with (go_at_call 37; refine (T2.out _).mono ?_; rintro e w4 ⟨rfl, rfl⟩; refine Hid.out ?_)
      refine Lib.hid ?_
      go_wp2_with (go_at_call 37; refine (T3.out _).mono ?_; rintro e w4 ⟨rfl, rfl⟩; refine Hid.out ?_)
      refine Lib.hid ?_
      go_wp2_with (go_at_call 37; refine (T4.out _).mono ?_; rintro e w4 ⟨rfl, rfl⟩; refine Hid.out ?_)
      refine Lib.hid ?_
      go_wp2_with (go_at_call 37; refine (T5.out _).mono ?_; rintro e w4 ⟨rfl, rfl⟩; refine Hid.out ?_)
      refine Lib.hid ?_
      go_wp2_with (go_at_call 58; refine (P.out _).mono ?_; rintro e w5 ⟨rfl, hb5⟩; refine Hid.out ?_)
      have hbw5 := (hbw.alloc hbw.size _).trans (hb5.mono (by have := hbw.size; simp; omega))
      obtain ⟨d0, d1, d2, d3, d4, d5, d6⟩ := new7 hb5
      obtain ⟨xb, hxb⟩ : ∃ xb, wr.heap.size = xb := ⟨_, rfl⟩
      rw [hxb] at d0 d1 d2 d3 d4 d5 d6
      refine Lib.hid ?_
      rw [hxb]
      clear c0 c1 c2 c3 c4 c5 c6 hb5 hxb hbw
      cases b0
      · have h2 := H1.out
        rw [hok.out] at h2
        simp only [Bool.false_and, Bool.and_false, Bool.true_and, Bool.false_eq_true, if_false] at h2
        have H2 := Lib.hid h2
        clear h2
        go_wp2
        go_ret2
        refine ⟨?_, hbw5⟩
        rw [← H2.out]
        rfl
      cases b1
      · have h2 := H1.out
        rw [hok.out] at h2
        simp only [Bool.false_and, Bool.and_false, Bool.true_and, Bool.false_eq_true, if_false] at h2
        have H2 := Lib.hid h2
        clear h2
        go_wp2
        go_ret2
        refine ⟨?_, hbw5⟩
        rw [← H2.out]
        rfl
      cases b2
      · have h2 := H1.out
        rw [hok.out] at h2
        simp only [Bool.false_and, Bool.and_false, Bool.true_and, Bool.false_eq_true, if_false] at h2
        have H2 := Lib.hid h2
        clear h2
        go_wp2
        go_ret2
        refine ⟨?_, hbw5⟩
        rw [← H2.out]
        rfl
      cases b3
      · have h2 := H1.out
        rw [hok.out] at h2
        simp only [Bool.false_and, Bool.and_false, Bool.true_and, Bool.false_eq_true, if_false] at h2
        have H2 := Lib.hid h2
        clear h2
        go_wp2
        go_ret2
        refine ⟨?_, hbw5⟩
        rw [← H2.out]
        rfl
      cases b4
      · have h2 := H1.out
        rw [hok.out] at h2
        simp only [Bool.false_and, Bool.and_false, Bool.true_and, Bool.false_eq_true, if_false] at h2
        have H2 := Lib.hid h2
        clear h2
        go_wp2
        go_ret2
        refine ⟨?_, hbw5⟩
        rw [← H2.out]
        rfl
      cases b5
      · have h2 := H1.out
        rw [hok.out] at h2
        simp only [Bool.false_and, Bool.and_false, Bool.true_and, Bool.false_eq_true, if_false] at h2
        have H2 := Lib.hid h2
        clear h2
        go_wp2
        go_ret2
        refine ⟨?_, hbw5⟩
        rw [← H2.out]
        rfl
      cases b6
      · have h2 := H1.out
        rw [hok.out] at h2
        simp only [Bool.false_and, Bool.and_false, Bool.true_and, Bool.false_eq_true, if_false] at h2
        have H2 := Lib.hid h2
        clear h2
        go_wp2
        go_ret2
        refine ⟨?_, hbw5⟩
        rw [← H2.out]
        rfl
      obtain ⟨pl, rfl, e0⟩ := B0.out rfl
      obtain ⟨en, rfl, e1⟩ := B1.out rfl
      obtain ⟨la, rfl, e2⟩ := B2.out rfl
      obtain ⟨id, rfl, e3⟩ := B3.out rfl
      obtain ⟨st, rfl, e4⟩ := B4.out rfl
      obtain ⟨ms, rfl, e5⟩ := B5.out rfl
      have e6 := B6.out rfl
      have h2 := H1.out
      rw [hok.out] at h2
      simp only [Bool.and_true, if_true] at h2
      have H2 := Lib.hid h2
      have k0 := cell_regrown d0
      have k1 := cell_regrown d1
      have k2 := cell_regrown d2
      have k3 := cell_regrown d3
      have k4 := cell_regrown d4
      have k5 := cell_regrown d5
      have k6 := cell_regrown d6
      obtain ⟨A, hA⟩ : ∃ X : ByteArray, ByteArray.mk acc.toArray = X := ⟨_, rfl⟩
      have sA : A.size ≤ 1 + 71 * k := by
        rw [← hA]
        show acc.toArray.size ≤ _
        simpa using hal
      rw [hA]
      have HA := Lib.hid hA
      have z0 := twoBA_size pl
      have z1 := twoBA_size en
      have z2 := twoBA_size la
      have z3 := twoBA_size id
      have z4 := oneBA_size st
      have z5 := oneBA_size ms
      have z6 := oneBA_size tx.size
      have n1 : ¬ 9223372036854775807 < A.size + (twoBA pl).size := by omega
      have n2 : ¬ 9223372036854775807 < A.size + (twoBA pl).size + (twoBA en).size := by omega
      have n3 : ¬ 9223372036854775807 < A.size + (twoBA pl).size + (twoBA en).size + (twoBA la).size := by omega
      have n4 : ¬ 9223372036854775807 < A.size + (twoBA pl).size + (twoBA en).size + (twoBA la).size + (twoBA id).size := by omega
      have n5 : ¬ 9223372036854775807 < A.size + (twoBA pl).size + (twoBA en).size + (twoBA la).size + (twoBA id).size + (oneBA st).size := by omega
      have n6 : ¬ 9223372036854775807 < A.size + (twoBA pl).size + (twoBA en).size + (twoBA la).size + (twoBA id).size + (oneBA st).size + (oneBA ms).size := by omega
      have n7 : ¬ 9223372036854775807 < A.size + (twoBA pl).size + (twoBA en).size + (twoBA la).size + (twoBA id).size + (oneBA st).size + (oneBA ms).size + (oneBA tx.size).size := by omega
      have n8 : ¬ 9223372036854775807 < A.size + (twoBA pl).size + (twoBA en).size + (twoBA la).size + (twoBA id).size + (oneBA st).size + (oneBA ms).size + (oneBA tx.size).size + tx.size := by omega
      clear z0 z1 z2 z3 z4 z5 z6 hA sA h2 d0 d1 d2 d3 d4 d5 d6 T0 T1 T2 T3 T4 T5 P B0 B1 B2 B3 B4 B5 B6
      go_wp2
      refine wp_region_quiet_below (by kernel_rfl) (by kernel_rfl) ?_
      repeat (quiet_step (first | exact two19B _ (by omega) _ _ _ | exact one18B _ (by omega) _ _ _))
      refine wpQuiet_nil ?_
      intro _ hw'
      obtain ⟨⟨dq, osq⟩, hw''⟩ := hw'
      subst hw''
      have hbg := hbw5.trans ((below_regrown w5 dq osq).mono hbw5.size)
      go_wp2
      refine ⟨⟨k + 1, acc ++ nmL ⟨pl, en, la, id, st, ms, tx⟩, ?_, by go_num, by omega, hbg, ?_, H2⟩, by simp [intOf]; omega⟩
      · rw [← HA.out]
        exact congrArg Value.string (ByteArray.ext (by simp [nmL, oneBA, twoBA]))
      · have e9 : tx.data.toList.length = tx.size := by simp
        simp only [List.length_append, nmL, oneL, twoL, List.length_cons, List.length_nil]
        omega
    · have h2 := H.out
      rw [List.drop_eq_nil_of_le (by omega)] at h2
      have H2 := Lib.hid h2
      clear h2 H
      have hge : ¬ ((k : Int) < (l.length : Int)) := by omega
      go_wp2
      go_ret2
      refine ⟨?_, hbw⟩
      rw [← H2.out]
      rfl
end Go.Proofs.YteibjmlimcpaoaaDoor

set_option linter.unusedVariables false
set_option linter.unusedSimpArgs false
namespace Go.Proofs.YteibjmlimcpaoaaDoor
open Go.RowKit Go.Sort

theorem tables15 (v : Value) (l : List Tab) (w : World) (hl : l.length ≤ 9223372036854775807) (hv : RowIs w v l.length (tcells l)) :
    Calls Tryd.prog 35 #[v] w fun e w' => e = .returned (.tuple #[.string ⟨(tabsR l).1.toArray⟩, .bool (tabsR l).2]) ∧ Below w.heap.size w w' := by
  unfold tabsR
  by_cases h : 16 < l.length
  · rw [if_pos h]
    exact tables15_big v l w hl h hv
  · rw [if_neg h]
    exact tables15_small v l w _ (by omega) hv rfl
theorem names16 (v : Value) (l : List Nm) (w : World) (hl : l.length ≤ 9223372036854775807) (htx : ∀ x ∈ l, x.tx.size ≤ 9223372036854775807) (hv : RowIs w v l.length (ncells l)) :
    Calls Tryd.prog 36 #[v] w fun e w' => e = .returned (.tuple #[.string ⟨(nmsR l).1.toArray⟩, .bool (nmsR l).2]) ∧ Below w.heap.size w w' := by
  unfold nmsR
  by_cases h : 20 < l.length
  · rw [if_pos h]
    exact names16_big v l w hl h hv
  · rw [if_neg h]
    exact names16_small v l w _ (by omega) htx hv rfl
theorem tabsGo_length : ∀ (l : List Tab) (acc : List UInt8), (tabsGo l acc).1.length ≤ acc.length + 7 * l.length
  | [], acc => by simp [tabsGo]
  | t :: r, acc => by
    rw [tabsGo]
    split
    · rename_i h
      have h4 : t.tag.size = 4 := by
        simp only [tabOk, Bool.and_eq_true, decide_eq_true_eq] at h
        exact h.1.1
      have h9 := tabsGo_length r (acc ++ t.tag.data.toList ++ oneL t.st.toNat ++ twoL t.sz.toNat)
      have e3 : t.tag.data.toList.length = t.tag.size := by simp
      have e4 : (acc ++ t.tag.data.toList ++ oneL t.st.toNat ++ twoL t.sz.toNat).length = acc.length + 7 := by
        simp only [List.length_append, oneL, twoL, List.length_cons, List.length_nil]
        omega
      simp only [List.length_cons]
      omega
    · simp
theorem tabsR_length (l : List Tab) : (tabsR l).1.length ≤ 200 := by
  unfold tabsR
  split
  · simp
  · have := tabsGo_length l (oneL l.length)
    have e : (oneL l.length).length = 1 := rfl
    omega
theorem nmsGo_length : ∀ (l : List Nm) (acc : List UInt8), (nmsGo l acc).1.length ≤ acc.length + 71 * l.length
  | [], acc => by simp [nmsGo]
  | x :: r, acc => by
    rw [nmsGo]
    split
    · rename_i h
      have h6 : x.tx.size ≤ 60 := by
        simp only [nmOk, Bool.and_eq_true] at h
        exact properB_size _ h.2
      have h9 := nmsGo_length r (acc ++ nmL x)
      have e3 : x.tx.data.toList.length = x.tx.size := by simp
      have e4 : (acc ++ nmL x).length ≤ acc.length + 71 := by
        simp only [List.length_append, nmL, oneL, twoL, List.length_cons, List.length_nil]
        omega
      simp only [List.length_cons]
      omega
    · simp
theorem nmsR_length (l : List Nm) : (nmsR l).1.length ≤ 2000 := by
  unfold nmsR
  split
  · simp
  · have := nmsGo_length l (oneL l.length)
    have e : (oneL l.length).length = 1 := rfl
    omega

def fourBA (n : Nat) : ByteArray := ⟨(fourL n).toArray⟩
theorem fourBA_size (n : Nat) : (fourBA n).size = 4 := rfl
theorem four20B (n : Nat) (hn : n < 4294967296) (w : World) (d : Nat) (os : Array Obj) : Calls Tryd.prog 40 #[.int .i64 (n : Int)] (grow (redrawn w d) os) fun e w'' => e = .returned (.string (fourBA n)) ∧ ∃ p : Regrown, w'' = grow (redrawn w p.d) p.os := Calls.regrown_of (four20 n _ hn)

theorem cellOn {w1 w2 : World} {g o : Nat} {u : Value} (h : w1.cell? ⟨g, o, none⟩ = some u) (hb : Below w1.heap.size w1 w2) : w2.cell? ⟨g, o, none⟩ = some u := by
  rw [hb.cell (p := ⟨g, o, none⟩) (cell_lt h)]
  exact h
theorem newAt {w w' : World} {cs : Array Value} {T : TypeId} (hb : Below (w.alloc (.cells cs T)).heap.size (w.alloc (.cells cs T)) w') (i : Nat) : w'.cell? ⟨w.heap.size, i, none⟩ = cs[i]? := by
  rw [hb.cell (p := ⟨w.heap.size, i, none⟩) (by simp), World.cell?_alloc_new]

def encOf (kind hs hf hu rs rv rb nm cs cf cc : Int) (t n : List UInt8 × Bool) : List UInt8 × Int :=
  if ((toB 3 kind && [hs, rs, nm, cs].all (toB 8)) && [hf, hu, rv, rb, cf].all (toB 65535)) && t.2 && n.2 && toB 1114112 cc then
    (oneL kind.toNat ++ t.1 ++ oneL hs.toNat ++ twoL hf.toNat ++ twoL hu.toNat ++ oneL rs.toNat ++ twoL rv.toNat ++ twoL rb.toNat ++ oneL nm.toNat ++ n.1 ++ oneL cs.toNat ++ twoL cf.toNat ++ fourL cc.toNat, 0)
  else ([], 5)

set_option maxRecDepth 100000 in
set_option maxHeartbeats 4000000 in
theorem encode7 (kind hs hf hu rs rv rb nm cs cf cc : Int) (T N : Value) (lt : List Tab) (ln : List Nm) (w : World)
    (hlt : lt.length ≤ 9223372036854775807) (hln : ln.length ≤ 9223372036854775807) (htx : ∀ x ∈ ln, x.tx.size ≤ 9223372036854775807) (hT : RowIs w T lt.length (tcells lt)) (hN : RowIs w N ln.length (ncells ln)) (r : List UInt8 × Int) (hr : encOf kind hs hf hu rs rv rb nm cs cf cc (tabsR lt) (nmsR ln) = r) :
    Calls Tryd.prog 15 #[.agg #[.int .i64 kind, T, .int .i64 hs, .int .i64 hf, .int .i64 hu, .int .i64 rs, .int .i64 rv, .int .i64 rb, .int .i64 nm, N, .int .i64 cs, .int .i64 cf, .int .i64 cc]] w fun e w' => e = .returned (.tuple #[.string ⟨r.1.toArray⟩, .int .i64 r.2]) ∧ Below w.heap.size w w' := by
  obtain ⟨ta, tb⟩ : ∃ x, tabsR lt = x := ⟨_, rfl⟩
  obtain ⟨na, nb⟩ : ∃ x, nmsR ln = x := ⟨_, rfl⟩
  have hl1 := tabsR_length lt
  have hl2 := nmsR_length ln
  rw [tb, nb] at hr
  have HR := Lib.hid hr
  clear hr
  rw [tb] at hl1
  rw [nb] at hl2
  have A := Lib.hid (fun w h => tables15 T lt w hlt h)
  have B := Lib.hid (fun w h => names16 N ln w hln htx h)
  rw [tb] at A
  rw [nb] at B
  obtain ⟨ta1, ta2⟩ := ta
  obtain ⟨na1, na2⟩ := na
  simp only at A B hl1 hl2
  have HT := Lib.hid hT
  have HN := Lib.hid hN
  have hTs : ∃ ao n cap, T = .slice ao n cap := by obtain ⟨ao, cap, h, _⟩ := hT; exact ⟨_, _, _, h⟩
  have hNs : ∃ ao n cap, N = .slice ao n cap := by obtain ⟨ao, cap, h, _⟩ := hN; exact ⟨_, _, _, h⟩
  obtain ⟨tao, tn, tcap, hTe⟩ := hTs
  obtain ⟨nao, nn, ncap, hNe⟩ := hNs
  subst hTe hNe
  clear hT hN tb nb
  go_enter Tryd.func15, Tryd.ntmps15
  go_wp2_with (go_at_call 35; refine (A.out _ (HT.out.on ((Below.refl _ _).alloc (Nat.le_refl _) _))).mono ?_; rintro e w1 ⟨rfl, hb1⟩; refine Hid.out ?_)
  have hbw1 := ((Below.refl w.heap.size w).alloc (Nat.le_refl _) (.cells #[.int .i64 kind, .slice tao tn tcap, .int .i64 hs, .int .i64 hf, .int .i64 hu, .int .i64 rs, .int .i64 rv, .int .i64 rb, .int .i64 nm, .slice nao nn ncap, .int .i64 cs, .int .i64 cf, .int .i64 cc] 37)).trans (hb1.mono (by simp))
  have d0 := newAt hb1 0
  have d1 := newAt hb1 1
  have d2 := newAt hb1 2
  have d3 := newAt hb1 3
  have d4 := newAt hb1 4
  have d5 := newAt hb1 5
  have d6 := newAt hb1 6
  have d7 := newAt hb1 7
  have d8 := newAt hb1 8
  have d9 := newAt hb1 9
  have d10 := newAt hb1 10
  have d11 := newAt hb1 11
  have d12 := newAt hb1 12
  simp only [List.getElem?_toArray, List.getElem?_cons_zero, List.getElem?_cons_succ] at d0 d1 d2 d3 d4 d5 d6 d7 d8 d9 d10 d11 d12
  refine Lib.hid ?_
  go_wp2_with (go_at_call 36; refine (B.out _ (HN.out.on hbw1)).mono ?_; rintro e w2 ⟨rfl, hb2⟩; refine Hid.out ?_)
  have hbw2 := hbw1.trans (hb2.mono hbw1.size)
  have f0 := cellOn d0 hb2
  have f1 := cellOn d1 hb2
  have f2 := cellOn d2 hb2
  have f3 := cellOn d3 hb2
  have f4 := cellOn d4 hb2
  have f5 := cellOn d5 hb2
  have f6 := cellOn d6 hb2
  have f7 := cellOn d7 hb2
  have f8 := cellOn d8 hb2
  have f9 := cellOn d9 hb2
  have f10 := cellOn d10 hb2
  have f11 := cellOn d11 hb2
  have f12 := cellOn d12 hb2
  refine Lib.hid ?_
  clear d0 d1 d2 d3 d4 d5 d6 d7 d8 d9 d10 d11 d12
  clear hb1 hb2 A B HT HN
  have hlt2 : w.heap.size < w2.heap.size := cell_lt f0
  have K3 := Lib.hid (fun w => to17 3 kind w)
  go_wp2_with (go_at_call 37; refine (K3.out _).mono ?_; rintro e w3 ⟨rfl, rfl⟩; refine Hid.out ?_)
  have hb3 : Below w2.heap.size w2 ((w2.alloc (.cells #[.int .i64 hs, .int .i64 rs, .int .i64 nm, .int .i64 cs] 3)).alloc (.cells #[.int .i64 hf, .int .i64 hu, .int .i64 rv, .int .i64 rb, .int .i64 cf] 3)) := ((Below.refl _ _).alloc (Nat.le_refl _) _).alloc (by simp) _
  have hbw3 := hbw2.trans (hb3.mono hbw2.size)
  obtain ⟨w3, hw3⟩ : ∃ w3, ((w2.alloc (.cells #[.int .i64 hs, .int .i64 rs, .int .i64 nm, .int .i64 cs] 3)).alloc (.cells #[.int .i64 hf, .int .i64 hu, .int .i64 rv, .int .i64 rb, .int .i64 cf] 3)) = w3 := ⟨_, rfl⟩
  have g0 : w3.cell? ⟨w2.heap.size, 0, none⟩ = some (.int .i64 hs) := by rw [← hw3]; simp
  have g1 : w3.cell? ⟨w2.heap.size, 1, none⟩ = some (.int .i64 rs) := by rw [← hw3]; simp
  have g2 : w3.cell? ⟨w2.heap.size, 2, none⟩ = some (.int .i64 nm) := by rw [← hw3]; simp
  have g3 : w3.cell? ⟨w2.heap.size, 3, none⟩ = some (.int .i64 cs) := by rw [← hw3]; simp
  have h0 : w3.cell? ⟨w2.heap.size + 1, 0, none⟩ = some (.int .i64 hf) := by rw [← hw3]; simp
  have h1 : w3.cell? ⟨w2.heap.size + 1, 1, none⟩ = some (.int .i64 hu) := by rw [← hw3]; simp
  have h2 : w3.cell? ⟨w2.heap.size + 1, 2, none⟩ = some (.int .i64 rv) := by rw [← hw3]; simp
  have h3 : w3.cell? ⟨w2.heap.size + 1, 3, none⟩ = some (.int .i64 rb) := by rw [← hw3]; simp
  have h4 : w3.cell? ⟨w2.heap.size + 1, 4, none⟩ = some (.int .i64 cf) := by rw [← hw3]; simp
  rw [hw3] at hb3 hbw3
  have x0 := cellOn f0 hb3
  have x1 := cellOn f1 hb3
  have x2 := cellOn f2 hb3
  have x3 := cellOn f3 hb3
  have x4 := cellOn f4 hb3
  have x5 := cellOn f5 hb3
  have x6 := cellOn f6 hb3
  have x7 := cellOn f7 hb3
  have x8 := cellOn f8 hb3
  have x9 := cellOn f9 hb3
  have x10 := cellOn f10 hb3
  have x11 := cellOn f11 hb3
  have x12 := cellOn f12 hb3
  obtain ⟨p1, hp1⟩ : ∃ p1, w2.heap.size = p1 := ⟨_, rfl⟩
  obtain ⟨p0, hp0⟩ : ∃ p0, w.heap.size = p0 := ⟨_, rfl⟩
  rw [hp1] at g0 g1 g2 g3 h0 h1 h2 h3 h4
  rw [hp0] at x0 x1 x2 x3 x4 x5 x6 x7 x8 x9 x10 x11 x12
  refine Lib.hid ?_
  rw [hw3, hp1, hp0]
  have HP := Lib.hid hp0
  clear hw3 hp1 hp0 hb3 hlt2 hbw1 hbw2 f0 f1 f2 f3 f4 f5 f6 f7 f8 f9 f10 f11 f12 K3
  have E0 := Lib.hid (fun w => to17 8 hs w)
  have E1 := Lib.hid (fun w => to17 8 rs w)
  have E2 := Lib.hid (fun w => to17 8 nm w)
  have E3 := Lib.hid (fun w => to17 8 cs w)
  go_wp2
  go_loopw [10, 11] (fun oks is wr => ∃ (k : Nat) (ok : Bool), oks = .bool ok ∧ is = .int .i64 k ∧ k ≤ 4 ∧ wr = w3 ∧ Hid (ok = (toB 3 kind && ([hs, rs, nm, cs].take k).all (toB 8)))) (fun _ is _ => 4 - (intOf is).toNat)
  case atStart => exact ⟨0, _, rfl, rfl, by omega, rfl, by show _ = _; simp⟩
  case round =>
    obtain ⟨k, ok, rfl, rfl, hk, rfl, HO⟩ := hrel
    have hk5 : k = 0 ∨ k = 1 ∨ k = 2 ∨ k = 3 ∨ k = 4 := by omega
    rcases hk5 with rfl | rfl | rfl | rfl | rfl
    · have KEY : Hid ((toB 3 kind && ([hs, rs, nm, cs].take 1).all (toB 8)) = ((toB 3 kind && ([hs, rs, nm, cs].take 0).all (toB 8)) && toB 8 hs)) := by show _ = _; simp [Bool.and_assoc]
      generalize toB 8 hs = b at *
      cases ok
      all_goals
        go_wp2_with (go_at_call 37; refine (E0.out _).mono ?_; rintro e w9 ⟨rfl, rfl⟩)
        refine ⟨⟨1, _, rfl, rfl, by omega, by first | rfl | trivial, ?_⟩, by simp [intOf]⟩
        show _ = _
        rw [KEY.out, ← HO.out]
        simp
    · have KEY : Hid ((toB 3 kind && ([hs, rs, nm, cs].take 2).all (toB 8)) = ((toB 3 kind && ([hs, rs, nm, cs].take 1).all (toB 8)) && toB 8 rs)) := by show _ = _; simp [Bool.and_assoc]
      generalize toB 8 rs = b at *
      cases ok
      all_goals
        go_wp2_with (go_at_call 37; refine (E1.out _).mono ?_; rintro e w9 ⟨rfl, rfl⟩)
        refine ⟨⟨2, _, rfl, rfl, by omega, by first | rfl | trivial, ?_⟩, by simp [intOf]⟩
        show _ = _
        rw [KEY.out, ← HO.out]
        simp
    · have KEY : Hid ((toB 3 kind && ([hs, rs, nm, cs].take 3).all (toB 8)) = ((toB 3 kind && ([hs, rs, nm, cs].take 2).all (toB 8)) && toB 8 nm)) := by show _ = _; simp [Bool.and_assoc]
      generalize toB 8 nm = b at *
      cases ok
      all_goals
        go_wp2_with (go_at_call 37; refine (E2.out _).mono ?_; rintro e w9 ⟨rfl, rfl⟩)
        refine ⟨⟨3, _, rfl, rfl, by omega, by first | rfl | trivial, ?_⟩, by simp [intOf]⟩
        show _ = _
        rw [KEY.out, ← HO.out]
        simp
    · have KEY : Hid ((toB 3 kind && ([hs, rs, nm, cs].take 4).all (toB 8)) = ((toB 3 kind && ([hs, rs, nm, cs].take 3).all (toB 8)) && toB 8 cs)) := by show _ = _; simp [Bool.and_assoc]
      generalize toB 8 cs = b at *
      cases ok
      all_goals
        go_wp2_with (go_at_call 37; refine (E3.out _).mono ?_; rintro e w9 ⟨rfl, rfl⟩)
        refine ⟨⟨4, _, rfl, rfl, by omega, by first | rfl | trivial, ?_⟩, by simp [intOf]⟩
        show _ = _
        rw [KEY.out, ← HO.out]
        simp
    · have ho := HO.out
      simp only [List.take] at ho
      obtain ⟨o1, ho1⟩ : ∃ o1, (toB 3 kind && [hs, rs, nm, cs].all (toB 8)) = o1 := ⟨_, rfl⟩
      rw [ho1] at ho
      subst ho
      have HO1 := Lib.hid ho1
      clear E0 E1 E2 E3 g0 g1 g2 g3 HO ho1
      have F0 := Lib.hid (fun w => to17 65535 hf w)
      have F1 := Lib.hid (fun w => to17 65535 hu w)
      have F2 := Lib.hid (fun w => to17 65535 rv w)
      have F3 := Lib.hid (fun w => to17 65535 rb w)
      have F4 := Lib.hid (fun w => to17 65535 cf w)
      go_wp2
      go_loopw [10, 13] (fun oks is wr' => ∃ (k : Nat) (ok2 : Bool), oks = .bool ok2 ∧ is = .int .i64 k ∧ k ≤ 5 ∧ wr' = wr ∧ Hid (ok2 = (ok && ([hf, hu, rv, rb, cf].take k).all (toB 65535)))) (fun _ is _ => 5 - (intOf is).toNat)
      case atStart => exact ⟨0, _, rfl, rfl, by omega, rfl, by show _ = _; simp⟩
      case round =>
        obtain ⟨k, ok2, rfl, rfl, hk, rfl, HO⟩ := hrel
        have hk5 : k = 0 ∨ k = 1 ∨ k = 2 ∨ k = 3 ∨ k = 4 ∨ k = 5 := by omega
        rcases hk5 with rfl | rfl | rfl | rfl | rfl | rfl
        · have KEY : Hid ((ok && ([hf, hu, rv, rb, cf].take 1).all (toB 65535)) = ((ok && ([hf, hu, rv, rb, cf].take 0).all (toB 65535)) && toB 65535 hf)) := by show _ = _; simp [Bool.and_assoc]
          generalize toB 65535 hf = b at *
          cases ok2
          all_goals
            go_wp2_with (go_at_call 37; refine (F0.out _).mono ?_; rintro e w9 ⟨rfl, rfl⟩)
            refine ⟨⟨_, _, _, _, _, _, _, _, _, _, _, _, _, _, _, _, _, _, ?_, rfl⟩, ?_⟩
            · refine ⟨1, _, rfl, rfl, by omega, trivial, ?_⟩
              show _ = _
              rw [KEY.out, ← HO.out]
              simp
            · simp [intOf]
        · have KEY : Hid ((ok && ([hf, hu, rv, rb, cf].take 2).all (toB 65535)) = ((ok && ([hf, hu, rv, rb, cf].take 1).all (toB 65535)) && toB 65535 hu)) := by show _ = _; simp [Bool.and_assoc]
          generalize toB 65535 hu = b at *
          cases ok2
          all_goals
            go_wp2_with (go_at_call 37; refine (F1.out _).mono ?_; rintro e w9 ⟨rfl, rfl⟩)
            refine ⟨⟨_, _, _, _, _, _, _, _, _, _, _, _, _, _, _, _, _, _, ?_, rfl⟩, ?_⟩
            · refine ⟨2, _, rfl, rfl, by omega, trivial, ?_⟩
              show _ = _
              rw [KEY.out, ← HO.out]
              simp
            · simp [intOf]
        · have KEY : Hid ((ok && ([hf, hu, rv, rb, cf].take 3).all (toB 65535)) = ((ok && ([hf, hu, rv, rb, cf].take 2).all (toB 65535)) && toB 65535 rv)) := by show _ = _; simp [Bool.and_assoc]
          generalize toB 65535 rv = b at *
          cases ok2
          all_goals
            go_wp2_with (go_at_call 37; refine (F2.out _).mono ?_; rintro e w9 ⟨rfl, rfl⟩)
            refine ⟨⟨_, _, _, _, _, _, _, _, _, _, _, _, _, _, _, _, _, _, ?_, rfl⟩, ?_⟩
            · refine ⟨3, _, rfl, rfl, by omega, trivial, ?_⟩
              show _ = _
              rw [KEY.out, ← HO.out]
              simp
            · simp [intOf]
        · have KEY : Hid ((ok && ([hf, hu, rv, rb, cf].take 4).all (toB 65535)) = ((ok && ([hf, hu, rv, rb, cf].take 3).all (toB 65535)) && toB 65535 rb)) := by show _ = _; simp [Bool.and_assoc]
          generalize toB 65535 rb = b at *
          cases ok2
          all_goals
            go_wp2_with (go_at_call 37; refine (F3.out _).mono ?_; rintro e w9 ⟨rfl, rfl⟩)
            refine ⟨⟨_, _, _, _, _, _, _, _, _, _, _, _, _, _, _, _, _, _, ?_, rfl⟩, ?_⟩
            · refine ⟨4, _, rfl, rfl, by omega, trivial, ?_⟩
              show _ = _
              rw [KEY.out, ← HO.out]
              simp
            · simp [intOf]
        · have KEY : Hid ((ok && ([hf, hu, rv, rb, cf].take 5).all (toB 65535)) = ((ok && ([hf, hu, rv, rb, cf].take 4).all (toB 65535)) && toB 65535 cf)) := by show _ = _; simp [Bool.and_assoc]
          generalize toB 65535 cf = b at *
          cases ok2
          all_goals
            go_wp2_with (go_at_call 37; refine (F4.out _).mono ?_; rintro e w9 ⟨rfl, rfl⟩)
            refine ⟨⟨_, _, _, _, _, _, _, _, _, _, _, _, _, _, _, _, _, _, ?_, rfl⟩, ?_⟩
            · refine ⟨5, _, rfl, rfl, by omega, trivial, ?_⟩
              show _ = _
              rw [KEY.out, ← HO.out]
              simp
            · simp [intOf]
        · have ho2 := HO.out
          simp only [List.take] at ho2
          have HO2 : Hid (ok2 = (ok && [hf, hu, rv, rb, cf].all (toB 65535))) := ho2
          have C := Lib.hid (fun w => to17 1114112 cc w)
          have HC := Lib.hid (fun h => toB_nat (top := 1114112) (n := cc) h)
          obtain ⟨cnt, hcnt⟩ : ∃ b, toB 1114112 cc = b := ⟨_, rfl⟩
          rw [hcnt] at C
          have h9 := HR.out
          unfold encOf at h9
          rw [HO1.out, ← HO2.out, hcnt] at h9
          simp only at h9
          have H9 := Lib.hid h9
          have HCNT := Lib.hid hcnt
          clear ho2 h9 hcnt HO F0 F1 F2 F3 F4 h0 h1 h2 h3 h4 HR
          go_wp2_with (go_at_call 37; refine (C.out _).mono ?_; rintro e w9 ⟨rfl, rfl⟩; refine Hid.out ?_)
          refine Lib.hid ?_
          cases ok2
          · have h2 := H9.out
            simp only [Bool.false_and, Bool.and_false, Bool.true_and, Bool.and_true, Bool.false_eq_true, if_false] at h2
            have H2 := Lib.hid h2
            clear h2
            go_wp2
            go_ret2
            refine ⟨?_, hbw3⟩
            rw [← H2.out]
            rfl
          cases ta2
          · have h2 := H9.out
            simp only [Bool.false_and, Bool.and_false, Bool.true_and, Bool.and_true, Bool.false_eq_true, if_false] at h2
            have H2 := Lib.hid h2
            clear h2
            go_wp2
            go_ret2
            refine ⟨?_, hbw3⟩
            rw [← H2.out]
            rfl
          cases na2
          · have h2 := H9.out
            simp only [Bool.false_and, Bool.and_false, Bool.true_and, Bool.and_true, Bool.false_eq_true, if_false] at h2
            have H2 := Lib.hid h2
            clear h2
            go_wp2
            go_ret2
            refine ⟨?_, hbw3⟩
            rw [← H2.out]
            rfl
          cases cnt
          · have h2 := H9.out
            simp only [Bool.false_and, Bool.and_false, Bool.true_and, Bool.and_true, Bool.false_eq_true, if_false] at h2
            have H2 := Lib.hid h2
            clear h2
            go_wp2
            go_ret2
            refine ⟨?_, hbw3⟩
            rw [← H2.out]
            rfl
          have q2 := HO2.out.symm
          simp only [Bool.and_eq_true, List.all_cons, List.all_nil, and_true] at q2
          obtain ⟨rfl, u1, u2, u3, u4, u5⟩ := q2
          have q1 := HO1.out
          simp only [Bool.and_eq_true, List.all_cons, List.all_nil, and_true] at q1
          obtain ⟨v0, v1, v2, v3, v4⟩ := q1
          obtain ⟨kind, rfl, e0⟩ := toB_nat v0
          obtain ⟨hs, rfl, e1⟩ := toB_nat v1
          obtain ⟨rs, rfl, e2⟩ := toB_nat v2
          obtain ⟨nm, rfl, e3⟩ := toB_nat v3
          obtain ⟨cs, rfl, e4⟩ := toB_nat v4
          obtain ⟨hf, rfl, e5⟩ := toB_nat u1
          obtain ⟨hu, rfl, e6⟩ := toB_nat u2
          obtain ⟨rv, rfl, e7⟩ := toB_nat u3
          obtain ⟨rb, rfl, e8⟩ := toB_nat u4
          obtain ⟨cf, rfl, e9⟩ := toB_nat u5
          obtain ⟨cc, rfl, e10⟩ := HC.out HCNT.out
          have h2 := H9.out
          simp only [Bool.and_true, if_true, Int.toNat_natCast] at h2
          have H2 := Lib.hid h2
          obtain ⟨TA, hTA⟩ : ∃ X : ByteArray, ByteArray.mk ta1.toArray = X := ⟨_, rfl⟩
          obtain ⟨NA, hNA⟩ : ∃ X : ByteArray, ByteArray.mk na1.toArray = X := ⟨_, rfl⟩
          have sTA : TA.size ≤ 200 := by rw [← hTA]; show ta1.toArray.size ≤ _; simpa using hl1
          have sNA : NA.size ≤ 2000 := by rw [← hNA]; show na1.toArray.size ≤ _; simpa using hl2
          rw [hTA, hNA]
          have HTA := Lib.hid hTA
          have HNA := Lib.hid hNA
          clear v0 v1 v2 v3 v4 u1 u2 u3 u4 u5 h2 hTA hNA H9 HO1 HO2 HC HCNT C
          have k0 := cell_regrown x0
          have k2 := cell_regrown x2
          have k3 := cell_regrown x3
          have k4 := cell_regrown x4
          have z0 := oneBA_size kind
          have z1 := oneBA_size hs
          have z2 := twoBA_size hf
          have z3 := twoBA_size hu
          have n1 : ¬ 9223372036854775807 < (oneBA kind).size + TA.size := by omega
          have n2 : ¬ 9223372036854775807 < (oneBA kind).size + TA.size + (oneBA hs).size := by omega
          have n3 : ¬ 9223372036854775807 < (oneBA kind).size + TA.size + (oneBA hs).size + (twoBA hf).size := by omega
          have n4 : ¬ 9223372036854775807 < (oneBA kind).size + TA.size + (oneBA hs).size + (twoBA hf).size + (twoBA hu).size := by omega
          clear z0 z1 z2 z3
          go_wp2
          refine wp_region_quiet_below (by kernel_rfl) (by kernel_rfl) ?_
          repeat (quiet_step (first | exact two19B _ (by omega) _ _ _ | exact one18B _ (by omega) _ _ _))
          refine wpQuiet_nil ?_
          intro wA hw'
          obtain ⟨⟨dq, osq⟩, hw''⟩ := hw'
          have hbA := below_regrown w9 dq osq
          rw [← hw''] at hbA
          clear hw'' n1 n2 n3 n4 k0 k2 k3 k4
          have hbwA := hbw3.trans (hbA.mono hbw3.size)
          obtain ⟨S1, hS1⟩ : ∃ X : ByteArray, oneBA kind ++ TA ++ oneBA hs ++ twoBA hf ++ twoBA hu = X := ⟨_, rfl⟩
          have sS1 : S1.size ≤ 210 := by
            rw [← hS1]
            simp only [ByteArray.size_append, oneBA_size, twoBA_size]
            omega
          rw [hS1]
          have HS1 := Lib.hid hS1
          have y5 := cellOn x5 hbA
          have y6 := cellOn x6 hbA
          have y7 := cellOn x7 hbA
          have y8 := cellOn x8 hbA
          have y10 := cellOn x10 hbA
          have y11 := cellOn x11 hbA
          have y12 := cellOn x12 hbA
          clear hS1 x0 x1 x2 x3 x4 x5 x6 x7 x8 x9 x10 x11 x12 hbA hbw3
          have k5 := cell_regrown y5
          have k6 := cell_regrown y6
          have k7 := cell_regrown y7
          have k8 := cell_regrown y8
          have z0 := oneBA_size rs
          have z1 := twoBA_size rv
          have z2 := twoBA_size rb
          have z3 := oneBA_size nm
          have n1 : ¬ 9223372036854775807 < S1.size + (oneBA rs).size := by omega
          have n2 : ¬ 9223372036854775807 < S1.size + (oneBA rs).size + (twoBA rv).size := by omega
          have n3 : ¬ 9223372036854775807 < S1.size + (oneBA rs).size + (twoBA rv).size + (twoBA rb).size := by omega
          have n4 : ¬ 9223372036854775807 < S1.size + (oneBA rs).size + (twoBA rv).size + (twoBA rb).size + (oneBA nm).size := by omega
          have n5 : ¬ 9223372036854775807 < S1.size + (oneBA rs).size + (twoBA rv).size + (twoBA rb).size + (oneBA nm).size + NA.size := by omega
          clear z0 z1 z2 z3
          go_wp2
          refine wp_region_quiet_below (by kernel_rfl) (by kernel_rfl) ?_
          repeat (quiet_step (first | exact two19B _ (by omega) _ _ _ | exact one18B _ (by omega) _ _ _))
          refine wpQuiet_nil ?_
          intro wB hw'
          obtain ⟨⟨dq2, osq2⟩, hw''⟩ := hw'
          have hbB := below_regrown wA dq2 osq2
          rw [← hw''] at hbB
          clear hw'' n1 n2 n3 n4 n5 k5 k6 k7 k8
          have hbwB := hbwA.trans (hbB.mono hbwA.size)
          obtain ⟨S2, hS2⟩ : ∃ X : ByteArray, S1 ++ oneBA rs ++ twoBA rv ++ twoBA rb ++ oneBA nm ++ NA = X := ⟨_, rfl⟩
          have sS2 : S2.size ≤ 2300 := by
            rw [← hS2]
            simp only [ByteArray.size_append, oneBA_size, twoBA_size]
            omega
          rw [hS2]
          have HS2 := Lib.hid hS2
          have v10 := cellOn y10 hbB
          have v11 := cellOn y11 hbB
          have v12 := cellOn y12 hbB
          clear hS2 y5 y6 y7 y8 y10 y11 y12 hbB hbwA
          have k10 := cell_regrown v10
          have k11 := cell_regrown v11
          have k12 := cell_regrown v12
          have z0 := oneBA_size cs
          have z1 := twoBA_size cf
          have z2 := fourBA_size cc
          have n1 : ¬ 9223372036854775807 < S2.size + (oneBA cs).size := by omega
          have n2 : ¬ 9223372036854775807 < S2.size + (oneBA cs).size + (twoBA cf).size := by omega
          have n3 : ¬ 9223372036854775807 < S2.size + (oneBA cs).size + (twoBA cf).size + (fourBA cc).size := by omega
          clear z0 z1 z2
          go_wp2
          refine wp_region_quiet_below (by kernel_rfl) (by kernel_rfl) ?_
          repeat (quiet_step (first | exact two19B _ (by omega) _ _ _ | exact one18B _ (by omega) _ _ _ | exact four20B _ (by omega) _ _ _))
          refine wpQuiet_nil ?_
          intro wC hw'
          obtain ⟨⟨dq3, osq3⟩, hw''⟩ := hw'
          have hbC := below_regrown wB dq3 osq3
          rw [← hw''] at hbC
          clear hw'' n1 n2 n3 k10 k11 k12
          have hbwC := hbwB.trans (hbC.mono hbwB.size)
          go_wp2
          go_ret2
          refine ⟨?_, ?_⟩
          · rw [← H2.out]
            have e1 : S2 ++ oneBA cs ++ twoBA cf ++ fourBA cc = ⟨(oneL kind ++ ta1 ++ oneL hs ++ twoL hf ++ twoL hu ++ oneL rs ++ twoL rv ++ twoL rb ++ oneL nm ++ na1 ++ oneL cs ++ twoL cf ++ fourL cc).toArray⟩ := by
              rw [← HS2.out, ← HS1.out, ← HTA.out, ← HNA.out]
              exact ByteArray.ext (by simp [oneBA, twoBA, fourBA])
            exact congrArg (fun b => Ending.returned (.tuple #[.string b, .int .i64 0])) e1
          · exact hbwC
end Go.Proofs.YteibjmlimcpaoaaDoor

set_option linter.unusedVariables false
set_option linter.unusedSimpArgs false
namespace Go.Proofs.YteibjmlimcpaoaaDoor

/-- no character of a text, as the decoder reads it, is harmful -/
def runesGo : Nat → List UInt8 → Bool
  | 0, _ => true
  | f + 1, l => if l = [] then true else if harmB ((Lib.decodeL l).1 : Int) then false else runesGo f (l.drop (Lib.decodeL l).2)
/-- the same, and each is one -/
def okGo : Nat → List UInt8 → Bool
  | 0, _ => true
  | f + 1, l => if l = [] then true else if (Lib.decodeL l).1 = 65533 ∧ (Lib.decodeL l).2 = 1 then false else if harmB ((Lib.decodeL l).1 : Int) then false else okGo f (l.drop (Lib.decodeL l).2)

theorem okGo_both : ∀ (f : Nat) (l : List UInt8), okGo f l = (Lib.validGoD f l && runesGo f l)
  | 0, l => rfl
  | f + 1, l => by
    rw [okGo, Lib.validGoD, runesGo, okGo_both f]
    by_cases h : l = []
    · simp [h]
    · rw [if_neg h, if_neg h, if_neg h]
      by_cases h2 : (Lib.decodeL l).1 = 65533 ∧ (Lib.decodeL l).2 = 1
      · rw [if_pos h2, if_pos h2]; rfl
      · rw [if_neg h2, if_neg h2]
        cases harmB ((Lib.decodeL l).1 : Int) <;> simp

theorem u8eq (x : Nat) (a : UInt8) : UInt8.ofNat x = a ↔ x % 256 = a.toNat := by
  rw [← UInt8.toNat_inj]
  simp

/-- the test of one character, over numbers -/
def stepN (n b0 b1 b2 b3 : Nat) : Option (Nat × Nat) :=
  if b0 < 128 then some (b0, 1)
  else if b0 < 192 then none
  else if b0 < 224 then (if 2 ≤ n ∧ b1 / 64 = 2 ∧ 128 ≤ b0 % 32 * 64 + b1 % 64 then some (b0 % 32 * 64 + b1 % 64, 2) else none)
  else if b0 < 240 then (if 3 ≤ n ∧ b1 / 64 = 2 ∧ b2 / 64 = 2 ∧ 2048 ≤ b0 % 16 * 4096 + b1 % 64 * 64 + b2 % 64 ∧ (b0 % 16 * 4096 + b1 % 64 * 64 + b2 % 64 < 55296 ∨ 57344 ≤ b0 % 16 * 4096 + b1 % 64 * 64 + b2 % 64) then some (b0 % 16 * 4096 + b1 % 64 * 64 + b2 % 64, 3) else none)
  else (if 4 ≤ n ∧ b0 < 248 ∧ b1 / 64 = 2 ∧ b2 / 64 = 2 ∧ b3 / 64 = 2 ∧ 65536 ≤ b0 % 8 * 262144 + b1 % 64 * 4096 + b2 % 64 * 64 + b3 % 64 ∧ b0 % 8 * 262144 + b1 % 64 * 4096 + b2 % 64 * 64 + b3 % 64 ≤ 1114111 then some (b0 % 8 * 262144 + b1 % 64 * 4096 + b2 % 64 * 64 + b3 % 64, 4) else none)

set_option maxHeartbeats 2000000 in
theorem stepN_decode (n b0 b1 b2 b3 : Nat) (h0 : b0 < 256) :
    (stepN n b0 b1 b2 b3 = none ∧ Lib.decodeN n b0 b1 b2 b3 = (65533, 1)) ∨ (∃ z k, stepN n b0 b1 b2 b3 = some (z, k) ∧ Lib.decodeN n b0 b1 b2 b3 = (z, k) ∧ ¬ (z = 65533 ∧ k = 1)) := by
  unfold stepN Lib.decodeN
  by_cases c1 : b0 < 128
  · right
    refine ⟨b0, 1, ?_, ?_, by omega⟩ <;> simp only [c1, if_true]
  by_cases c2 : b0 < 192
  · left
    simp only [c1, c2, if_false, if_true]
    rw [if_neg (by omega), if_neg (by omega), if_neg (by omega)]
    exact ⟨trivial, rfl⟩
  by_cases c3 : b0 < 224
  · simp only [c1, c2, c3, if_false, if_true]
    by_cases c : 2 ≤ n ∧ b1 / 64 = 2 ∧ 128 ≤ b0 % 32 * 64 + b1 % 64
    · right
      rw [if_pos c, if_pos (by omega), if_pos (by omega)]
      exact ⟨_, _, rfl, rfl, by omega⟩
    · left
      rw [if_neg c]
      refine ⟨rfl, ?_⟩
      by_cases d : b0 / 32 = 6 ∧ (1 < n ∧ b1 / 64 = 2)
      · rw [if_pos d, if_neg (by omega)]
      · rw [if_neg d, if_neg (by omega), if_neg (by omega)]
  by_cases c4 : b0 < 240
  · simp only [c1, c2, c3, c4, if_false, if_true]
    rw [if_neg (show ¬ (b0 / 32 = 6 ∧ (1 < n ∧ b1 / 64 = 2)) by omega)]
    by_cases c : 3 ≤ n ∧ b1 / 64 = 2 ∧ b2 / 64 = 2 ∧ 2048 ≤ b0 % 16 * 4096 + b1 % 64 * 64 + b2 % 64 ∧ (b0 % 16 * 4096 + b1 % 64 * 64 + b2 % 64 < 55296 ∨ 57344 ≤ b0 % 16 * 4096 + b1 % 64 * 64 + b2 % 64)
    · right
      rw [if_pos c, if_pos (by omega), if_pos (by omega)]
      exact ⟨_, _, rfl, rfl, by omega⟩
    · left
      rw [if_neg c]
      refine ⟨rfl, ?_⟩
      by_cases d : b0 / 16 = 14 ∧ (1 < n ∧ b1 / 64 = 2) ∧ (2 < n ∧ b2 / 64 = 2)
      · rw [if_pos d, if_neg (by omega)]
      · rw [if_neg d, if_neg (by omega)]
  · simp only [c1, c2, c3, c4, if_false, if_true]
    rw [if_neg (show ¬ (b0 / 32 = 6 ∧ (1 < n ∧ b1 / 64 = 2)) by omega), if_neg (show ¬ (b0 / 16 = 14 ∧ (1 < n ∧ b1 / 64 = 2) ∧ (2 < n ∧ b2 / 64 = 2)) by omega)]
    by_cases c : 4 ≤ n ∧ b0 < 248 ∧ b1 / 64 = 2 ∧ b2 / 64 = 2 ∧ b3 / 64 = 2 ∧ 65536 ≤ b0 % 8 * 262144 + b1 % 64 * 4096 + b2 % 64 * 64 + b3 % 64 ∧ b0 % 8 * 262144 + b1 % 64 * 4096 + b2 % 64 * 64 + b3 % 64 ≤ 1114111
    · right
      rw [if_pos c, if_pos (by omega), if_pos (by omega)]
      exact ⟨_, _, rfl, rfl, by omega⟩
    · left
      rw [if_neg c]
      refine ⟨rfl, ?_⟩
      by_cases d : b0 / 8 = 30 ∧ (1 < n ∧ b1 / 64 = 2) ∧ (2 < n ∧ b2 / 64 = 2) ∧ (3 < n ∧ b3 / 64 = 2)
      · rw [if_pos d, if_neg (by omega)]
      · rw [if_neg d]

theorem take1 : ∀ (l : List UInt8), 1 ≤ l.length → l.take 1 = [l.getD 0 0]
  | a :: l, _ => rfl
theorem take2 : ∀ (l : List UInt8), 2 ≤ l.length → l.take 2 = [l.getD 0 0, l.getD 1 0]
  | a :: b :: l, _ => rfl
theorem take3 : ∀ (l : List UInt8), 3 ≤ l.length → l.take 3 = [l.getD 0 0, l.getD 1 0, l.getD 2 0]
  | a :: b :: c :: l, _ => rfl
theorem take4 : ∀ (l : List UInt8), 4 ≤ l.length → l.take 4 = [l.getD 0 0, l.getD 1 0, l.getD 2 0, l.getD 3 0]
  | a :: b :: c :: d :: l, _ => rfl

/-- the document's test of one character -/
def stepD (l : List UInt8) : Bool :=
  let k := widthOf (l.getD 0 0).toNat
  let z := decT k l k
  decide (k ≤ l.length ∧ z ≤ 1114111 ∧ ¬ (55296 ≤ z ∧ z ≤ 57343) ∧ utf8L z = l.take k)

set_option maxHeartbeats 2000000 in
theorem stepD_N (l : List UInt8) (h : 0 < l.length) :
    (stepD l = false ∧ stepN l.length (l.getD 0 0).toNat (l.getD 1 0).toNat (l.getD 2 0).toNat (l.getD 3 0).toNat = none) ∨
    (stepD l = true ∧ stepN l.length (l.getD 0 0).toNat (l.getD 1 0).toNat (l.getD 2 0).toNat (l.getD 3 0).toNat = some (decT (widthOf (l.getD 0 0).toNat) l (widthOf (l.getD 0 0).toNat), widthOf (l.getD 0 0).toNat)) := by
  have B0 := (l.getD 0 0).toNat_lt
  have B1 := (l.getD 1 0).toNat_lt
  have B2 := (l.getD 2 0).toNat_lt
  have B3 := (l.getD 3 0).toNat_lt
  unfold stepD
  by_cases c1 : (l.getD 0 0).toNat < 128
  · have hw : widthOf (l.getD 0 0).toNat = 1 := by unfold widthOf; rw [if_neg (by omega), if_neg (by omega), if_neg (by omega)]
    right
    rw [hw]
    have hz : decT 1 l 1 = (l.getD 0 0).toNat := rfl
    simp only [hz]
    refine ⟨decide_eq_true ⟨by omega, by omega, by omega, ?_⟩, ?_⟩
    · rw [take1 l (by omega)]
      unfold utf8L
      rw [if_pos c1]
      congr 1
      rw [u8eq]
      omega
    · unfold stepN; rw [if_pos c1]
  by_cases c2 : (l.getD 0 0).toNat < 192
  · have hw : widthOf (l.getD 0 0).toNat = 1 := by unfold widthOf; rw [if_neg (by omega), if_neg (by omega), if_neg (by omega)]
    left
    rw [hw]
    have hz : decT 1 l 1 = (l.getD 0 0).toNat := rfl
    simp only [hz]
    refine ⟨decide_eq_false ?_, ?_⟩
    · rintro ⟨_, _, _, e⟩
      rw [take1 l (by omega)] at e
      unfold utf8L at e
      rw [if_neg c1, if_pos (by omega)] at e
      simp at e
    · unfold stepN; rw [if_neg c1, if_pos c2]
  by_cases c3 : (l.getD 0 0).toNat < 224
  · have hw : widthOf (l.getD 0 0).toNat = 2 := by unfold widthOf; rw [if_neg (by omega), if_neg (by omega), if_pos (by omega)]
    rw [hw]
    have hz : decT 2 l 2 = (l.getD 0 0).toNat % 32 * 64 + (l.getD 1 0).toNat % 64 := by
      rw [decT_step 2 l 1 (by omega), decT_one, if_neg (by decide)]
      show 64 * ((l.getD 0 0).toNat % 32) + _ = _
      omega
    simp only [hz]
    unfold stepN
    rw [if_neg c1, if_neg c2, if_pos c3]
    by_cases c : 2 ≤ l.length ∧ (l.getD 1 0).toNat / 64 = 2 ∧ 128 ≤ (l.getD 0 0).toNat % 32 * 64 + (l.getD 1 0).toNat % 64
    · right
      rw [if_pos c]
      refine ⟨decide_eq_true ⟨by omega, by omega, by omega, ?_⟩, rfl⟩
      rw [take2 l (by omega)]
      unfold utf8L
      rw [if_neg (by omega), if_pos (by omega)]
      have e1 := (u8eq (192 + ((l.getD 0 0).toNat % 32 * 64 + (l.getD 1 0).toNat % 64) / 64) (l.getD 0 0)).2 (by omega)
      have e2 := (u8eq (128 + ((l.getD 0 0).toNat % 32 * 64 + (l.getD 1 0).toNat % 64) % 64) (l.getD 1 0)).2 (by omega)
      rw [e1, e2]
    · left
      rw [if_neg c]
      refine ⟨decide_eq_false ?_, rfl⟩
      rintro ⟨h1, _, _, e⟩
      rw [take2 l h1] at e
      unfold utf8L at e
      by_cases d : (l.getD 0 0).toNat % 32 * 64 + (l.getD 1 0).toNat % 64 < 128
      · rw [if_pos d] at e
        simp at e
      · rw [if_neg d, if_pos (by omega)] at e
        simp only [List.cons.injEq, and_true] at e
        have e2 := (u8eq _ _).1 e.2
        omega
  by_cases c4 : (l.getD 0 0).toNat < 240
  · have hw : widthOf (l.getD 0 0).toNat = 3 := by unfold widthOf; rw [if_neg (by omega), if_pos (by omega)]
    rw [hw]
    have hz : decT 3 l 3 = (l.getD 0 0).toNat % 16 * 4096 + (l.getD 1 0).toNat % 64 * 64 + (l.getD 2 0).toNat % 64 := by
      rw [decT_step 3 l 2 (by omega), decT_step 3 l 1 (by omega), decT_one, if_neg (by decide)]
      show 64 * (64 * ((l.getD 0 0).toNat % 16) + _) + _ = _
      omega
    simp only [hz]
    unfold stepN
    rw [if_neg c1, if_neg c2, if_neg c3, if_pos c4]
    obtain ⟨Z, hZ⟩ : ∃ Z, (l.getD 0 0).toNat % 16 * 4096 + (l.getD 1 0).toNat % 64 * 64 + (l.getD 2 0).toNat % 64 = Z := ⟨_, rfl⟩
    rw [hZ]
    by_cases c : 3 ≤ l.length ∧ (l.getD 1 0).toNat / 64 = 2 ∧ (l.getD 2 0).toNat / 64 = 2 ∧ 2048 ≤ Z ∧ (Z < 55296 ∨ 57344 ≤ Z)
    · right
      rw [if_pos c]
      refine ⟨decide_eq_true ⟨by omega, by omega, by omega, ?_⟩, rfl⟩
      rw [take3 l (by omega)]
      unfold utf8L
      rw [if_neg (by omega), if_neg (by omega), if_pos (by omega)]
      have e1 := (u8eq (224 + Z / 4096) (l.getD 0 0)).2 (by omega)
      have e2 := (u8eq (128 + Z / 64 % 64) (l.getD 1 0)).2 (by omega)
      have e3 := (u8eq (128 + Z % 64) (l.getD 2 0)).2 (by omega)
      rw [e1, e2, e3]
    · left
      rw [if_neg c]
      refine ⟨decide_eq_false ?_, rfl⟩
      rintro ⟨h1, h2, h3, e⟩
      rw [take3 l h1] at e
      unfold utf8L at e
      by_cases d : Z < 128
      · rw [if_pos d] at e
        simp at e
      by_cases d2 : Z < 2048
      · rw [if_neg d, if_pos d2] at e
        simp at e
      · rw [if_neg d, if_neg d2, if_pos (by omega)] at e
        simp only [List.cons.injEq, and_true] at e
        have e2 := (u8eq _ _).1 e.2.1
        have e3 := (u8eq _ _).1 e.2.2
        omega
  · have hw : widthOf (l.getD 0 0).toNat = 4 := by unfold widthOf; rw [if_pos (by omega)]
    rw [hw]
    have hz : decT 4 l 4 = (l.getD 0 0).toNat % 8 * 262144 + (l.getD 1 0).toNat % 64 * 4096 + (l.getD 2 0).toNat % 64 * 64 + (l.getD 3 0).toNat % 64 := by
      rw [decT_step 4 l 3 (by omega), decT_step 4 l 2 (by omega), decT_step 4 l 1 (by omega), decT_one, if_neg (by decide)]
      show 64 * (64 * (64 * ((l.getD 0 0).toNat % 8) + _) + _) + _ = _
      omega
    simp only [hz]
    unfold stepN
    rw [if_neg c1, if_neg c2, if_neg c3, if_neg c4]
    obtain ⟨Z, hZ⟩ : ∃ Z, (l.getD 0 0).toNat % 8 * 262144 + (l.getD 1 0).toNat % 64 * 4096 + (l.getD 2 0).toNat % 64 * 64 + (l.getD 3 0).toNat % 64 = Z := ⟨_, rfl⟩
    rw [hZ]
    by_cases c : 4 ≤ l.length ∧ (l.getD 0 0).toNat < 248 ∧ (l.getD 1 0).toNat / 64 = 2 ∧ (l.getD 2 0).toNat / 64 = 2 ∧ (l.getD 3 0).toNat / 64 = 2 ∧ 65536 ≤ Z ∧ Z ≤ 1114111
    · right
      rw [if_pos c]
      refine ⟨decide_eq_true ⟨by omega, by omega, by omega, ?_⟩, rfl⟩
      rw [take4 l (by omega)]
      unfold utf8L
      rw [if_neg (by omega), if_neg (by omega), if_neg (by omega)]
      have e1 := (u8eq (240 + Z / 262144) (l.getD 0 0)).2 (by omega)
      have e2 := (u8eq (128 + Z / 4096 % 64) (l.getD 1 0)).2 (by omega)
      have e3 := (u8eq (128 + Z / 64 % 64) (l.getD 2 0)).2 (by omega)
      have e4 := (u8eq (128 + Z % 64) (l.getD 3 0)).2 (by omega)
      rw [e1, e2, e3, e4]
    · left
      rw [if_neg c]
      refine ⟨decide_eq_false ?_, rfl⟩
      rintro ⟨h1, h2, h3, e⟩
      rw [take4 l h1] at e
      unfold utf8L at e
      by_cases d : Z < 128
      · rw [if_pos d] at e
        simp at e
      by_cases d2 : Z < 2048
      · rw [if_neg d, if_pos d2] at e
        simp at e
      by_cases d3 : Z < 65536
      · rw [if_neg d, if_neg d2, if_pos d3] at e
        simp at e
      · rw [if_neg d, if_neg d2, if_neg d3] at e
        simp only [List.cons.injEq, and_true] at e
        have e1 := (u8eq _ _).1 e.1
        have e2 := (u8eq _ _).1 e.2.1
        have e3 := (u8eq _ _).1 e.2.2.1
        have e4 := (u8eq _ _).1 e.2.2.2
        omega

theorem properGo_ok (f : Nat) : ∀ (l : List UInt8), l.length ≤ f → properGo f l = okGo f l := by
  induction f with
  | zero => intro l h; rfl
  | succ f ih =>
    intro l h
    by_cases hne : l = []
    · subst hne; rfl
    have hp : 0 < l.length := List.length_pos_iff.2 hne
    obtain ⟨K, hK⟩ : ∃ K, widthOf (l.getD 0 0).toNat = K := ⟨_, rfl⟩
    obtain ⟨Z, hZ⟩ : ∃ Z, decT K l K = Z := ⟨_, rfl⟩
    have hst := properGo_step (f + 1) l hp h K Z hK hZ
    have hok : okGo (f + 1) l = if (Lib.decodeL l).1 = 65533 ∧ (Lib.decodeL l).2 = 1 then false else if harmB ((Lib.decodeL l).1 : Int) then false else okGo f (l.drop (Lib.decodeL l).2) := by
      rw [okGo, if_neg hne]
    have hd := Lib.decodeL_N l
    have h9 := stepN_decode l.length (l.getD 0 0).toNat (l.getD 1 0).toNat (l.getD 2 0).toNat (l.getD 3 0).toNat (l.getD 0 0).toNat_lt
    rw [← hd] at h9
    have h8 := stepD_N l hp
    unfold stepD at h8
    simp only [hK, hZ] at h8
    have hwp : 1 ≤ K := by rw [← hK]; unfold widthOf; split; omega; split; omega; split <;> omega
    rw [hst, hok]
    rcases h8 with ⟨d1, d2⟩ | ⟨d1, d2⟩
    · rcases h9 with ⟨e1, e2⟩ | ⟨z, k, e1, e2, e3⟩
      · rw [e2, if_pos (show ((65533, 1) : Nat × Nat).1 = 65533 ∧ ((65533, 1) : Nat × Nat).2 = 1 from ⟨rfl, rfl⟩)]
        have d3 := of_decide_eq_false d1
        by_cases q1 : l.length < K
        · rw [if_pos q1]
        rw [if_neg q1]
        split
        · rfl
        by_cases q2 : 1114111 < Z
        · rw [if_pos q2]
        rw [if_neg q2]
        by_cases q3 : 55296 ≤ Z ∧ Z ≤ 57343
        · rw [if_pos q3]
        rw [if_neg q3]
        by_cases q4 : utf8L Z = l.take K
        · exact absurd ⟨by omega, by omega, q3, q4⟩ d3
        · rw [if_pos q4]
      · rw [d2] at e1; cases e1
    · rcases h9 with ⟨e1, e2⟩ | ⟨z, k, e1, e2, e3⟩
      · rw [d2] at e1; cases e1
      · rw [d2] at e1
        simp only [Option.some.injEq, Prod.mk.injEq] at e1
        obtain ⟨rfl, rfl⟩ := e1
        rw [e2, if_neg (show ¬ ((Z, K).1 = 65533 ∧ (Z, K).2 = 1) from e3)]
        obtain ⟨f1, f2, f3, f4⟩ := of_decide_eq_true d1
        have ih' := ih (l.drop K) (by rw [List.length_drop]; omega)
        rw [if_neg (by omega)]
        split
        · rfl
        · rw [if_neg (show ¬ 1114111 < Z by omega)]
          first | rw [if_neg f3] | skip
          rw [if_neg (by rw [f4]; simp)]
          exact ih'

theorem properB_eq (l : List UInt8) : properB l = (if 60 < l.length then false else (Lib.validD l && runesGo l.length l)) := by
  unfold properB
  rw [properGo_ok _ _ (Nat.le_refl _), okGo_both]
  rfl
end Go.Proofs.YteibjmlimcpaoaaDoor
