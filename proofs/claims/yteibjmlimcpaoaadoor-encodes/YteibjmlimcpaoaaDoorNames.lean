/-
  What visorref.names answers, for every list of names wherever it lies; nothing that lay in memory turns.
-/
import Derived.Test.YteibjmlimcpaoaaDoorTabs
import Derived.Test.YteibjmlimcpaoaaDoorProper
set_option linter.unusedVariables false
set_option linter.unusedSimpArgs false
namespace Go.Proofs.YteibjmlimcpaoaaDoor
open Go.RowKit Go.Sort

theorem proper26 (s : ByteArray) (w : World) (hm : s.size ≤ 9223372036854775807) :
    Calls Tryd.prog 58 #[.string s] w fun e w' => e = .returned (.bool (properB s.data.toList)) ∧ Below w.heap.size w w' := by
  have hl : s.data.toList.length = s.size := by simp
  unfold properB
  rw [hl]
  by_cases h : 60 < s.size
  · rw [if_pos h]
    exact proper26_big s w h hm
  · rw [if_neg h]
    exact proper26_small s w _ (by omega) rfl
theorem properB_size (s : ByteArray) (h : properB s.data.toList = true) : s.size ≤ 60 := by
  have hl : s.data.toList.length = s.size := by simp
  unfold properB at h
  rw [hl] at h
  by_cases hb : 60 < s.size
  · rw [if_pos hb] at h
    cases h
  · omega

def oneBA (n : Nat) : ByteArray := ⟨(oneL n).toArray⟩
def twoBA (n : Nat) : ByteArray := ⟨(twoL n).toArray⟩
theorem oneBA_size (n : Nat) : (oneBA n).size = 1 := rfl
theorem twoBA_size (n : Nat) : (twoBA n).size = 2 := rfl
theorem one18B (n : Nat) (hn : n < 256) (w : World) (d : Nat) (os : Array Obj) : Calls Tryd.prog 38 #[.int .i64 (n : Int)] (grow (redrawn w d) os) fun e w'' => e = .returned (.string (oneBA n)) ∧ ∃ p : Regrown, w'' = grow (redrawn w p.d) p.os := Calls.regrown_of (one18 n _ hn)
theorem two19B (n : Nat) (hn : n < 4294967296) (w : World) (d : Nat) (os : Array Obj) : Calls Tryd.prog 39 #[.int .i64 (n : Int)] (grow (redrawn w d) os) fun e w'' => e = .returned (.string (twoBA n)) ∧ ∃ p : Regrown, w'' = grow (redrawn w p.d) p.os := Calls.regrown_of (two19 n _ hn)

def ncells : List Nm → List Value
  | [] => []
  | x :: r => .int .i64 x.pl :: .int .i64 x.en :: .int .i64 x.la :: .int .i64 x.id :: .int .i64 x.st :: .int .i64 x.ms :: .string x.tx :: ncells r
theorem ncells_at : ∀ (l : List Nm) (k : Nat) (x : Nm), l[k]? = some x → (ncells l)[k * 7]? = some (.int .i64 x.pl) ∧ (ncells l)[k * 7 + 1]? = some (.int .i64 x.en) ∧ (ncells l)[k * 7 + 2]? = some (.int .i64 x.la) ∧ (ncells l)[k * 7 + 3]? = some (.int .i64 x.id) ∧ (ncells l)[k * 7 + 4]? = some (.int .i64 x.st) ∧ (ncells l)[k * 7 + 5]? = some (.int .i64 x.ms) ∧ (ncells l)[k * 7 + 6]? = some (.string x.tx)
  | [], k, t, h => by simp at h
  | x :: l, 0, t, h => by
    simp at h
    subst h
    exact ⟨rfl, rfl, rfl, rfl, rfl, rfl, rfl⟩
  | x :: l, k + 1, t, h => by
    have := ncells_at l k t (by simpa using h)
    rw [show (k + 1) * 7 = k * 7 + 7 by omega]
    exact this

def nmOk (x : Nm) : Bool := toB 65535 x.pl && toB 65535 x.en && toB 65535 x.la && toB 65535 x.id && toB 8 x.st && toB 7 x.ms && properB x.tx.data.toList
def nmL (x : Nm) : List UInt8 := twoL x.pl.toNat ++ twoL x.en.toNat ++ twoL x.la.toNat ++ twoL x.id.toNat ++ oneL x.st.toNat ++ oneL x.ms.toNat ++ oneL x.tx.size ++ x.tx.data.toList
def nmsGo : List Nm → List UInt8 → List UInt8 × Bool
  | [], acc => (acc, true)
  | x :: r, acc => if nmOk x then nmsGo r (acc ++ nmL x) else ([], false)
def nmsR (l : List Nm) : List UInt8 × Bool := if 20 < l.length then ([], false) else nmsGo l (oneL l.length)

theorem new7 {wr w5 : World} {x0 x1 x2 x3 x4 x5 x6 : Value} (hb : Below (wr.alloc (.cells #[x0, x1, x2, x3, x4, x5, x6] 79)).heap.size (wr.alloc (.cells #[x0, x1, x2, x3, x4, x5, x6] 79)) w5) :
    w5.cell? ⟨wr.heap.size, 0, none⟩ = some x0 ∧ w5.cell? ⟨wr.heap.size, 1, none⟩ = some x1 ∧ w5.cell? ⟨wr.heap.size, 2, none⟩ = some x2 ∧ w5.cell? ⟨wr.heap.size, 3, none⟩ = some x3 ∧ w5.cell? ⟨wr.heap.size, 4, none⟩ = some x4 ∧ w5.cell? ⟨wr.heap.size, 5, none⟩ = some x5 ∧ w5.cell? ⟨wr.heap.size, 6, none⟩ = some x6 := by
  have h : ∀ i, w5.cell? ⟨wr.heap.size, i, none⟩ = (wr.alloc (.cells #[x0, x1, x2, x3, x4, x5, x6] 79)).cell? ⟨wr.heap.size, i, none⟩ := fun i => hb.cell (p := ⟨wr.heap.size, i, none⟩) (by simp)
  refine ⟨?_, ?_, ?_, ?_, ?_, ?_, ?_⟩ <;> (rw [h, World.cell?_alloc_new]; rfl)

theorem toB_nat {top n : Int} (h : toB top n = true) : ∃ k : Nat, n = k ∧ (k : Int) ≤ top := by
  simp only [toB, decide_eq_true_eq] at h
  exact ⟨n.toNat, by omega, by omega⟩

set_option maxRecDepth 100000 in
set_option maxHeartbeats 2000000 in
theorem names16_big (v : Value) (l : List Nm) (w : World) (hl : l.length ≤ 9223372036854775807) (hb : 20 < l.length) (hv : RowIs w v l.length (ncells l)) :
    Calls Tryd.prog 36 #[v] w fun e w' => e = .returned (.tuple #[.string ⟨#[]⟩, .bool false]) ∧ Below w.heap.size w w' := by
  obtain ⟨ao, cap, rfl, _⟩ := hv
  have hb' : (20 : Int) < (l.length : Int) := by omega
  go_enter Tryd.func36, Tryd.ntmps36
  go_wp2
  go_ret2
  exact ⟨rfl, Below.refl _ _⟩

set_option maxRecDepth 100000 in
set_option maxHeartbeats 4000000 in
theorem names16_small (v : Value) (l : List Nm) (w : World) (r : List UInt8 × Bool) (hl : l.length ≤ 20) (htx : ∀ x ∈ l, x.tx.size ≤ 9223372036854775807) (hv : RowIs w v l.length (ncells l)) (hr : nmsGo l (oneL l.length) = r) :
    Calls Tryd.prog 36 #[v] w fun e w' => e = .returned (.tuple #[.string ⟨r.1.toArray⟩, .bool r.2]) ∧ Below w.heap.size w w' := by
  have hl' : ¬ (20 : Int) < (l.length : Int) := by omega
  have O := Lib.hid (one18 l.length w (by omega))
  have HR := Lib.hid hr
  have HV := Lib.hid hv
  have HTX := Lib.hid htx
  have lo : (oneL l.length).length = 1 := rfl
  generalize oneL l.length = o1 at *
  clear hr htx
  obtain ⟨ao, cap, rfl, hcell⟩ := hv
  clear hcell
  go_enter Tryd.func36, Tryd.ntmps36
  go_wp2_with (go_at_call 38; refine O.out.mono ?_; rintro e w1 ⟨rfl, hb1⟩)
  go_loopw [4, 5] (fun ss is wr => ∃ (k : Nat) (acc : List UInt8), ss = .string ⟨acc.toArray⟩ ∧ is = .int .i64 k ∧ k ≤ l.length ∧ Below w.heap.size w wr ∧ acc.length ≤ 1 + 71 * k ∧ Hid (nmsGo (l.drop k) acc = r)) (fun _ is _ => l.length - (intOf is).toNat)
  case atStart => exact ⟨0, o1, rfl, rfl, Nat.zero_le _, hb1, by omega, HR⟩
  case round =>
    obtain ⟨k, acc, rfl, rfl, hk, hbw, hal, H⟩ := hrel
    by_cases hlt : k < l.length
    · obtain ⟨_, _, hao, hcell⟩ := HV.out.on hbw
      cases hao
      obtain ⟨g, o, rfl, hcl⟩ := hcell (by omega)
      obtain ⟨⟨pl, en, la, id, st, ms, tx⟩, hx⟩ : ∃ x, l[k]? = some x := ⟨_, List.getElem?_eq_getElem hlt⟩
      have htx := HTX.out _ (List.mem_of_getElem? hx)
      obtain ⟨t0, t1, t2, t3, t4, t5, t6⟩ := ncells_at l k _ hx
      have c0 := hcl _ _ t0
      have c1 := hcl _ _ t1
      have c2 := hcl _ _ t2
      have c3 := hcl _ _ t3
      have c4 := hcl _ _ t4
      have c5 := hcl _ _ t5
      have c6 := hcl _ _ t6
      simp only at c0 c1 c2 c3 c4 c5 c6 htx
      rw [← Nat.add_assoc] at c1 c2 c3 c4 c5 c6
      have hdr : l.drop k = ⟨pl, en, la, id, st, ms, tx⟩ :: l.drop (k + 1) := by
        rw [List.drop_eq_getElem_cons hlt]
        congr 1
        exact Option.some.inj ((List.getElem?_eq_getElem hlt).symm.trans hx)
      have h1 := H.out
      rw [hdr, nmsGo] at h1
      have H1 := Lib.hid h1
      have hok : Hid (nmOk ⟨pl, en, la, id, st, ms, tx⟩ = (toB 65535 pl && toB 65535 en && toB 65535 la && toB 65535 id && toB 8 st && toB 7 ms && properB tx.data.toList)) := rfl
      clear hcell hcl t0 t1 t2 t3 t4 t5 t6 hdr H hx h1
      have T0 := Lib.hid (fun w => to17 65535 pl w)
      have T1 := Lib.hid (fun w => to17 65535 en w)
      have T2 := Lib.hid (fun w => to17 65535 la w)
      have T3 := Lib.hid (fun w => to17 65535 id w)
      have T4 := Lib.hid (fun w => to17 8 st w)
      have T5 := Lib.hid (fun w => to17 7 ms w)
      have P := Lib.hid (fun w => proper26 tx w htx)
      have B0 := Lib.hid (fun h => toB_nat (top := 65535) (n := pl) h)
      have B1 := Lib.hid (fun h => toB_nat (top := 65535) (n := en) h)
      have B2 := Lib.hid (fun h => toB_nat (top := 65535) (n := la) h)
      have B3 := Lib.hid (fun h => toB_nat (top := 65535) (n := id) h)
      have B4 := Lib.hid (fun h => toB_nat (top := 8) (n := st) h)
      have B5 := Lib.hid (fun h => toB_nat (top := 7) (n := ms) h)
      have B6 := Lib.hid (fun h => properB_size tx h)
      generalize toB 65535 pl = b0 at *
      generalize toB 65535 en = b1 at *
      generalize toB 65535 la = b2 at *
      generalize toB 65535 id = b3 at *
      generalize toB 8 st = b4 at *
      generalize toB 7 ms = b5 at *
      generalize properB tx.data.toList = b6 at *
      go_wp2_with (go_at_call 37; refine (T0.out _).mono ?_; rintro e w4 ⟨rfl, rfl⟩; refine Hid.out ?_)
      refine Lib.hid ?_
      go_wp2_with (go_at_call 37; refine (T1.out _).mono ?_; rintro e w4 ⟨rfl, rfl⟩; refine Hid.out ?_)
      refine Lib.hid ?_
      go_wp2_with (go_at_call 37; refine (T2.out _).mono ?_; rintro e w4 ⟨rfl, rfl⟩; refine Hid.out ?_)
      refine Lib.hid ?_
      go_wp2_with (go_at_call 37; refine (T3.out _).mono ?_; rintro e w4 ⟨rfl, rfl⟩; refine Hid.out ?_)
      refine Lib.hid ?_
      go_wp2_with (go_at_call 37; refine (T4.out _).mono ?_; rintro e w4 ⟨rfl, rfl⟩; refine Hid.out ?_)
      refine Lib.hid ?_
      go_wp2_with (go_at_call 37; refine (T5.out _).mono ?_; rintro e w4 ⟨rfl, rfl⟩; refine Hid.out ?_)
      refine Lib.hid ?_
      go_wp2_with (go_at_call 58; refine (P.out _).mono ?_; rintro e w5 ⟨rfl, hb5⟩; refine Hid.out ?_)
      have hbw5 := (hbw.alloc hbw.size _).trans (hb5.mono (by have := hbw.size; simp; omega))
      obtain ⟨d0, d1, d2, d3, d4, d5, d6⟩ := new7 hb5
      obtain ⟨xb, hxb⟩ : ∃ xb, wr.heap.size = xb := ⟨_, rfl⟩
      rw [hxb] at d0 d1 d2 d3 d4 d5 d6
      refine Lib.hid ?_
      rw [hxb]
      clear c0 c1 c2 c3 c4 c5 c6 hb5 hxb hbw
      cases b0
      · have h2 := H1.out
        rw [hok.out] at h2
        simp only [Bool.false_and, Bool.and_false, Bool.true_and, Bool.false_eq_true, if_false] at h2
        have H2 := Lib.hid h2
        clear h2
        go_wp2
        go_ret2
        refine ⟨?_, hbw5⟩
        rw [← H2.out]
        rfl
      cases b1
      · have h2 := H1.out
        rw [hok.out] at h2
        simp only [Bool.false_and, Bool.and_false, Bool.true_and, Bool.false_eq_true, if_false] at h2
        have H2 := Lib.hid h2
        clear h2
        go_wp2
        go_ret2
        refine ⟨?_, hbw5⟩
        rw [← H2.out]
        rfl
      cases b2
      · have h2 := H1.out
        rw [hok.out] at h2
        simp only [Bool.false_and, Bool.and_false, Bool.true_and, Bool.false_eq_true, if_false] at h2
        have H2 := Lib.hid h2
        clear h2
        go_wp2
        go_ret2
        refine ⟨?_, hbw5⟩
        rw [← H2.out]
        rfl
      cases b3
      · have h2 := H1.out
        rw [hok.out] at h2
        simp only [Bool.false_and, Bool.and_false, Bool.true_and, Bool.false_eq_true, if_false] at h2
        have H2 := Lib.hid h2
        clear h2
        go_wp2
        go_ret2
        refine ⟨?_, hbw5⟩
        rw [← H2.out]
        rfl
      cases b4
      · have h2 := H1.out
        rw [hok.out] at h2
        simp only [Bool.false_and, Bool.and_false, Bool.true_and, Bool.false_eq_true, if_false] at h2
        have H2 := Lib.hid h2
        clear h2
        go_wp2
        go_ret2
        refine ⟨?_, hbw5⟩
        rw [← H2.out]
        rfl
      cases b5
      · have h2 := H1.out
        rw [hok.out] at h2
        simp only [Bool.false_and, Bool.and_false, Bool.true_and, Bool.false_eq_true, if_false] at h2
        have H2 := Lib.hid h2
        clear h2
        go_wp2
        go_ret2
        refine ⟨?_, hbw5⟩
        rw [← H2.out]
        rfl
      cases b6
      · have h2 := H1.out
        rw [hok.out] at h2
        simp only [Bool.false_and, Bool.and_false, Bool.true_and, Bool.false_eq_true, if_false] at h2
        have H2 := Lib.hid h2
        clear h2
        go_wp2
        go_ret2
        refine ⟨?_, hbw5⟩
        rw [← H2.out]
        rfl
      obtain ⟨pl, rfl, e0⟩ := B0.out rfl
      obtain ⟨en, rfl, e1⟩ := B1.out rfl
      obtain ⟨la, rfl, e2⟩ := B2.out rfl
      obtain ⟨id, rfl, e3⟩ := B3.out rfl
      obtain ⟨st, rfl, e4⟩ := B4.out rfl
      obtain ⟨ms, rfl, e5⟩ := B5.out rfl
      have e6 := B6.out rfl
      have h2 := H1.out
      rw [hok.out] at h2
      simp only [Bool.and_true, if_true] at h2
      have H2 := Lib.hid h2
      have k0 := cell_regrown d0
      have k1 := cell_regrown d1
      have k2 := cell_regrown d2
      have k3 := cell_regrown d3
      have k4 := cell_regrown d4
      have k5 := cell_regrown d5
      have k6 := cell_regrown d6
      obtain ⟨A, hA⟩ : ∃ X : ByteArray, ByteArray.mk acc.toArray = X := ⟨_, rfl⟩
      have sA : A.size ≤ 1 + 71 * k := by
        rw [← hA]
        show acc.toArray.size ≤ _
        simpa using hal
      rw [hA]
      have HA := Lib.hid hA
      have z0 := twoBA_size pl
      have z1 := twoBA_size en
      have z2 := twoBA_size la
      have z3 := twoBA_size id
      have z4 := oneBA_size st
      have z5 := oneBA_size ms
      have z6 := oneBA_size tx.size
      have n1 : ¬ 9223372036854775807 < A.size + (twoBA pl).size := by omega
      have n2 : ¬ 9223372036854775807 < A.size + (twoBA pl).size + (twoBA en).size := by omega
      have n3 : ¬ 9223372036854775807 < A.size + (twoBA pl).size + (twoBA en).size + (twoBA la).size := by omega
      have n4 : ¬ 9223372036854775807 < A.size + (twoBA pl).size + (twoBA en).size + (twoBA la).size + (twoBA id).size := by omega
      have n5 : ¬ 9223372036854775807 < A.size + (twoBA pl).size + (twoBA en).size + (twoBA la).size + (twoBA id).size + (oneBA st).size := by omega
      have n6 : ¬ 9223372036854775807 < A.size + (twoBA pl).size + (twoBA en).size + (twoBA la).size + (twoBA id).size + (oneBA st).size + (oneBA ms).size := by omega
      have n7 : ¬ 9223372036854775807 < A.size + (twoBA pl).size + (twoBA en).size + (twoBA la).size + (twoBA id).size + (oneBA st).size + (oneBA ms).size + (oneBA tx.size).size := by omega
      have n8 : ¬ 9223372036854775807 < A.size + (twoBA pl).size + (twoBA en).size + (twoBA la).size + (twoBA id).size + (oneBA st).size + (oneBA ms).size + (oneBA tx.size).size + tx.size := by omega
      clear z0 z1 z2 z3 z4 z5 z6 hA sA h2 d0 d1 d2 d3 d4 d5 d6 T0 T1 T2 T3 T4 T5 P B0 B1 B2 B3 B4 B5 B6
      go_wp2
      refine wp_region_quiet_below (by kernel_rfl) (by kernel_rfl) ?_
      repeat (quiet_step (first | exact two19B _ (by omega) _ _ _ | exact one18B _ (by omega) _ _ _))
      refine wpQuiet_nil ?_
      intro _ hw'
      obtain ⟨⟨dq, osq⟩, hw''⟩ := hw'
      subst hw''
      have hbg := hbw5.trans ((below_regrown w5 dq osq).mono hbw5.size)
      go_wp2
      refine ⟨⟨k + 1, acc ++ nmL ⟨pl, en, la, id, st, ms, tx⟩, ?_, by go_num, by omega, hbg, ?_, H2⟩, by simp [intOf]; omega⟩
      · rw [← HA.out]
        exact congrArg Value.string (ByteArray.ext (by simp [nmL, oneBA, twoBA]))
      · have e9 : tx.data.toList.length = tx.size := by simp
        simp only [List.length_append, nmL, oneL, twoL, List.length_cons, List.length_nil]
        omega
    · have h2 := H.out
      rw [List.drop_eq_nil_of_le (by omega)] at h2
      have H2 := Lib.hid h2
      clear h2 H
      have hge : ¬ ((k : Int) < (l.length : Int)) := by omega
      go_wp2
      go_ret2
      refine ⟨?_, hbw⟩
      rw [← H2.out]
      rfl
end Go.Proofs.YteibjmlimcpaoaaDoor
