/-
  What visorref.tables answers, for every list of tables wherever it lies; nothing that lay in memory turns.
-/
import Derived.Test.YteibjmlimcpaoaaDoorRLeaf
set_option linter.unusedVariables false
namespace Go.Proofs.YteibjmlimcpaoaaDoor
open Go.RowKit Go.Sort

/-- a slice of n elements whose cells are xs, wherever it lies -/
def RowIs (w : World) (v : Value) (n : Nat) (xs : List Value) : Prop :=
  ∃ ao cap, v = .slice ao n cap ∧ (0 < n → ∃ g o, ao = some ⟨g, o, none⟩ ∧ ∀ (j : Nat) (u : Value), xs[j]? = some u → w.cell? ⟨g, o + j, none⟩ = some u)

theorem cell_lt {w : World} {g o : Nat} {u : Value} (h : w.cell? ⟨g, o, none⟩ = some u) : g < w.heap.size := by
  rcases Nat.lt_or_ge g w.heap.size with h' | h'
  · exact h'
  · simp [World.cell?, Array.getElem?_eq_none h'] at h
theorem RowIs.on {w w' : World} {v : Value} {n : Nat} {xs : List Value} (h : RowIs w v n xs) (hb : Below w.heap.size w w') : RowIs w' v n xs := by
  obtain ⟨ao, cap, rfl, hc⟩ := h
  refine ⟨ao, cap, rfl, fun hn => ?_⟩
  obtain ⟨g, o, rfl, hcell⟩ := hc hn
  refine ⟨g, o, rfl, fun j u hj => ?_⟩
  have := hcell j u hj
  rw [hb.cell (p := ⟨g, o + j, none⟩) (cell_lt this)]
  exact this

def tcells : List Tab → List Value
  | [] => []
  | t :: r => .string t.tag :: .int .i64 t.st :: .int .i64 t.sz :: tcells r
theorem tcells_at : ∀ (l : List Tab) (k : Nat) (t : Tab), l[k]? = some t → (tcells l)[k * 3]? = some (.string t.tag) ∧ (tcells l)[k * 3 + 1]? = some (.int .i64 t.st) ∧ (tcells l)[k * 3 + 2]? = some (.int .i64 t.sz)
  | [], k, t, h => by simp at h
  | x :: l, 0, t, h => by
    simp at h
    subst h
    exact ⟨rfl, rfl, rfl⟩
  | x :: l, k + 1, t, h => by
    have := tcells_at l k t (by simpa using h)
    rw [show (k + 1) * 3 = k * 3 + 3 by omega]
    exact this

def tabOk (t : Tab) : Bool := decide (t.tag.size = 4) && toB 4 t.st && toB 2000 t.sz
/-- tables in bytes, behind those that stand already -/
def tabsGo : List Tab → List UInt8 → List UInt8 × Bool
  | [], acc => (acc, true)
  | t :: r, acc => if tabOk t then tabsGo r (acc ++ t.tag.data.toList ++ oneL t.st.toNat ++ twoL t.sz.toNat) else ([], false)
def tabsR (l : List Tab) : List UInt8 × Bool := if 16 < l.length then ([], false) else tabsGo l (oneL l.length)

set_option maxRecDepth 100000 in
set_option maxHeartbeats 2000000 in
theorem tables15_big (v : Value) (l : List Tab) (w : World) (hl : l.length ≤ 9223372036854775807) (hb : 16 < l.length) (hv : RowIs w v l.length (tcells l)) :
    Calls Tryd.prog 35 #[v] w fun e w' => e = .returned (.tuple #[.string ⟨#[]⟩, .bool false]) ∧ Below w.heap.size w w' := by
  obtain ⟨ao, cap, rfl, _⟩ := hv
  have hb' : (16 : Int) < (l.length : Int) := by omega
  go_enter Tryd.func35, Tryd.ntmps35
  go_wp2
  go_ret2
  exact ⟨rfl, Below.refl _ _⟩

set_option maxRecDepth 100000 in
set_option maxHeartbeats 2000000 in
theorem tables15_small (v : Value) (l : List Tab) (w : World) (r : List UInt8 × Bool) (hl : l.length ≤ 16) (hv : RowIs w v l.length (tcells l)) (hr : tabsGo l (oneL l.length) = r) :
    Calls Tryd.prog 35 #[v] w fun e w' => e = .returned (.tuple #[.string ⟨r.1.toArray⟩, .bool r.2]) ∧ Below w.heap.size w w' := by
  have hl' : ¬ (16 : Int) < (l.length : Int) := by omega
  have O := Lib.hid (one18 l.length w (by omega))
  have HR := Lib.hid hr
  have HV := Lib.hid hv
  have lo : (oneL l.length).length = 1 := rfl
  generalize oneL l.length = o1 at *
  clear hr
  obtain ⟨ao, cap, rfl, hcell⟩ := hv
  clear hcell
  go_enter Tryd.func35, Tryd.ntmps35
  go_wp2_with (go_at_call 38; refine O.out.mono ?_; rintro e w1 ⟨rfl, hb1⟩)
  go_loopw [4, 5] (fun ss is wr => ∃ (k : Nat) (acc : List UInt8), ss = .string ⟨acc.toArray⟩ ∧ is = .int .i64 k ∧ k ≤ l.length ∧ Below w.heap.size w wr ∧ acc.length = 1 + 7 * k ∧ Hid (tabsGo (l.drop k) acc = r)) (fun _ is _ => l.length - (intOf is).toNat)
  case atStart => exact ⟨0, o1, rfl, rfl, Nat.zero_le _, hb1, by omega, HR⟩
  case round =>
    obtain ⟨k, acc, rfl, rfl, hk, hbw, hal, H⟩ := hrel
    by_cases hlt : k < l.length
    · obtain ⟨_, _, hao, hcell⟩ := HV.out.on hbw
      cases hao
      obtain ⟨g, o, rfl, hcl⟩ := hcell (by omega)
      obtain ⟨⟨tag, st, sz⟩, hx⟩ : ∃ x, l[k]? = some x := ⟨_, List.getElem?_eq_getElem hlt⟩
      obtain ⟨t0, t1, t2⟩ := tcells_at l k _ hx
      have c0 := hcl _ _ t0
      have c1 := hcl _ _ t1
      have c2 := hcl _ _ t2
      simp only at c0 c1 c2
      rw [← Nat.add_assoc] at c1 c2
      have hdr : l.drop k = ⟨tag, st, sz⟩ :: l.drop (k + 1) := by
        rw [List.drop_eq_getElem_cons hlt]
        congr 1
        exact Option.some.inj ((List.getElem?_eq_getElem hlt).symm.trans hx)
      have h1 := H.out
      rw [hdr, tabsGo] at h1
      clear hcell hcl t0 t1 t2 hdr H hx
      have T4 := Lib.hid (fun w => to17 4 st w)
      have T2 := Lib.hid (fun w => to17 2000 sz w)
      by_cases q1 : tag.size = 4
      · cases q2 : toB 4 st
        · rw [q2] at T4
          have hok : tabOk ⟨tag, st, sz⟩ = false := by simp [tabOk, q2]
          rw [hok] at h1
          have H1 := Lib.hid h1
          clear h1 hok q2
          go_wp2_with (first | (go_at_call 37; refine (T4.out _).mono ?_; rintro e w4 ⟨rfl, rfl⟩; refine Hid.out ?_))
          refine Lib.hid ?_
          cases q3 : toB 2000 sz
          all_goals
            rw [q3] at T2
            clear q3
            go_wp2_with (first | (go_at_call 37; refine (T2.out _).mono ?_; rintro e w5 ⟨rfl, rfl⟩))
            go_ret2
            refine ⟨?_, hbw⟩
            rw [← H1.out]
            rfl
        · cases q3 : toB 2000 sz
          · rw [q2] at T4
            rw [q3] at T2
            have hok : tabOk ⟨tag, st, sz⟩ = false := by simp [tabOk, q3]
            rw [hok] at h1
            have H1 := Lib.hid h1
            clear h1 hok q2 q3
            go_wp2_with (first | (go_at_call 37; refine (T4.out _).mono ?_; rintro e w4 ⟨rfl, rfl⟩; refine Hid.out ?_))
            refine Lib.hid ?_
            go_wp2_with (first | (go_at_call 37; refine (T2.out _).mono ?_; rintro e w5 ⟨rfl, rfl⟩))
            go_ret2
            refine ⟨?_, hbw⟩
            rw [← H1.out]
            rfl
          · rw [q2] at T4
            rw [q3] at T2
            have hok : tabOk ⟨tag, st, sz⟩ = true := by simp [tabOk, q1, q2, q3]
            rw [if_pos hok] at h1
            have H1 := Lib.hid h1
            simp only [toB, decide_eq_true_eq] at q2 q3
            obtain ⟨s0, s1⟩ := q2
            obtain ⟨z0, z1⟩ := q3
            clear h1 hok
            go_wp2_with (first | (go_at_call 37; refine (T4.out _).mono ?_; rintro e w4 ⟨rfl, rfl⟩; refine Hid.out ?_))
            refine Lib.hid ?_
            go_wp2_with (first | (go_at_call 37; refine (T2.out _).mono ?_; rintro e w5 ⟨rfl, rfl⟩; refine Hid.out ?_))
            refine Lib.hid ?_
            obtain ⟨sn, rfl⟩ := Int.eq_ofNat_of_zero_le s0
            obtain ⟨zn, rfl⟩ := Int.eq_ofNat_of_zero_le z0
            have k0 := cell_regrown c0
            have k1 := cell_regrown c1
            have k2 := cell_regrown c2
            have cO : ∀ d os, Calls Tryd.prog 38 #[.int .i64 (sn : Int)] (grow (redrawn w5 d) os) fun e w'' => e = .returned (.string ⟨(oneL sn).toArray⟩) ∧ ∃ p : Regrown, w'' = grow (redrawn w5 p.d) p.os := fun d os => Calls.regrown_of (one18 sn _ (by omega))
            have cT : ∀ d os, Calls Tryd.prog 39 #[.int .i64 (zn : Int)] (grow (redrawn w5 d) os) fun e w'' => e = .returned (.string ⟨(twoL zn).toArray⟩) ∧ ∃ p : Regrown, w'' = grow (redrawn w5 p.d) p.os := fun d os => Calls.regrown_of (two19 zn _ (by omega))
            have CO := Lib.hid cO
            have CT := Lib.hid cT
            clear cO cT
            obtain ⟨X1, hX1⟩ : ∃ X : ByteArray, ByteArray.mk (oneL sn).toArray = X := ⟨_, rfl⟩
            obtain ⟨X2, hX2⟩ : ∃ X : ByteArray, ByteArray.mk (twoL zn).toArray = X := ⟨_, rfl⟩
            obtain ⟨A, hA⟩ : ∃ X : ByteArray, ByteArray.mk acc.toArray = X := ⟨_, rfl⟩
            have sX1 : X1.size = 1 := by rw [← hX1]; rfl
            have sX2 : X2.size = 2 := by rw [← hX2]; rfl
            have sA : A.size = 1 + 7 * k := by rw [← hA, ← hal]; show acc.toArray.size = _; simp
            rw [hX1] at CO
            rw [hX2] at CT
            rw [hA]
            have ik0 : (0 : Int) ≤ (k : Int) := by omega
            have ik1 : (k : Int) < (l.length : Int) := by omega
            have n1 : ¬ 9223372036854775807 < A.size + tag.size := by omega
            have n2 : ¬ 9223372036854775807 < A.size + tag.size + X1.size := by omega
            have n3 : ¬ 9223372036854775807 < A.size + tag.size + X1.size + X2.size := by omega
            have HE := Lib.hid (And.intro hX1 (And.intro hX2 (And.intro hA (And.intro q1 hal))))
            clear hX1 hX2 hA sX1 sX2 sA hal
            go_wp2
            clear q1
            refine wp_region_quiet_below (by kernel_rfl) (by kernel_rfl) ?_
            repeat (quiet_step (first | exact CO.out _ _ | exact CT.out _ _))
            refine wpQuiet_nil ?_
            intro _ hw'
            obtain ⟨⟨dq, osq⟩, hw''⟩ := hw'
            subst hw''
            have hbg := hbw.trans ((below_regrown w5 dq osq).mono hbw.size)
            go_wp2
            obtain ⟨hX1, hX2, hA, q1, hal⟩ := HE.out
            refine ⟨⟨k + 1, acc ++ tag.data.toList ++ oneL sn ++ twoL zn, ?_, by go_num, by omega, hbg, ?_, H1⟩, by simp [intOf]; omega⟩
            · rw [← hX1, ← hX2, ← hA]
              exact congrArg Value.string (ByteArray.ext (by simp))
            · simp only [List.length_append]
              have e1 : (oneL sn).length = 1 := rfl
              have e2 : (twoL zn).length = 2 := rfl
              have e3 : tag.data.toList.length = tag.size := by simp
              omega
      · have hok : tabOk ⟨tag, st, sz⟩ = false := by simp [tabOk, q1]
        rw [hok] at h1
        have H1 := Lib.hid h1
        have q1' : ((tag.size : Int) == 4) = false := by simp only [beq_eq_false_iff_ne]; omega
        have q1'' : ((tag.size : Int) != 4) = true := by simp only [bne_iff_ne]; omega
        clear h1 hok
        generalize toB 4 st = b1 at *
        generalize toB 2000 sz = b2 at *
        go_wp2_with (first | (go_at_call 37; refine (T4.out _).mono ?_; rintro e w4 ⟨rfl, rfl⟩; refine Hid.out ?_))
        refine Lib.hid ?_
        go_wp2_with (first | (go_at_call 37; refine (T2.out _).mono ?_; rintro e w5 ⟨rfl, rfl⟩))
        go_ret2
        refine ⟨?_, hbw⟩
        rw [← H1.out]
        rfl
    · have h2 := H.out
      rw [List.drop_eq_nil_of_le (by omega)] at h2
      have H2 := Lib.hid h2
      clear h2 H
      have hge : ¬ ((k : Int) < (l.length : Int)) := by omega
      go_wp2
      go_ret2
      refine ⟨?_, hbw⟩
      rw [← H2.out]
      rfl
end Go.Proofs.YteibjmlimcpaoaaDoor
