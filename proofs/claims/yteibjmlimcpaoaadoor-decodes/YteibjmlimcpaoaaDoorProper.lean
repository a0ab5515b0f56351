/-
  What visorref.proper answers, for every string; nothing that lay in memory turns.
-/
import Derived.Test.YteibjmlimcpaoaaDoorRChar
set_option linter.unusedVariables false
namespace Go.Proofs.YteibjmlimcpaoaaDoor
open Go.RowKit Go.Sort

/-- how many bytes a character has whose first byte is b -/
def widthOf (b : Nat) : Nat := if 240 ≤ b then 4 else if 224 ≤ b then 3 else if 192 ≤ b then 2 else 1
/-- what the first j of its n bytes tell -/
def decT (n : Nat) (l : List UInt8) : Nat → Nat
  | 0 => 0
  | 1 => if n = 1 then (l.getD 0 0).toNat else (l.getD 0 0).toNat % 2 ^ (7 - n)
  | j + 2 => 64 * decT n l (j + 1) + (l.getD (j + 1) 0).toNat % 64
def properGo : Nat → List UInt8 → Bool
  | 0, _ => true
  | _ + 1, [] => true
  | f + 1, a :: l =>
    if (a :: l).length < widthOf a.toNat then false
    else if harmB (decT (widthOf a.toNat) (a :: l) (widthOf a.toNat)) then false
    else if 1114111 < decT (widthOf a.toNat) (a :: l) (widthOf a.toNat) then false
    else if 55296 ≤ decT (widthOf a.toNat) (a :: l) (widthOf a.toNat) ∧ decT (widthOf a.toNat) (a :: l) (widthOf a.toNat) ≤ 57343 then false
    else if utf8L (decT (widthOf a.toNat) (a :: l) (widthOf a.toNat)) ≠ (a :: l).take (widthOf a.toNat) then false
    else properGo f ((a :: l).drop (widthOf a.toNat))
def properB (l : List UInt8) : Bool := if 60 < l.length then false else properGo l.length l

theorem getD_byte (s : ByteArray) (i : Nat) (h : i < s.size) : s.data.toList.getD i 0 = s[i] := by
  have h' : i < s.data.toList.length := by simpa using h
  rw [List.getD_eq_getElem?_getD, List.getElem?_eq_getElem h', Option.getD_some]
  rfl
theorem decT_one (n : Nat) (l : List UInt8) : decT n l 1 = if n = 1 then (l.getD 0 0).toNat else (l.getD 0 0).toNat % 2 ^ (7 - n) := rfl
theorem decT_step (n : Nat) (l : List UInt8) (j : Nat) (h : 1 ≤ j) : decT n l (j + 1) = 64 * decT n l j + (l.getD j 0).toNat % 64 := by
  cases j with
  | zero => omega
  | succ j => rfl
theorem decT_le (n : Nat) (l : List UInt8) (h1 : decT n l 1 < 256) : ∀ j, 1 ≤ j → j ≤ 4 → decT n l j < 67108864 := by
  intro j a b
  have s1 : decT n l 2 = 64 * decT n l 1 + (l.getD 1 0).toNat % 64 := decT_step n l 1 (by omega)
  have s2 : decT n l 3 = 64 * decT n l 2 + (l.getD 2 0).toNat % 64 := decT_step n l 2 (by omega)
  have s3 : decT n l 4 = 64 * decT n l 3 + (l.getD 3 0).toNat % 64 := decT_step n l 3 (by omega)
  have hj : j = 1 ∨ j = 2 ∨ j = 3 ∨ j = 4 := by omega
  rcases hj with rfl | rfl | rfl | rfl <;> omega

theorem properGo_step (f : Nat) (l : List UInt8) (h : 0 < l.length) (hf : l.length ≤ f) (n z : Nat) (hn : widthOf (l.getD 0 0).toNat = n) (hz : decT n l n = z) :
    properGo f l = if l.length < n then false else if harmB z then false else if 1114111 < z then false else if 55296 ≤ z ∧ z ≤ 57343 then false else if utf8L z ≠ l.take n then false else properGo (f - 1) (l.drop n) := by
  cases f with
  | zero => omega
  | succ f =>
    cases l with
    | nil => simp at h
    | cons a l =>
      have e : (a :: l).getD 0 0 = a := rfl
      rw [e] at hn
      subst hn hz
      rfl
theorem index_at (s : ByteArray) (i : Int) (j : Nat) (h : i = j) (hj : j < s.size) (W : World) : (Instr.index 9 (.string s) (.int .i64 i)).run Tryd.prog W = .ok (.int .u8 (s[j].toNat : Int)) W := by
  subst h
  rw [run_index_string W 9 s .i64 _ Tryd.underlying9, dif_pos ⟨by omega, by omega⟩]
  rfl
theorem val_int {k : IntKind} {a b : Int} (h : a = b) : Value.int k a = Value.int k b := by rw [h]
def strSize : Value → Nat
  | .string t => t.size
  | _ => 0
theorem extract_toList (s : ByteArray) (k : Nat) : (s.extract k s.size).data.toList = s.data.toList.drop k := by
  have h : s.size = s.data.toList.length := by simp
  simp only [ByteArray.data_extract, Array.toList_extract, List.extract_eq_take_drop]
  rw [h, List.take_of_length_le (by simp)]
theorem extract_front (s : ByteArray) (k : Nat) : (s.extract 0 k).data.toList = s.data.toList.take k := by
  simp [ByteArray.data_extract]
theorem size_extract (s : ByteArray) (k : Nat) : (s.extract k s.size).size = s.size - k := by
  simp [ByteArray.size_extract]

set_option maxRecDepth 100000 in
set_option maxHeartbeats 1000000 in
theorem proper26_big (s : ByteArray) (w : World) (hs : 60 < s.size) (hm : s.size ≤ 9223372036854775807) :
    Calls Tryd.prog 58 #[.string s] w fun e w' => e = .returned (.bool false) ∧ Below w.heap.size w w' := by
  have hs' : (60 : Int) < (s.size : Int) := by omega
  go_enter Tryd.func58, Tryd.ntmps58
  go_wp2
  go_ret
  exact ⟨rfl, Below.refl _ _⟩

set_option maxRecDepth 100000 in
set_option maxHeartbeats 4000000 in
theorem proper26_small (s : ByteArray) (w : World) (r : Bool) (hs : s.size ≤ 60) (hr : properGo s.size s.data.toList = r) :
    Calls Tryd.prog 58 #[.string s] w fun e w' => e = .returned (.bool r) ∧ Below w.heap.size w w' := by
  have hs' : ¬ (60 : Int) < (s.size : Int) := by omega
  have HR := Lib.hid hr
  clear hr
  go_enter Tryd.func58, Tryd.ntmps58
  go_wp2
  go_loopw [0] (fun ss wr => ∃ (t : ByteArray) (f : Nat), ss = .string t ∧ t.size ≤ 60 ∧ t.size ≤ f ∧ Below w.heap.size w wr ∧ Hid (properGo f t.data.toList = r)) (fun ss _ => strSize ss)
  case atStart => exact ⟨s, s.size, rfl, hs, Nat.le_refl _, Below.refl _ _, HR⟩
  case round =>
    obtain ⟨t, f, rfl, hts, htf, hbw, H⟩ := hrel
    by_cases h0 : 0 < t.size
    · have hne : t.toList.isEmpty = false := by
        rw [ByteArray.toList_eq]
        cases ht : t.data.toList with
        | nil =>
          have h : t.data.toList.length = 0 := by rw [ht]; rfl
          have h2 : t.data.toList.length = t.size := by simp
          omega
        | cons => rfl
      have htl : t.data.toList.length = t.size := by simp
      have G27 := Lib.hid (fun (c : Int) w => harm27 c w)
      by_cases c4 : 240 ≤ t[0].toNat
      · obtain ⟨x0, hx0⟩ : ∃ x0 : Int, ((t[0].toNat : Nat) : Int) = x0 := ⟨_, rfl⟩
        have i0 := fun W => (index_at t 0 0 rfl h0 W).trans (by rw [hx0])
        have b0 : t[0].toNat < 256 := t[0].toNat_lt
        have q0 : 240 ≤ x0 := by omega
        have q1 : x0 < 256 := by omega
        have h0' : (0 : Int) < (t.size : Int) := by omega
        have hw : widthOf (t.data.toList.getD 0 0).toNat = 4 := by
          rw [getD_byte t 0 h0]
          unfold widthOf
          simp only [c4, if_true]
        have hst := properGo_step f t.data.toList (by omega) (by omega) 4 _ hw rfl
        have hd1 : decT 4 t.data.toList 1 = t[0].toNat % 8 := by
          rw [decT_one, if_neg (by decide), getD_byte t 0 h0]
        have HX := Lib.hid hx0
        have HD := Lib.hid hd1
        have hdl := decT_le 4 t.data.toList (by omega)
        have HDL := Lib.hid hdl
        have h1 := H.out
        rw [hst] at h1
        have H1 := Lib.hid h1
        clear hx0 hd1 hw hst hdl h1 H b0
        by_cases hsz : t.size < 4
        · have h2 := H1.out
          rw [if_pos (by omega)] at h2
          have H2 := Lib.hid h2
          have hsz' : (t.size : Int) < 4 := by omega
          clear h2
          go_wp2
          go_ret
          exact ⟨ret_bool H2.out, hbw⟩
        · have hsz' : (4 : Int) ≤ (t.size : Int) := by omega
          go_wp2_with fail
          go_loop [4, 5] (fun cs js => ∃ j : Nat, 1 ≤ j ∧ j ≤ 4 ∧ js = .int .i64 j ∧ cs = .int .i64 (decT 4 t.data.toList j)) (fun _ js => 4 - (intOf js).toNat)
          case atStart => exact ⟨1, by omega, by omega, rfl, val_int (by have := HX.out; have := HD.out; omega)⟩
          case round =>
            obtain ⟨j, hj1, hj2, rfl, rfl⟩ := hrel
            by_cases hj : j < 4
            · obtain ⟨y, hy⟩ : ∃ y : Int, ((t[j].toNat : Nat) : Int) = y := ⟨_, rfl⟩
              have ij := fun W => (index_at t (j : Int) j rfl (by omega) W).trans (by rw [hy])
              have y0 : 0 ≤ y := by omega
              have y1 : y < 256 := by have := t[j].toNat_lt; omega
              have ds := decT_step 4 t.data.toList j hj1
              rw [getD_byte t j (by omega)] at ds
              obtain ⟨pj, hpj⟩ : ∃ pj : Int, ((decT 4 t.data.toList j : Nat) : Int) = pj := ⟨_, rfl⟩
              have pj0 : 0 ≤ pj := by omega
              have pj1 : pj < 67108864 := by have := HDL.out j hj1 (by omega); omega
              have HF : Hid ((decT 4 t.data.toList (j + 1) : Int) = 64 * pj + y % 64) := by show _ = _; omega
              rw [hpj]
              clear hy ds hpj i0
              have hji : (j : Int) < 4 := by omega
              go_wp2
              exact ⟨⟨j + 1, by omega, by omega, by go_num, val_int (by have := HF.out; omega)⟩, by simp [intOf]; omega⟩
            · obtain rfl : j = 4 := by omega
              obtain ⟨z, hz⟩ : ∃ z : Nat, decT 4 t.data.toList 4 = z := ⟨_, rfl⟩
              rw [hz]
              have zb : z < 67108864 := by have := HDL.out 4 (by omega) (by omega); omega
              have h2 := H1.out
              rw [hz, if_neg (by omega)] at h2
              clear i0 hz
              have G := Lib.hid (fun w => G27.out z w)
              cases hh : harmB z
              · rw [hh] at G h2
                simp only [Bool.false_eq_true, if_false] at h2
                obtain ⟨zi, hzi⟩ : ∃ zi : Int, (z : Int) = zi := ⟨_, rfl⟩
                rw [hzi] at G
                rw [hzi]
                have HZ := Lib.hid hzi
                have zi0 : 0 ≤ zi := by omega
                by_cases d1 : 1114111 < z
                · rw [if_pos d1] at h2
                  have d1' : 1114111 < zi := by omega
                  have H2 := Lib.hid h2
                  clear h2 d1 hzi hh
                  go_wp2_with (go_at_call 32; refine (G.out _).mono ?_; rintro e w4 ⟨rfl, rfl⟩)
                  refine wp_region_quiet_below (by kernel_rfl) (by kernel_rfl) ?_
                  repeat (first | go_big_quiet_step (fail) | quiet_step (fail))
                  refine wpQuiet_nil ?_
                  intro _ hw'
                  obtain ⟨⟨dq, osq⟩, hw''⟩ := hw'
                  subst hw''
                  have hbg := hbw.trans ((below_regrown w4 dq osq).mono hbw.size)
                  go_wp2
                  go_ret
                  exact ⟨ret_bool H2.out, hbg⟩
                · rw [if_neg d1] at h2
                  have d1' : zi ≤ 1114111 := by omega
                  by_cases d2 : 55296 ≤ z ∧ z ≤ 57343
                  · rw [if_pos d2] at h2
                    have d2' : 55296 ≤ zi := by omega
                    have d3' : zi ≤ 57343 := by omega
                    have H2 := Lib.hid h2
                    clear h2 d1 d2 hzi hh
                    go_wp2_with (go_at_call 32; refine (G.out _).mono ?_; rintro e w4 ⟨rfl, rfl⟩)
                    refine wp_region_quiet_below (by kernel_rfl) (by kernel_rfl) ?_
                    repeat (first | go_big_quiet_step (fail) | quiet_step (fail))
                    refine wpQuiet_nil ?_
                    intro _ hw'
                    obtain ⟨⟨dq, osq⟩, hw''⟩ := hw'
                    subst hw''
                    have hbg := hbw.trans ((below_regrown w4 dq osq).mono hbw.size)
                    go_wp2
                    go_ret
                    exact ⟨ret_bool H2.out, hbg⟩
                  · rw [if_neg d2] at h2
                    have U0 := fun w => utf28 z w (by omega)
                    rw [hzi] at U0
                    obtain ⟨X, hX⟩ : ∃ X : ByteArray, ByteArray.mk (utf8L z).toArray = X := ⟨_, rfl⟩
                    have hXY : utf8L z = t.data.toList.take 4 ↔ (X.toList == (t.extract 0 4).toList) = true := by
                      rw [← hX, ByteArray.toList_eq, ByteArray.toList_eq, extract_front, beq_iff_eq]
                    rw [hX] at U0
                    have HXY := Lib.hid hXY
                    have d1n : ¬ 1114111 < zi := by omega
                    have d2s : decide (55296 ≤ zi) = false ∨ (55296 ≤ zi ∧ decide (zi ≤ 57343) = false) := by simp only [decide_eq_false_iff_not]; omega
                    clear hX hXY
                    by_cases d4 : (X.toList == (t.extract 0 4).toList) = true
                    · have h5 := HXY.out.2 d4
                      rw [if_neg (by simpa using h5)] at h2
                      have H2 := Lib.hid h2
                      clear h2 h5 d1 d2 hzi hh HXY
                      rcases d2s with d2' | ⟨d2', d3'⟩
                      all_goals
                        go_wp2_with (go_at_call 32; refine (G.out _).mono ?_; rintro e w4 ⟨rfl, rfl⟩)
                        have CU : Hid (∀ d os, Calls Tryd.prog 55 #[.int .i64 zi] (grow (redrawn w4 d) os) fun e w'' => e = .returned (.string X) ∧ ∃ p : Regrown, w'' = grow (redrawn w4 p.d) p.os) := fun d os => Calls.regrown_of (U0 _)
                        refine wp_region_quiet_below (by kernel_rfl) (by kernel_rfl) ?_
                        repeat (first | go_big_quiet_step (exact CU.out _ _) | quiet_step (exact CU.out _ _))
                        refine wpQuiet_nil ?_
                        intro _ hw'
                        obtain ⟨⟨dq, osq⟩, hw''⟩ := hw'
                        subst hw''
                        have hbg := hbw.trans ((below_regrown w4 dq osq).mono hbw.size)
                        go_wp2
                        go_roundw
                        case rel =>
                          refine ⟨t.extract 4 t.size, f - 1, rfl, ?_, ?_, hbg, ?_⟩
                          · rw [size_extract]; omega
                          · rw [size_extract]; omega
                          · rw [extract_toList]; exact H2
                        case measure =>
                          show (t.extract 4 t.size).size < t.size
                          rw [size_extract]
                          omega
                    · have h5 : utf8L z ≠ t.data.toList.take 4 := fun h => d4 (HXY.out.1 h)
                      have d4f : (X.toList == (t.extract 0 4).toList) = false := by simpa using d4
                      rw [if_pos h5] at h2
                      have H2 := Lib.hid h2
                      clear h2 h5 d1 d2 hzi hh HXY d4
                      rcases d2s with d2' | ⟨d2', d3'⟩
                      all_goals
                        go_wp2_with (go_at_call 32; refine (G.out _).mono ?_; rintro e w4 ⟨rfl, rfl⟩)
                        have CU : Hid (∀ d os, Calls Tryd.prog 55 #[.int .i64 zi] (grow (redrawn w4 d) os) fun e w'' => e = .returned (.string X) ∧ ∃ p : Regrown, w'' = grow (redrawn w4 p.d) p.os) := fun d os => Calls.regrown_of (U0 _)
                        refine wp_region_quiet_below (by kernel_rfl) (by kernel_rfl) ?_
                        repeat (first | go_big_quiet_step (exact CU.out _ _) | quiet_step (exact CU.out _ _))
                        refine wpQuiet_nil ?_
                        intro _ hw'
                        obtain ⟨⟨dq, osq⟩, hw''⟩ := hw'
                        subst hw''
                        have hbg := hbw.trans ((below_regrown w4 dq osq).mono hbw.size)
                        go_wp2
                        go_ret
                        exact ⟨ret_bool H2.out, hbg⟩
              · rw [hh] at G h2
                simp only [if_true] at h2
                have H2 := Lib.hid h2
                clear h2 hh
                go_wp2_with (go_at_call 32; refine (G.out _).mono ?_; rintro e w4 ⟨rfl, rfl⟩)
                refine wp_region_quiet_below (by kernel_rfl) (by kernel_rfl) ?_
                repeat (first | go_big_quiet_step (fail) | quiet_step (fail))
                refine wpQuiet_nil ?_
                intro _ hw'
                obtain ⟨⟨dq, osq⟩, hw''⟩ := hw'
                subst hw''
                have hbg := hbw.trans ((below_regrown w4 dq osq).mono hbw.size)
                go_wp2
                go_ret
                exact ⟨ret_bool H2.out, hbg⟩
      by_cases c3 : 224 ≤ t[0].toNat
      · obtain ⟨x0, hx0⟩ : ∃ x0 : Int, ((t[0].toNat : Nat) : Int) = x0 := ⟨_, rfl⟩
        have i0 := fun W => (index_at t 0 0 rfl h0 W).trans (by rw [hx0])
        have b0 : t[0].toNat < 256 := t[0].toNat_lt
        have q0 : 224 ≤ x0 := by omega
        have q1 : x0 < 240 := by omega
        have h0' : (0 : Int) < (t.size : Int) := by omega
        have hw : widthOf (t.data.toList.getD 0 0).toNat = 3 := by
          rw [getD_byte t 0 h0]
          unfold widthOf
          simp only [c4, c3, if_false, if_true]
        have hst := properGo_step f t.data.toList (by omega) (by omega) 3 _ hw rfl
        have hd1 : decT 3 t.data.toList 1 = t[0].toNat % 16 := by
          rw [decT_one, if_neg (by decide), getD_byte t 0 h0]
        have HX := Lib.hid hx0
        have HD := Lib.hid hd1
        have hdl := decT_le 3 t.data.toList (by omega)
        have HDL := Lib.hid hdl
        have h1 := H.out
        rw [hst] at h1
        have H1 := Lib.hid h1
        clear hx0 hd1 hw hst hdl h1 H b0
        by_cases hsz : t.size < 3
        · have h2 := H1.out
          rw [if_pos (by omega)] at h2
          have H2 := Lib.hid h2
          have hsz' : (t.size : Int) < 3 := by omega
          clear h2
          go_wp2
          go_ret
          exact ⟨ret_bool H2.out, hbw⟩
        · have hsz' : (3 : Int) ≤ (t.size : Int) := by omega
          go_wp2_with fail
          go_loop [4, 5] (fun cs js => ∃ j : Nat, 1 ≤ j ∧ j ≤ 3 ∧ js = .int .i64 j ∧ cs = .int .i64 (decT 3 t.data.toList j)) (fun _ js => 3 - (intOf js).toNat)
          case atStart => exact ⟨1, by omega, by omega, rfl, val_int (by have := HX.out; have := HD.out; omega)⟩
          case round =>
            obtain ⟨j, hj1, hj2, rfl, rfl⟩ := hrel
            by_cases hj : j < 3
            · obtain ⟨y, hy⟩ : ∃ y : Int, ((t[j].toNat : Nat) : Int) = y := ⟨_, rfl⟩
              have ij := fun W => (index_at t (j : Int) j rfl (by omega) W).trans (by rw [hy])
              have y0 : 0 ≤ y := by omega
              have y1 : y < 256 := by have := t[j].toNat_lt; omega
              have ds := decT_step 3 t.data.toList j hj1
              rw [getD_byte t j (by omega)] at ds
              obtain ⟨pj, hpj⟩ : ∃ pj : Int, ((decT 3 t.data.toList j : Nat) : Int) = pj := ⟨_, rfl⟩
              have pj0 : 0 ≤ pj := by omega
              have pj1 : pj < 67108864 := by have := HDL.out j hj1 (by omega); omega
              have HF : Hid ((decT 3 t.data.toList (j + 1) : Int) = 64 * pj + y % 64) := by show _ = _; omega
              rw [hpj]
              clear hy ds hpj i0
              have hji : (j : Int) < 3 := by omega
              go_wp2
              exact ⟨⟨j + 1, by omega, by omega, by go_num, val_int (by have := HF.out; omega)⟩, by simp [intOf]; omega⟩
            · obtain rfl : j = 3 := by omega
              obtain ⟨z, hz⟩ : ∃ z : Nat, decT 3 t.data.toList 3 = z := ⟨_, rfl⟩
              rw [hz]
              have zb : z < 67108864 := by have := HDL.out 3 (by omega) (by omega); omega
              have h2 := H1.out
              rw [hz, if_neg (by omega)] at h2
              clear i0 hz
              have G := Lib.hid (fun w => G27.out z w)
              cases hh : harmB z
              · rw [hh] at G h2
                simp only [Bool.false_eq_true, if_false] at h2
                obtain ⟨zi, hzi⟩ : ∃ zi : Int, (z : Int) = zi := ⟨_, rfl⟩
                rw [hzi] at G
                rw [hzi]
                have HZ := Lib.hid hzi
                have zi0 : 0 ≤ zi := by omega
                by_cases d1 : 1114111 < z
                · rw [if_pos d1] at h2
                  have d1' : 1114111 < zi := by omega
                  have H2 := Lib.hid h2
                  clear h2 d1 hzi hh
                  go_wp2_with (go_at_call 32; refine (G.out _).mono ?_; rintro e w4 ⟨rfl, rfl⟩)
                  refine wp_region_quiet_below (by kernel_rfl) (by kernel_rfl) ?_
                  repeat (first | go_big_quiet_step (fail) | quiet_step (fail))
                  refine wpQuiet_nil ?_
                  intro _ hw'
                  obtain ⟨⟨dq, osq⟩, hw''⟩ := hw'
                  subst hw''
                  have hbg := hbw.trans ((below_regrown w4 dq osq).mono hbw.size)
                  go_wp2
                  go_ret
                  exact ⟨ret_bool H2.out, hbg⟩
                · rw [if_neg d1] at h2
                  have d1' : zi ≤ 1114111 := by omega
                  by_cases d2 : 55296 ≤ z ∧ z ≤ 57343
                  · rw [if_pos d2] at h2
                    have d2' : 55296 ≤ zi := by omega
                    have d3' : zi ≤ 57343 := by omega
                    have H2 := Lib.hid h2
                    clear h2 d1 d2 hzi hh
                    go_wp2_with (go_at_call 32; refine (G.out _).mono ?_; rintro e w4 ⟨rfl, rfl⟩)
                    refine wp_region_quiet_below (by kernel_rfl) (by kernel_rfl) ?_
                    repeat (first | go_big_quiet_step (fail) | quiet_step (fail))
                    refine wpQuiet_nil ?_
                    intro _ hw'
                    obtain ⟨⟨dq, osq⟩, hw''⟩ := hw'
                    subst hw''
                    have hbg := hbw.trans ((below_regrown w4 dq osq).mono hbw.size)
                    go_wp2
                    go_ret
                    exact ⟨ret_bool H2.out, hbg⟩
                  · rw [if_neg d2] at h2
                    have U0 := fun w => utf28 z w (by omega)
                    rw [hzi] at U0
                    obtain ⟨X, hX⟩ : ∃ X : ByteArray, ByteArray.mk (utf8L z).toArray = X := ⟨_, rfl⟩
                    have hXY : utf8L z = t.data.toList.take 3 ↔ (X.toList == (t.extract 0 3).toList) = true := by
                      rw [← hX, ByteArray.toList_eq, ByteArray.toList_eq, extract_front, beq_iff_eq]
                    rw [hX] at U0
                    have HXY := Lib.hid hXY
                    have d1n : ¬ 1114111 < zi := by omega
                    have d2s : decide (55296 ≤ zi) = false ∨ (55296 ≤ zi ∧ decide (zi ≤ 57343) = false) := by simp only [decide_eq_false_iff_not]; omega
                    clear hX hXY
                    by_cases d4 : (X.toList == (t.extract 0 3).toList) = true
                    · have h5 := HXY.out.2 d4
                      rw [if_neg (by simpa using h5)] at h2
                      have H2 := Lib.hid h2
                      clear h2 h5 d1 d2 hzi hh HXY
                      rcases d2s with d2' | ⟨d2', d3'⟩
                      all_goals
                        go_wp2_with (go_at_call 32; refine (G.out _).mono ?_; rintro e w4 ⟨rfl, rfl⟩)
                        have CU : Hid (∀ d os, Calls Tryd.prog 55 #[.int .i64 zi] (grow (redrawn w4 d) os) fun e w'' => e = .returned (.string X) ∧ ∃ p : Regrown, w'' = grow (redrawn w4 p.d) p.os) := fun d os => Calls.regrown_of (U0 _)
                        refine wp_region_quiet_below (by kernel_rfl) (by kernel_rfl) ?_
                        repeat (first | go_big_quiet_step (exact CU.out _ _) | quiet_step (exact CU.out _ _))
                        refine wpQuiet_nil ?_
                        intro _ hw'
                        obtain ⟨⟨dq, osq⟩, hw''⟩ := hw'
                        subst hw''
                        have hbg := hbw.trans ((below_regrown w4 dq osq).mono hbw.size)
                        go_wp2
                        go_roundw
                        case rel =>
                          refine ⟨t.extract 3 t.size, f - 1, rfl, ?_, ?_, hbg, ?_⟩
                          · rw [size_extract]; omega
                          · rw [size_extract]; omega
                          · rw [extract_toList]; exact H2
                        case measure =>
                          show (t.extract 3 t.size).size < t.size
                          rw [size_extract]
                          omega
                    · have h5 : utf8L z ≠ t.data.toList.take 3 := fun h => d4 (HXY.out.1 h)
                      have d4f : (X.toList == (t.extract 0 3).toList) = false := by simpa using d4
                      rw [if_pos h5] at h2
                      have H2 := Lib.hid h2
                      clear h2 h5 d1 d2 hzi hh HXY d4
                      rcases d2s with d2' | ⟨d2', d3'⟩
                      all_goals
                        go_wp2_with (go_at_call 32; refine (G.out _).mono ?_; rintro e w4 ⟨rfl, rfl⟩)
                        have CU : Hid (∀ d os, Calls Tryd.prog 55 #[.int .i64 zi] (grow (redrawn w4 d) os) fun e w'' => e = .returned (.string X) ∧ ∃ p : Regrown, w'' = grow (redrawn w4 p.d) p.os) := fun d os => Calls.regrown_of (U0 _)
                        refine wp_region_quiet_below (by kernel_rfl) (by kernel_rfl) ?_
                        repeat (first | go_big_quiet_step (exact CU.out _ _) | quiet_step (exact CU.out _ _))
                        refine wpQuiet_nil ?_
                        intro _ hw'
                        obtain ⟨⟨dq, osq⟩, hw''⟩ := hw'
                        subst hw''
                        have hbg := hbw.trans ((below_regrown w4 dq osq).mono hbw.size)
                        go_wp2
                        go_ret
                        exact ⟨ret_bool H2.out, hbg⟩
              · rw [hh] at G h2
                simp only [if_true] at h2
                have H2 := Lib.hid h2
                clear h2 hh
                go_wp2_with (go_at_call 32; refine (G.out _).mono ?_; rintro e w4 ⟨rfl, rfl⟩)
                refine wp_region_quiet_below (by kernel_rfl) (by kernel_rfl) ?_
                repeat (first | go_big_quiet_step (fail) | quiet_step (fail))
                refine wpQuiet_nil ?_
                intro _ hw'
                obtain ⟨⟨dq, osq⟩, hw''⟩ := hw'
                subst hw''
                have hbg := hbw.trans ((below_regrown w4 dq osq).mono hbw.size)
                go_wp2
                go_ret
                exact ⟨ret_bool H2.out, hbg⟩
      by_cases c2 : 192 ≤ t[0].toNat
      · obtain ⟨x0, hx0⟩ : ∃ x0 : Int, ((t[0].toNat : Nat) : Int) = x0 := ⟨_, rfl⟩
        have i0 := fun W => (index_at t 0 0 rfl h0 W).trans (by rw [hx0])
        have b0 : t[0].toNat < 256 := t[0].toNat_lt
        have q0 : 192 ≤ x0 := by omega
        have q1 : x0 < 224 := by omega
        have h0' : (0 : Int) < (t.size : Int) := by omega
        have hw : widthOf (t.data.toList.getD 0 0).toNat = 2 := by
          rw [getD_byte t 0 h0]
          unfold widthOf
          simp only [c4, c3, c2, if_false, if_true]
        have hst := properGo_step f t.data.toList (by omega) (by omega) 2 _ hw rfl
        have hd1 : decT 2 t.data.toList 1 = t[0].toNat % 32 := by
          rw [decT_one, if_neg (by decide), getD_byte t 0 h0]
        have HX := Lib.hid hx0
        have HD := Lib.hid hd1
        have hdl := decT_le 2 t.data.toList (by omega)
        have HDL := Lib.hid hdl
        have h1 := H.out
        rw [hst] at h1
        have H1 := Lib.hid h1
        clear hx0 hd1 hw hst hdl h1 H b0
        by_cases hsz : t.size < 2
        · have h2 := H1.out
          rw [if_pos (by omega)] at h2
          have H2 := Lib.hid h2
          have hsz' : (t.size : Int) < 2 := by omega
          clear h2
          go_wp2
          go_ret
          exact ⟨ret_bool H2.out, hbw⟩
        · have hsz' : (2 : Int) ≤ (t.size : Int) := by omega
          go_wp2_with fail
          go_loop [4, 5] (fun cs js => ∃ j : Nat, 1 ≤ j ∧ j ≤ 2 ∧ js = .int .i64 j ∧ cs = .int .i64 (decT 2 t.data.toList j)) (fun _ js => 2 - (intOf js).toNat)
          case atStart => exact ⟨1, by omega, by omega, rfl, val_int (by have := HX.out; have := HD.out; omega)⟩
          case round =>
            obtain ⟨j, hj1, hj2, rfl, rfl⟩ := hrel
            by_cases hj : j < 2
            · obtain ⟨y, hy⟩ : ∃ y : Int, ((t[j].toNat : Nat) : Int) = y := ⟨_, rfl⟩
              have ij := fun W => (index_at t (j : Int) j rfl (by omega) W).trans (by rw [hy])
              have y0 : 0 ≤ y := by omega
              have y1 : y < 256 := by have := t[j].toNat_lt; omega
              have ds := decT_step 2 t.data.toList j hj1
              rw [getD_byte t j (by omega)] at ds
              obtain ⟨pj, hpj⟩ : ∃ pj : Int, ((decT 2 t.data.toList j : Nat) : Int) = pj := ⟨_, rfl⟩
              have pj0 : 0 ≤ pj := by omega
              have pj1 : pj < 67108864 := by have := HDL.out j hj1 (by omega); omega
              have HF : Hid ((decT 2 t.data.toList (j + 1) : Int) = 64 * pj + y % 64) := by show _ = _; omega
              rw [hpj]
              clear hy ds hpj i0
              have hji : (j : Int) < 2 := by omega
              go_wp2
              exact ⟨⟨j + 1, by omega, by omega, by go_num, val_int (by have := HF.out; omega)⟩, by simp [intOf]; omega⟩
            · obtain rfl : j = 2 := by omega
              obtain ⟨z, hz⟩ : ∃ z : Nat, decT 2 t.data.toList 2 = z := ⟨_, rfl⟩
              rw [hz]
              have zb : z < 67108864 := by have := HDL.out 2 (by omega) (by omega); omega
              have h2 := H1.out
              rw [hz, if_neg (by omega)] at h2
              clear i0 hz
              have G := Lib.hid (fun w => G27.out z w)
              cases hh : harmB z
              · rw [hh] at G h2
                simp only [Bool.false_eq_true, if_false] at h2
                obtain ⟨zi, hzi⟩ : ∃ zi : Int, (z : Int) = zi := ⟨_, rfl⟩
                rw [hzi] at G
                rw [hzi]
                have HZ := Lib.hid hzi
                have zi0 : 0 ≤ zi := by omega
                by_cases d1 : 1114111 < z
                · rw [if_pos d1] at h2
                  have d1' : 1114111 < zi := by omega
                  have H2 := Lib.hid h2
                  clear h2 d1 hzi hh
                  go_wp2_with (go_at_call 32; refine (G.out _).mono ?_; rintro e w4 ⟨rfl, rfl⟩)
                  refine wp_region_quiet_below (by kernel_rfl) (by kernel_rfl) ?_
                  repeat (first | go_big_quiet_step (fail) | quiet_step (fail))
                  refine wpQuiet_nil ?_
                  intro _ hw'
                  obtain ⟨⟨dq, osq⟩, hw''⟩ := hw'
                  subst hw''
                  have hbg := hbw.trans ((below_regrown w4 dq osq).mono hbw.size)
                  go_wp2
                  go_ret
                  exact ⟨ret_bool H2.out, hbg⟩
                · rw [if_neg d1] at h2
                  have d1' : zi ≤ 1114111 := by omega
                  by_cases d2 : 55296 ≤ z ∧ z ≤ 57343
                  · rw [if_pos d2] at h2
                    have d2' : 55296 ≤ zi := by omega
                    have d3' : zi ≤ 57343 := by omega
                    have H2 := Lib.hid h2
                    clear h2 d1 d2 hzi hh
                    go_wp2_with (go_at_call 32; refine (G.out _).mono ?_; rintro e w4 ⟨rfl, rfl⟩)
                    refine wp_region_quiet_below (by kernel_rfl) (by kernel_rfl) ?_
                    repeat (first | go_big_quiet_step (fail) | quiet_step (fail))
                    refine wpQuiet_nil ?_
                    intro _ hw'
                    obtain ⟨⟨dq, osq⟩, hw''⟩ := hw'
                    subst hw''
                    have hbg := hbw.trans ((below_regrown w4 dq osq).mono hbw.size)
                    go_wp2
                    go_ret
                    exact ⟨ret_bool H2.out, hbg⟩
                  · rw [if_neg d2] at h2
                    have U0 := fun w => utf28 z w (by omega)
                    rw [hzi] at U0
                    obtain ⟨X, hX⟩ : ∃ X : ByteArray, ByteArray.mk (utf8L z).toArray = X := ⟨_, rfl⟩
                    have hXY : utf8L z = t.data.toList.take 2 ↔ (X.toList == (t.extract 0 2).toList) = true := by
                      rw [← hX, ByteArray.toList_eq, ByteArray.toList_eq, extract_front, beq_iff_eq]
                    rw [hX] at U0
                    have HXY := Lib.hid hXY
                    have d1n : ¬ 1114111 < zi := by omega
                    have d2s : decide (55296 ≤ zi) = false ∨ (55296 ≤ zi ∧ decide (zi ≤ 57343) = false) := by simp only [decide_eq_false_iff_not]; omega
                    clear hX hXY
                    by_cases d4 : (X.toList == (t.extract 0 2).toList) = true
                    · have h5 := HXY.out.2 d4
                      rw [if_neg (by simpa using h5)] at h2
                      have H2 := Lib.hid h2
                      clear h2 h5 d1 d2 hzi hh HXY
                      rcases d2s with d2' | ⟨d2', d3'⟩
                      all_goals
                        go_wp2_with (go_at_call 32; refine (G.out _).mono ?_; rintro e w4 ⟨rfl, rfl⟩)
                        have CU : Hid (∀ d os, Calls Tryd.prog 55 #[.int .i64 zi] (grow (redrawn w4 d) os) fun e w'' => e = .returned (.string X) ∧ ∃ p : Regrown, w'' = grow (redrawn w4 p.d) p.os) := fun d os => Calls.regrown_of (U0 _)
                        refine wp_region_quiet_below (by kernel_rfl) (by kernel_rfl) ?_
                        repeat (first | go_big_quiet_step (exact CU.out _ _) | quiet_step (exact CU.out _ _))
                        refine wpQuiet_nil ?_
                        intro _ hw'
                        obtain ⟨⟨dq, osq⟩, hw''⟩ := hw'
                        subst hw''
                        have hbg := hbw.trans ((below_regrown w4 dq osq).mono hbw.size)
                        go_wp2
                        go_roundw
                        case rel =>
                          refine ⟨t.extract 2 t.size, f - 1, rfl, ?_, ?_, hbg, ?_⟩
                          · rw [size_extract]; omega
                          · rw [size_extract]; omega
                          · rw [extract_toList]; exact H2
                        case measure =>
                          show (t.extract 2 t.size).size < t.size
                          rw [size_extract]
                          omega
                    · have h5 : utf8L z ≠ t.data.toList.take 2 := fun h => d4 (HXY.out.1 h)
                      have d4f : (X.toList == (t.extract 0 2).toList) = false := by simpa using d4
                      rw [if_pos h5] at h2
                      have H2 := Lib.hid h2
                      clear h2 h5 d1 d2 hzi hh HXY d4
                      rcases d2s with d2' | ⟨d2', d3'⟩
                      all_goals
                        go_wp2_with (go_at_call 32; refine (G.out _).mono ?_; rintro e w4 ⟨rfl, rfl⟩)
                        have CU : Hid (∀ d os, Calls Tryd.prog 55 #[.int .i64 zi] (grow (redrawn w4 d) os) fun e w'' => e = .returned (.string X) ∧ ∃ p : Regrown, w'' = grow (redrawn w4 p.d) p.os) := fun d os => Calls.regrown_of (U0 _)
                        refine wp_region_quiet_below (by kernel_rfl) (by kernel_rfl) ?_
                        repeat (first | go_big_quiet_step (exact CU.out _ _) | quiet_step (exact CU.out _ _))
                        refine wpQuiet_nil ?_
                        intro _ hw'
                        obtain ⟨⟨dq, osq⟩, hw''⟩ := hw'
                        subst hw''
                        have hbg := hbw.trans ((below_regrown w4 dq osq).mono hbw.size)
                        go_wp2
                        go_ret
                        exact ⟨ret_bool H2.out, hbg⟩
              · rw [hh] at G h2
                simp only [if_true] at h2
                have H2 := Lib.hid h2
                clear h2 hh
                go_wp2_with (go_at_call 32; refine (G.out _).mono ?_; rintro e w4 ⟨rfl, rfl⟩)
                refine wp_region_quiet_below (by kernel_rfl) (by kernel_rfl) ?_
                repeat (first | go_big_quiet_step (fail) | quiet_step (fail))
                refine wpQuiet_nil ?_
                intro _ hw'
                obtain ⟨⟨dq, osq⟩, hw''⟩ := hw'
                subst hw''
                have hbg := hbw.trans ((below_regrown w4 dq osq).mono hbw.size)
                go_wp2
                go_ret
                exact ⟨ret_bool H2.out, hbg⟩
      obtain ⟨x0, hx0⟩ : ∃ x0 : Int, ((t[0].toNat : Nat) : Int) = x0 := ⟨_, rfl⟩
      have i0 := fun W => (index_at t 0 0 rfl h0 W).trans (by rw [hx0])
      have b0 : t[0].toNat < 256 := t[0].toNat_lt
      have q0 : 0 ≤ x0 := by omega
      have q1 : x0 < 192 := by omega
      have h0' : (0 : Int) < (t.size : Int) := by omega
      have hw : widthOf (t.data.toList.getD 0 0).toNat = 1 := by
        rw [getD_byte t 0 h0]
        unfold widthOf
        simp only [c4, c3, c2, if_false]
      have hst := properGo_step f t.data.toList (by omega) (by omega) 1 _ hw rfl
      have hd1 : decT 1 t.data.toList 1 = t[0].toNat := by
        rw [decT_one, if_pos rfl, getD_byte t 0 h0]
      have HX := Lib.hid hx0
      have HD := Lib.hid hd1
      have hdl := decT_le 1 t.data.toList (by omega)
      have HDL := Lib.hid hdl
      have h1 := H.out
      rw [hst] at h1
      have H1 := Lib.hid h1
      clear hx0 hd1 hw hst hdl h1 H b0
      have hsz' : (1 : Int) ≤ (t.size : Int) := by omega
      go_wp2_with fail
      go_loop [4, 5] (fun cs js => ∃ j : Nat, 1 ≤ j ∧ j ≤ 1 ∧ js = .int .i64 j ∧ cs = .int .i64 (decT 1 t.data.toList j)) (fun _ js => 1 - (intOf js).toNat)
      case atStart => exact ⟨1, by omega, by omega, rfl, val_int (by have := HX.out; have := HD.out; omega)⟩
      case round =>
        obtain ⟨j, hj1, hj2, rfl, rfl⟩ := hrel
        by_cases hj : j < 1
        · omega
        · obtain rfl : j = 1 := by omega
          obtain ⟨z, hz⟩ : ∃ z : Nat, decT 1 t.data.toList 1 = z := ⟨_, rfl⟩
          rw [hz]
          have zb : z < 67108864 := by have := HDL.out 1 (by omega) (by omega); omega
          have h2 := H1.out
          rw [hz, if_neg (by omega)] at h2
          clear i0 hz
          have G := Lib.hid (fun w => G27.out z w)
          cases hh : harmB z
          · rw [hh] at G h2
            simp only [Bool.false_eq_true, if_false] at h2
            obtain ⟨zi, hzi⟩ : ∃ zi : Int, (z : Int) = zi := ⟨_, rfl⟩
            rw [hzi] at G
            rw [hzi]
            have HZ := Lib.hid hzi
            have zi0 : 0 ≤ zi := by omega
            by_cases d1 : 1114111 < z
            · rw [if_pos d1] at h2
              have d1' : 1114111 < zi := by omega
              have H2 := Lib.hid h2
              clear h2 d1 hzi hh
              go_wp2_with (go_at_call 32; refine (G.out _).mono ?_; rintro e w4 ⟨rfl, rfl⟩)
              refine wp_region_quiet_below (by kernel_rfl) (by kernel_rfl) ?_
              repeat (first | go_big_quiet_step (fail) | quiet_step (fail))
              refine wpQuiet_nil ?_
              intro _ hw'
              obtain ⟨⟨dq, osq⟩, hw''⟩ := hw'
              subst hw''
              have hbg := hbw.trans ((below_regrown w4 dq osq).mono hbw.size)
              go_wp2
              go_ret
              exact ⟨ret_bool H2.out, hbg⟩
            · rw [if_neg d1] at h2
              have d1' : zi ≤ 1114111 := by omega
              by_cases d2 : 55296 ≤ z ∧ z ≤ 57343
              · rw [if_pos d2] at h2
                have d2' : 55296 ≤ zi := by omega
                have d3' : zi ≤ 57343 := by omega
                have H2 := Lib.hid h2
                clear h2 d1 d2 hzi hh
                go_wp2_with (go_at_call 32; refine (G.out _).mono ?_; rintro e w4 ⟨rfl, rfl⟩)
                refine wp_region_quiet_below (by kernel_rfl) (by kernel_rfl) ?_
                repeat (first | go_big_quiet_step (fail) | quiet_step (fail))
                refine wpQuiet_nil ?_
                intro _ hw'
                obtain ⟨⟨dq, osq⟩, hw''⟩ := hw'
                subst hw''
                have hbg := hbw.trans ((below_regrown w4 dq osq).mono hbw.size)
                go_wp2
                go_ret
                exact ⟨ret_bool H2.out, hbg⟩
              · rw [if_neg d2] at h2
                have U0 := fun w => utf28 z w (by omega)
                rw [hzi] at U0
                obtain ⟨X, hX⟩ : ∃ X : ByteArray, ByteArray.mk (utf8L z).toArray = X := ⟨_, rfl⟩
                have hXY : utf8L z = t.data.toList.take 1 ↔ (X.toList == (t.extract 0 1).toList) = true := by
                  rw [← hX, ByteArray.toList_eq, ByteArray.toList_eq, extract_front, beq_iff_eq]
                rw [hX] at U0
                have HXY := Lib.hid hXY
                have d1n : ¬ 1114111 < zi := by omega
                have d2s : decide (55296 ≤ zi) = false ∨ (55296 ≤ zi ∧ decide (zi ≤ 57343) = false) := by simp only [decide_eq_false_iff_not]; omega
                clear hX hXY
                by_cases d4 : (X.toList == (t.extract 0 1).toList) = true
                · have h5 := HXY.out.2 d4
                  rw [if_neg (by simpa using h5)] at h2
                  have H2 := Lib.hid h2
                  clear h2 h5 d1 d2 hzi hh HXY
                  rcases d2s with d2' | ⟨d2', d3'⟩
                  all_goals
                    go_wp2_with (go_at_call 32; refine (G.out _).mono ?_; rintro e w4 ⟨rfl, rfl⟩)
                    have CU : Hid (∀ d os, Calls Tryd.prog 55 #[.int .i64 zi] (grow (redrawn w4 d) os) fun e w'' => e = .returned (.string X) ∧ ∃ p : Regrown, w'' = grow (redrawn w4 p.d) p.os) := fun d os => Calls.regrown_of (U0 _)
                    refine wp_region_quiet_below (by kernel_rfl) (by kernel_rfl) ?_
                    repeat (first | go_big_quiet_step (exact CU.out _ _) | quiet_step (exact CU.out _ _))
                    refine wpQuiet_nil ?_
                    intro _ hw'
                    obtain ⟨⟨dq, osq⟩, hw''⟩ := hw'
                    subst hw''
                    have hbg := hbw.trans ((below_regrown w4 dq osq).mono hbw.size)
                    go_wp2
                    go_roundw
                    case rel =>
                      refine ⟨t.extract 1 t.size, f - 1, rfl, ?_, ?_, hbg, ?_⟩
                      · rw [size_extract]; omega
                      · rw [size_extract]; omega
                      · rw [extract_toList]; exact H2
                    case measure =>
                      show (t.extract 1 t.size).size < t.size
                      rw [size_extract]
                      omega
                · have h5 : utf8L z ≠ t.data.toList.take 1 := fun h => d4 (HXY.out.1 h)
                  have d4f : (X.toList == (t.extract 0 1).toList) = false := by simpa using d4
                  rw [if_pos h5] at h2
                  have H2 := Lib.hid h2
                  clear h2 h5 d1 d2 hzi hh HXY d4
                  rcases d2s with d2' | ⟨d2', d3'⟩
                  all_goals
                    go_wp2_with (go_at_call 32; refine (G.out _).mono ?_; rintro e w4 ⟨rfl, rfl⟩)
                    have CU : Hid (∀ d os, Calls Tryd.prog 55 #[.int .i64 zi] (grow (redrawn w4 d) os) fun e w'' => e = .returned (.string X) ∧ ∃ p : Regrown, w'' = grow (redrawn w4 p.d) p.os) := fun d os => Calls.regrown_of (U0 _)
                    refine wp_region_quiet_below (by kernel_rfl) (by kernel_rfl) ?_
                    repeat (first | go_big_quiet_step (exact CU.out _ _) | quiet_step (exact CU.out _ _))
                    refine wpQuiet_nil ?_
                    intro _ hw'
                    obtain ⟨⟨dq, osq⟩, hw''⟩ := hw'
                    subst hw''
                    have hbg := hbw.trans ((below_regrown w4 dq osq).mono hbw.size)
                    go_wp2
                    go_ret
                    exact ⟨ret_bool H2.out, hbg⟩
          · rw [hh] at G h2
            simp only [if_true] at h2
            have H2 := Lib.hid h2
            clear h2 hh
            go_wp2_with (go_at_call 32; refine (G.out _).mono ?_; rintro e w4 ⟨rfl, rfl⟩)
            refine wp_region_quiet_below (by kernel_rfl) (by kernel_rfl) ?_
            repeat (first | go_big_quiet_step (fail) | quiet_step (fail))
            refine wpQuiet_nil ?_
            intro _ hw'
            obtain ⟨⟨dq, osq⟩, hw''⟩ := hw'
            subst hw''
            have hbg := hbw.trans ((below_regrown w4 dq osq).mono hbw.size)
            go_wp2
            go_ret
            exact ⟨ret_bool H2.out, hbg⟩
    · have h2 := H.out
      have htl : t.data.toList.length = t.size := by simp
      have htn : t.data.toList = [] := List.eq_nil_of_length_eq_zero (by omega)
      rw [htn] at h2
      have h3 : r = true := by
        rw [← h2]
        cases f <;> rfl
      have H3 := Lib.hid h3
      have hne : t.toList.isEmpty = true := by rw [ByteArray.toList_eq, htn]; rfl
      clear h2 h3 htn H
      go_wp2
      go_ret
      exact ⟨ret_bool H3.out.symm, hbw⟩
end Go.Proofs.YteibjmlimcpaoaaDoor
