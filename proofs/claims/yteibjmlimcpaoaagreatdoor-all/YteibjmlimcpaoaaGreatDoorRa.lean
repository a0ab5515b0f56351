/-
  The document's own side: what visorref.number, head, rights, naming answer, of a table's bytes.
  The document's own side: what visorref.naming and head answer, of a table's bytes.
  The document's own side: what visorref.isPolicy and refuses answer.
-/
import Derived.Test.YteibjmlimcpaoaaGreatDoorPa
import Derived.Test.YteibjmlimcpaoaaGreatDoorEa
import Derived.Test.YteibjmlimcpaoaaGreatDoorWb
set_option linter.unusedVariables false
set_option linter.unusedSimpArgs false
namespace Go.Proofs.YteibjmlimcpaoaaGreatDoor.V
open Go.RowKit Go.Sort
open Go.Proofs.YteibjmlimcpaoaaGreatDoor.W (at_below at_alloc new_at below_alloc)

def numG (l : List UInt8) (a : Nat) : Nat → Nat
  | 0 => 0
  | k + 1 => 256 * numG l a k + num1 l (a + k)
theorem numG2 (l : List UInt8) (a : Nat) : numG l a 2 = num2 l a := by
  simp [numG, num2]
theorem numG4 (l : List UInt8) (a : Nat) : numG l a 4 = num4 l a := by
  simp only [numG, num4, num2, Nat.add_zero]
  have e : a + 2 + 1 = a + 3 := by omega
  rw [e]
  omega
theorem numG_lt (l : List UInt8) (a k : Nat) (hk : k ≤ 3) : numG l a k < 16777216 := by
  have b0 := num1_lt l a
  have b1 := num1_lt l (a + 1)
  have b2 := num1_lt l (a + 2)
  have hc : k = 0 ∨ k = 1 ∨ k = 2 ∨ k = 3 := by omega
  rcases hc with rfl | rfl | rfl | rfl
  · simp [numG]
  · simp only [numG, Nat.add_zero]
    omega
  · simp only [numG, Nat.add_zero]
    omega
  · simp only [numG, Nat.add_zero]
    omega
theorem val_int {k : IntKind} {a b : Int} (h : a = b) : Value.int k a = Value.int k b := by rw [h]
theorem ret_int {k : IntKind} {a b : Int} (h : a = b) : Ending.returned (.int k a) = .returned (.int k b) := by rw [h]

set_option maxRecDepth 100000 in
set_option maxHeartbeats 1000000 in
theorem numberV (l : List UInt8) (a m : Nat) (w : World) (hm : m ≤ 4) (ha : a + m ≤ l.length) (hl : l.length ≤ 9223372036854775807) :
    Calls Tryz.prog 59 #[.string ⟨l.toArray⟩, .int .i64 (a : Int), .int .i64 (m : Int)] w fun e w' => e = .returned (.int .i64 ((numG l a m : Nat) : Int)) ∧ w' = w := by
  go_enter Tryz.func59, Tryz.ntmps59
  go_wp2
  go_loopw [7, 8] (fun ns is wr => ∃ (k : Nat), is = .int .i64 (k : Int) ∧ k ≤ m ∧ ns = .int .i64 ((numG l a k : Nat) : Int) ∧ wr = w) (fun _ is _ => m - (intOf is).toNat)
  case atStart => exact ⟨0, rfl, Nat.zero_le _, rfl, rfl⟩
  case round =>
    obtain ⟨k, rfl, hk, rfl, rfl⟩ := hrel
    by_cases hk1 : k < m
    · have hs : numG l a (k + 1) = 256 * numG l a k + num1 l (a + k) := rfl
      have hb := numG_lt l a k (by omega)
      have hb1 := num1_lt l (a + k)
      have hsz : (⟨l.toArray⟩ : ByteArray).size = l.length := by show Array.size _ = _; simp
      have hlt : a + k < l.length := by omega
      have hix : ∀ W : World, (Instr.index 9 (.string ⟨l.toArray⟩) (.int .i64 ((a : Int) + (k : Int)))).run Tryz.prog W = .ok (.int .u8 ((num1 l (a + k) : Nat) : Int)) W := by
        intro W
        rw [index_at ⟨l.toArray⟩ _ (a + k) (by omega) (by omega) W]
        congr 2
        unfold num1
        rw [List.getD_eq_getElem?_getD, List.getElem?_eq_getElem hlt]
        rfl
      have c1 : (k : Int) < (m : Int) := by omega
      generalize numG l a k = n at *
      generalize num1 l (a + k) = x at *
      have hn : n < 16777216 := hb
      go_wp2
      exact ⟨⟨k + 1, by go_num, by omega, by rw [hs]; exact val_int (by omega), (by first | rfl | trivial)⟩, by simp [intOf]; omega⟩
    · have c1 : ¬ ((k : Int) < (m : Int)) := by omega
      obtain rfl : k = m := by omega
      go_wp2
      go_ret
      exact ⟨rfl, rfl⟩
end Go.Proofs.YteibjmlimcpaoaaGreatDoor.V

set_option linter.unusedVariables false
set_option linter.unusedSimpArgs false
namespace Go.Proofs.YteibjmlimcpaoaaGreatDoor.V
open Go.RowKit Go.Sort
open Go.Proofs.YteibjmlimcpaoaaGreatDoor.W (at_below at_alloc new_at below_alloc)

theorem number2 (l : List UInt8) (a : Nat) (w : World) (ha : a + 2 ≤ l.length) (hl : l.length ≤ 9223372036854775807) :
    Calls Tryz.prog 59 #[.string ⟨l.toArray⟩, .int .i64 (a : Int), .int .i64 2] w fun e w' => e = .returned (.int .i64 ((num2 l a : Nat) : Int)) ∧ w' = w := by
  have := numberV l a 2 w (by omega) ha hl
  rw [numG2] at this
  exact this
theorem number4 (l : List UInt8) (a : Nat) (w : World) (ha : a + 4 ≤ l.length) (hl : l.length ≤ 9223372036854775807) :
    Calls Tryz.prog 59 #[.string ⟨l.toArray⟩, .int .i64 (a : Int), .int .i64 4] w fun e w' => e = .returned (.int .i64 ((num4 l a : Nat) : Int)) ∧ w' = w := by
  have := numberV l a 4 w (by omega) ha hl
  rw [numG4] at this
  exact this

set_option maxRecDepth 100000 in
set_option maxHeartbeats 1000000 in
theorem namingV (l : List UInt8) (w : World) (hl : l.length ≤ 9223372036854775807) :
    Calls Tryz.prog 39 #[.string ⟨l.toArray⟩] w fun e w' => e = .returned (.int .i64 ((countL l 6 12 : Nat) : Int)) ∧ w' = w := by
  by_cases h1 : l.length < 6
  · have e : countL l 6 12 = 5 := by unfold countL; rw [if_pos h1]
    rw [e]
    have c1 : (l.length : Int) < 6 := by omega
    go_enter Tryz.func39, Tryz.ntmps39
    go_wp2
    go_ret
    exact ⟨rfl, rfl⟩
  · have A := Lib.hid (number2 l 0 w (by omega) hl)
    have B := Lib.hid (number2 l 2 w (by omega) hl)
    have c1 : ¬ ((l.length : Int) < 6) := by omega
    have hb := num2_lt l 2
    have e : countL l 6 12 = if num2 l 0 ≠ 0 then 7 else if 20 < num2 l 2 then 6 else if 6 + 12 * num2 l 2 ≤ l.length then 0 else 5 := by unfold countL; rw [if_neg h1]
    rw [e]
    obtain ⟨x, hx⟩ : ∃ x : Int, ((num2 l 0 : Nat) : Int) = x := ⟨_, rfl⟩
    obtain ⟨y, hy⟩ : ∃ y : Int, ((num2 l 2 : Nat) : Int) = y := ⟨_, rfl⟩
    rw [hx] at A
    rw [hy] at B
    have hy0 : 0 ≤ y ∧ y < 65536 := by omega
    have fin : ((if num2 l 0 ≠ 0 then 7 else if 20 < num2 l 2 then 6 else if 6 + 12 * num2 l 2 ≤ l.length then 0 else 5 : Nat) : Int) = if x = 0 then (if 20 < y then 6 else if (l.length : Int) < 6 + 12 * y then 5 else 0) else 7 := by
      repeat' split
      all_goals omega
    rw [fin]
    clear e fin hx hy hb
    go_enter Tryz.func39, Tryz.ntmps39
    go_wp2_with (first
      | (go_at_call_of 59 (Value.int IntKind.i64 0); refine A.out.mono ?_; rintro e w1 ⟨rfl, hw1⟩; have hw1 := hw1.symm; subst hw1)
      | (go_at_call 59; refine B.out.mono ?_; rintro e w1 ⟨rfl, hw1⟩; have hw1 := hw1.symm; subst hw1))
    all_goals go_ret
    all_goals refine ⟨ret_int ?_, rfl⟩
    all_goals (repeat' split)
    all_goals first | rfl | omega | simp_all
end Go.Proofs.YteibjmlimcpaoaaGreatDoor.V

set_option linter.unusedVariables false
set_option linter.unusedSimpArgs false
namespace Go.Proofs.YteibjmlimcpaoaaGreatDoor.V
open Go.RowKit Go.Sort
open Go.Proofs.YteibjmlimcpaoaaGreatDoor.W (at_below at_alloc new_at below_alloc cellsAt PolIs pv strV scells icells)

theorem ok_iff (P : Pol) : P.ok = true ↔ P.tags.length ≤ 8 ∧ P.ids.length ≤ 8 ∧ (1 ≤ P.text ∧ P.text ≤ 60) ∧ (∀ t ∈ P.tags, tagB t = true) ∧ ∀ i ∈ P.ids, idB i = true := by
  unfold Pol.ok
  simp only [Bool.and_eq_true, decide_eq_true_eq, List.all_eq_true]
  constructor
  · rintro ⟨⟨⟨⟨a, b⟩, c⟩, d⟩, e⟩
    exact ⟨a, b, c, d, e⟩
  · rintro ⟨a, b, c, d, e⟩
    exact ⟨⟨⟨⟨a, b⟩, c⟩, d⟩, e⟩
theorem ret_boolV {a b : Bool} (h : a = b) : Ending.returned (.bool a) = .returned (.bool b) := by rw [h]

set_option maxRecDepth 100000 in
set_option maxHeartbeats 1000000 in
theorem isPolicyV (P : Pol) (T I : Value) (w : World) (hp : PolIs P T I w) (q : Bool) (hq : P.ok = q) :
    Calls Tryz.prog 58 #[pv T I P.text] w fun e w' => e = .returned (.bool q) ∧ Below w.heap.size w w' := by
  have HQ := Lib.hid ((ok_iff P).symm.trans (by rw [hq]))
  obtain ⟨ta, tc, hTe, _⟩ := id hp.tags
  obtain ⟨ia, ic, hIe, _⟩ := id hp.ids
  subst hTe hIe
  obtain ⟨W, hW⟩ : ∃ W, w.alloc (.cells #[.slice ta P.tags.length tc, .slice ia P.ids.length ic, .int .i64 P.text] 25) = W := ⟨_, rfl⟩
  have hbW : Below w.heap.size w W := by rw [← hW]; exact below_alloc _ _
  have n0 : W.heap[w.heap.size]? = some (.cells #[.slice ta P.tags.length tc, .slice ia P.ids.length ic, .int .i64 P.text] 25 (0, 0)) := by rw [← hW]; exact new_at _ _
  have TG := Lib.hid (hp.tags.on hbW)
  have IG := Lib.hid (hp.ids.on hbW)
  have hts := hp.ts
  have HTS := Lib.hid hts
  have y0 := cellsAt n0 0
  have y1 := cellsAt n0 1
  have y2 := cellsAt n0 2
  simp only [List.getElem?_toArray, List.getElem?_cons_zero, List.getElem?_cons_succ] at y0 y1 y2
  unfold pv
  clear n0 hp hts hq
  by_cases h0 : P.tags.length ≤ 8 ∧ P.ids.length ≤ 8 ∧ (1 ≤ P.text ∧ P.text ≤ 60)
  · obtain ⟨a1, a2, a3, a4⟩ := h0
    have c1 : ¬ ((8 : Int) < (P.tags.length : Int)) := by omega
    have c2 : ¬ ((8 : Int) < (P.ids.length : Int)) := by omega
    have c3 : ¬ (P.text < 1) := by omega
    have c4 : ¬ (60 < P.text) := by omega
    go_enter Tryz.func58, Tryz.ntmps58
    go_wp2
    go_loopw [3] (fun is wr => ∃ (k : Nat), is = .int .i64 (k : Int) ∧ k ≤ P.tags.length ∧ wr = W ∧ Hid (∀ j t, j < k → P.tags[j]? = some t → tagB t = true)) (fun is _ => P.tags.length - (intOf is).toNat)
    case atStart => exact ⟨0, rfl, Nat.zero_le _, rfl, Lib.hid (fun j t hj => by omega)⟩
    case round =>
      obtain ⟨k, rfl, hk, rfl, HA⟩ := hrel
      by_cases hk1 : k < P.tags.length
      · obtain ⟨_, _, hao, ha⟩ := TG.out
        cases hao
        obtain ⟨g, o, rfl, hca⟩ := ha (by omega)
        obtain ⟨t, ht⟩ : ∃ t, P.tags[k]? = some t := ⟨_, List.getElem?_eq_getElem hk1⟩
        have c0 := hca k (strV t) (by unfold scells; rw [List.getElem?_map, ht]; rfl)
        unfold strV at c0
        have hl := HTS.out t (List.mem_of_getElem? ht)
        have ik0 : (0 : Int) ≤ (k : Int) := by omega
        have ik1 : (k : Int) < (P.tags.length : Int) := by omega
        have HT := Lib.hid ht
        clear ha hca ht
        by_cases h4 : t.length = 4
        · have d4 : ((t.length : Nat) : Int) = 4 := by omega
          go_wp2
          go_loopw [5] (fun is wx => ∃ (j : Nat), is = .int .i64 (j : Int) ∧ j ≤ 4 ∧ wx = wr ∧ Hid (∀ i c, i < j → t[i]? = some c → 32 ≤ c.toNat ∧ c.toNat ≤ 126)) (fun is _ => 4 - (intOf is).toNat)
          case atStart => exact ⟨0, rfl, by omega, rfl, Lib.hid (fun i c hi => by omega)⟩
          case round =>
            obtain ⟨j, rfl, hj, rfl, HC⟩ := hrel
            by_cases hj1 : j < 4
            · obtain ⟨c, hc⟩ : ∃ c, t[j]? = some c := ⟨_, List.getElem?_eq_getElem (by omega)⟩
              have hsz : (⟨t.toArray⟩ : ByteArray).size = t.length := by show Array.size _ = _; simp
              have hix : ∀ W : World, (Instr.index 9 (.string ⟨t.toArray⟩) (.int .i64 (j : Int))).run Tryz.prog W = .ok (.int .u8 ((c.toNat : Nat) : Int)) W := by
                intro W
                rw [index_at ⟨t.toArray⟩ _ j rfl (by omega) W]
                have hlt : j < t.length := by omega
                have he : t[j] = c := Option.some.inj ((List.getElem?_eq_getElem hlt).symm.trans hc)
                rw [← he]
                rfl
              have e1 : (j : Int) < 4 := by omega
              have HK := Lib.hid hc
              clear hc hsz
              by_cases l1 : c.toNat < 32
              · have l2 : ((c.toNat : Nat) : Int) < 32 := by omega
                have hqf : q = false := by
                  cases q with
                  | false => rfl
                  | true =>
                    have h := (HQ.out.2 rfl).2.2.2.1 t (List.mem_of_getElem? HT.out)
                    unfold tagB at h
                    simp only [Bool.and_eq_true, List.all_eq_true, decide_eq_true_eq] at h
                    have := h.2 c (List.mem_of_getElem? HK.out)
                    omega
                go_wp2
                go_ret
                first | exact ⟨ret_boolV hqf.symm, hbW⟩ | exact ⟨rfl, hbW⟩
              · have l2 : ¬ (((c.toNat : Nat) : Int) < 32) := by omega
                by_cases l3 : 126 < c.toNat
                · have l4 : (126 : Int) < ((c.toNat : Nat) : Int) := by omega
                  have hqf : q = false := by
                    cases q with
                    | false => rfl
                    | true =>
                      have h := (HQ.out.2 rfl).2.2.2.1 t (List.mem_of_getElem? HT.out)
                      unfold tagB at h
                      simp only [Bool.and_eq_true, List.all_eq_true, decide_eq_true_eq] at h
                      have := h.2 c (List.mem_of_getElem? HK.out)
                      omega
                  go_wp2
                  go_ret
                  first | exact ⟨ret_boolV hqf.symm, hbW⟩ | exact ⟨rfl, hbW⟩
                · have l4 : ¬ ((126 : Int) < ((c.toNat : Nat) : Int)) := by omega
                  go_wp2
                  exact ⟨⟨j + 1, by go_num, by omega, (by first | rfl | trivial), Lib.hid (fun i d hi hd => by
                    by_cases e : i = j
                    · subst e
                      have := HK.out
                      rw [this] at hd
                      cases hd
                      omega
                    · exact HC.out i d (by omega) hd)⟩, by simp [intOf]; omega⟩
            · have hge : ¬ ((j : Int) < 4) := by omega
              have ht1 : tagB t = true := by
                unfold tagB
                simp only [Bool.and_eq_true, List.all_eq_true, decide_eq_true_eq]
                refine ⟨h4, fun c hc => ?_⟩
                obtain ⟨i, hi, rfl⟩ := List.getElem_of_mem hc
                exact HC.out i _ (by omega) (List.getElem?_eq_getElem hi)
              have HT1 := Lib.hid ht1
              clear ht1
              go_wp2
              exact ⟨⟨k + 1, by go_num, by omega, (by first | rfl | trivial), Lib.hid (fun i d hi hd => by
                by_cases e : i = k
                · subst e
                  have := HT.out
                  rw [this] at hd
                  cases hd
                  exact HT1.out
                · exact HA.out i d (by omega) hd)⟩, by simp [intOf]; omega⟩
        · have d4 : ¬ (((t.length : Nat) : Int) = 4) := by omega
          have hqf : q = false := by
            cases q with
            | false => rfl
            | true =>
              have := (HQ.out.2 rfl).2.2.2.1 t (List.mem_of_getElem? HT.out)
              simp [tagB, h4] at this
          go_wp2
          go_ret
          first | exact ⟨ret_boolV hqf.symm, hbW⟩ | exact ⟨rfl, hbW⟩
      · have hge : ¬ ((k : Int) < (P.tags.length : Int)) := by omega
        go_wp2
        go_loopw [6] (fun is wx => ∃ (j : Nat), is = .int .i64 (j : Int) ∧ j ≤ P.ids.length ∧ wx = wr ∧ Hid (∀ i c, i < j → P.ids[i]? = some c → idB c = true)) (fun is _ => P.ids.length - (intOf is).toNat)
        case atStart => exact ⟨0, rfl, Nat.zero_le _, rfl, Lib.hid (fun i c hi => by omega)⟩
        case round =>
          obtain ⟨j, rfl, hj, rfl, HC⟩ := hrel
          by_cases hj1 : j < P.ids.length
          · obtain ⟨_, _, hao, ha⟩ := IG.out
            cases hao
            obtain ⟨g, o, rfl, hca⟩ := ha (by omega)
            obtain ⟨t, ht⟩ : ∃ t, P.ids[j]? = some t := ⟨_, List.getElem?_eq_getElem hj1⟩
            have c0 := hca j (.int .i64 t) (by unfold icells; rw [List.getElem?_map, ht]; rfl)
            have ik0 : (0 : Int) ≤ (j : Int) := by omega
            have ik1 : (j : Int) < (P.ids.length : Int) := by omega
            have HT := Lib.hid ht
            have A := Lib.hid (fun (w : World) => to17 65535 t w)
            have htB : toB 65535 t = idB t := by unfold toB idB; first | rfl | (rw [decide_eq_decide]) | simp
            rw [htB] at A
            obtain ⟨z, hz⟩ : ∃ z, idB t = z := ⟨_, rfl⟩
            rw [hz] at A
            have HZ := Lib.hid hz
            clear ha hca ht hz htB
            cases z with
            | false =>
              have hqf : q = false := by
                cases q with
                | false => rfl
                | true =>
                  have h := (HQ.out.2 rfl).2.2.2.2 t (List.mem_of_getElem? HT.out)
                  rw [HZ.out] at h
                  cases h
              go_wp2_with (go_at_call 83; refine (A.out _).mono ?_; rintro e w1 ⟨rfl, hw1⟩; have hw1 := hw1.symm; subst hw1)
              go_ret
              first | exact ⟨ret_boolV hqf.symm, hbW⟩ | exact ⟨rfl, hbW⟩
            | true =>
              go_wp2_with (go_at_call 83; refine (A.out _).mono ?_; rintro e w1 ⟨rfl, hw1⟩; have hw1 := hw1.symm; subst hw1)
              exact ⟨⟨j + 1, by go_num, by omega, (by first | rfl | trivial), Lib.hid (fun i d hi hd => by
                by_cases e : i = j
                · subst e
                  have := HT.out
                  rw [this] at hd
                  cases hd
                  exact HZ.out
                · exact HC.out i d (by omega) hd)⟩, by simp [intOf]; omega⟩
          · have hge2 : ¬ ((j : Int) < (P.ids.length : Int)) := by omega
            have hqt : q = true := by
              apply HQ.out.1
              refine ⟨a1, a2, ⟨a3, a4⟩, fun t ht => ?_, fun i hi => ?_⟩
              · obtain ⟨n, hn, rfl⟩ := List.getElem_of_mem ht
                exact HA.out n _ (by omega) (List.getElem?_eq_getElem hn)
              · obtain ⟨n, hn, rfl⟩ := List.getElem_of_mem hi
                exact HC.out n _ (by omega) (List.getElem?_eq_getElem hn)
            go_wp2
            go_ret
            first | exact ⟨ret_boolV hqt.symm, hbW⟩ | exact ⟨rfl, hbW⟩
  · have hqf : q = false := by
      cases q with
      | false => rfl
      | true =>
        have := HQ.out.2 rfl
        exact absurd ⟨this.1, this.2.1, this.2.2.1⟩ h0
    have cs : (8 < (P.tags.length : Int)) ∨ (¬ (8 < (P.tags.length : Int)) ∧ 8 < (P.ids.length : Int)) ∨ (¬ (8 < (P.tags.length : Int)) ∧ ¬ (8 < (P.ids.length : Int)) ∧ P.text < 1) ∨ (¬ (8 < (P.tags.length : Int)) ∧ ¬ (8 < (P.ids.length : Int)) ∧ ¬ P.text < 1 ∧ 60 < P.text) := by omega
    subst hqf
    rcases cs with c1 | ⟨c1, c2⟩ | ⟨c1, c2, c3⟩ | ⟨c1, c2, c3, c4⟩
    all_goals (
      go_enter Tryz.func58, Tryz.ntmps58
      go_wp2
      go_ret
      exact ⟨rfl, hbW⟩)

set_option maxRecDepth 100000 in
set_option maxHeartbeats 1000000 in
theorem refusesV (P : Pol) (T I : Value) (D : List UInt8) (w : World) (hD : D.length ≤ 9223372036854775807) (hp : PolIs P T I w) :
    Calls Tryz.prog 33 #[pv T I P.text, strV D] w fun e w' => e = .returned (.int .i64 (if P.ok = false then 2 else if 2000 < D.length then 3 else 0)) ∧ Below w.heap.size w w' := by
  obtain ⟨ta, tc, hTe, _⟩ := id hp.tags
  obtain ⟨ia, ic, hIe, _⟩ := id hp.ids
  subst hTe hIe
  obtain ⟨W, hW⟩ : ∃ W, w.alloc (.cells #[.slice ta P.tags.length tc, .slice ia P.ids.length ic, .int .i64 P.text] 25) = W := ⟨_, rfl⟩
  have hbW : Below w.heap.size w W := by rw [← hW]; exact below_alloc _ _
  have n0 : W.heap[w.heap.size]? = some (.cells #[.slice ta P.tags.length tc, .slice ia P.ids.length ic, .int .i64 P.text] 25 (0, 0)) := by rw [← hW]; exact new_at _ _
  have y0 := cellsAt n0 0
  have y1 := cellsAt n0 1
  have y2 := cellsAt n0 2
  simp only [List.getElem?_toArray, List.getElem?_cons_zero, List.getElem?_cons_succ] at y0 y1 y2
  have A := Lib.hid (isPolicyV P (.slice ta P.tags.length tc) (.slice ia P.ids.length ic) W (hp.on hbW) _ rfl)
  unfold pv at A ⊢
  unfold strV
  obtain ⟨q, hq⟩ : ∃ q, P.ok = q := ⟨_, rfl⟩
  rw [hq] at A ⊢
  clear n0 hp hq
  cases q with
  | false =>
    rw [if_pos rfl]
    go_enter Tryz.func33, Tryz.ntmps33
    go_wp2_with (go_at_call 58; refine A.out.mono ?_; rintro e w1 ⟨rfl, hb1⟩)
    go_ret
    exact ⟨rfl, hbW.trans (hb1.mono hbW.size)⟩
  | true =>
    rw [if_neg (by simp)]
    by_cases h2 : 2000 < D.length
    · rw [if_pos h2]
      have c1 : (2000 : Int) < (D.length : Int) := by omega
      go_enter Tryz.func33, Tryz.ntmps33
      go_wp2_with (go_at_call 58; refine A.out.mono ?_; rintro e w1 ⟨rfl, hb1⟩)
      go_ret
      exact ⟨rfl, hbW.trans (hb1.mono hbW.size)⟩
    · rw [if_neg h2]
      have c1 : ¬ ((2000 : Int) < (D.length : Int)) := by omega
      go_enter Tryz.func33, Tryz.ntmps33
      go_wp2_with (go_at_call 58; refine A.out.mono ?_; rintro e w1 ⟨rfl, hb1⟩)
      go_ret
      exact ⟨rfl, hbW.trans (hb1.mono hbW.size)⟩
end Go.Proofs.YteibjmlimcpaoaaGreatDoor.V
