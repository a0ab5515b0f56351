/-
  What the law's own lentPolicy answers: the same policy, its lists in new memory with eight more behind them; nothing that lay in memory turns.
  What the law's own sameS, sameI and keptPolicy answer of a policy that is as it was lent: true; only the two lent lists turn.
-/
import Derived.Test.YteibjmlimcpaoaaGreatDoorEa
import Derived.Test.YteibjmlimcpaoaaGreatDoorWb
set_option linter.unusedVariables false
set_option linter.unusedSimpArgs false
namespace Go.Proofs.YteibjmlimcpaoaaGreatDoor.V
open Go.RowKit Go.Sort
open Go.Proofs.YteibjmlimcpaoaaGreatDoor.W (PolIs pv strV scells icells)

theorem sizeS1 : (Tryz.prog.info? 9).map (·.size) = some 1 := by kernel_rfl
theorem sizeI1 : (Tryz.prog.info? 3).map (·.size) = some 1 := by kernel_rfl
theorem infoS1 : (Tryz.prog.info? 9).map (fun i => (i.zero, i.size, i.bytes)) = some (some (.string ⟨#[]⟩), 1, 16) := by kernel_rfl
theorem infoI1 : (Tryz.prog.info? 3).map (fun i => (i.zero, i.size, i.bytes)) = some (some (.int .i64 0), 1, 8) := by kernel_rfl
theorem makeS (n : Nat) (hn : n ≤ 8796093021952) : ∃ MT : Array Value, MT.size = n + 8 ∧ ∀ W : World, (Instr.makeSlice 22 (.int .i64 ((n : Int) + 8)) (.int .i64 ((n : Int) + 8))).run Tryz.prog W = .ok (.slice (some ⟨W.heap.size, 0, none⟩) (n + 8) (n + 8)) (W.alloc (.cells MT 9)) := by
  obtain ⟨i0, hi, hz0, hz1, hz2⟩ := info_parts infoS1
  have h := fun W => run_make (P := Tryz.prog) W 22 9 i0 _ Tryz.underlying22 hi hz0 .i64 .i64 ((n : Int) + 8) ((n : Int) + 8) (by omega) (by omega) (by rw [hz2]; omega) (by omega)
  rw [show ((n : Int) + 8).toNat = n + 8 by omega, hz1] at h
  exact ⟨_, by rw [size_madeCells, Nat.mul_one], h⟩
theorem makeI (n : Nat) (hn : n ≤ 17592186043904) : ∃ MT : Array Value, MT.size = n + 8 ∧ ∀ W : World, (Instr.makeSlice 23 (.int .i64 ((n : Int) + 8)) (.int .i64 ((n : Int) + 8))).run Tryz.prog W = .ok (.slice (some ⟨W.heap.size, 0, none⟩) (n + 8) (n + 8)) (W.alloc (.cells MT 3)) := by
  obtain ⟨i0, hi, hz0, hz1, hz2⟩ := info_parts infoI1
  have h := fun W => run_make (P := Tryz.prog) W 23 3 i0 _ Tryz.underlying23 hi hz0 .i64 .i64 ((n : Int) + 8) ((n : Int) + 8) (by omega) (by omega) (by rw [hz2]; omega) (by omega)
  rw [show ((n : Int) + 8).toNat = n + 8 by omega, hz1] at h
  exact ⟨_, by rw [size_madeCells, Nat.mul_one], h⟩
def beyond : List UInt8 := [98, 101, 121, 111, 110, 100]
theorem scells_length (l : List (List UInt8)) : (scells l).length = l.length := by simp [scells]
theorem icells_length (l : List Int) : (icells l).length = l.length := by simp [icells]
theorem scells_one (l : List (List UInt8)) : ∀ u ∈ scells l, u.oneCell' = true := by
  intro u h
  obtain ⟨x, _, rfl⟩ := List.mem_map.1 h
  rfl
theorem icells_one (l : List Int) : ∀ u ∈ icells l, u.oneCell' = true := by
  intro u h
  obtain ⟨x, _, rfl⟩ := List.mem_map.1 h
  rfl

set_option maxRecDepth 100000 in
set_option maxHeartbeats 2000000 in
theorem lentP (P : Pol) (T I : Value) (w : World) (hp : PolIs P T I w) (hlt : P.tags.length ≤ 8796093021952) (hln : P.ids.length ≤ 17592186043904) :
    Calls Tryz.prog 11 #[pv T I P.text] w fun e w' => Below w.heap.size w w' ∧ ∃ gt gn ct cn, e = .returned (pv (.slice (some ⟨gt, 0, none⟩) P.tags.length (P.tags.length + 8)) (.slice (some ⟨gn, 0, none⟩) P.ids.length (P.ids.length + 8)) P.text) ∧ w.heap.size ≤ gt ∧ gt < gn
      ∧ w'.heap[gt]? = some (.cells ct 9 (0, 0)) ∧ ct.toList = scells (P.tags ++ List.replicate 8 beyond) ∧ w'.heap[gn]? = some (.cells cn 3 (0, 0)) ∧ cn.toList = icells (P.ids ++ List.replicate 8 (-77)) := by
  obtain ⟨tao, tcap, hTe, _⟩ := id hp.tags
  obtain ⟨nao, ncap, hNe, _⟩ := id hp.ids
  subst hTe hNe
  have hT : Go.Proofs.YteibjmlimcpaoaaGreatDoor.RowIs w (.slice tao P.tags.length tcap) P.tags.length (scells P.tags) := hp.tags
  have hN : Go.Proofs.YteibjmlimcpaoaaGreatDoor.RowIs w (.slice nao P.ids.length ncap) P.ids.length (icells P.ids) := hp.ids
  have HT := Lib.hid hT
  have HN := Lib.hid hN
  clear hT hN hp
  obtain ⟨tx, htx⟩ : ∃ x, P.text = x := ⟨_, rfl⟩
  obtain ⟨lt, hlte⟩ : ∃ x, P.tags = x := ⟨_, rfl⟩
  obtain ⟨ln, hlne⟩ : ∃ x, P.ids = x := ⟨_, rfl⟩
  rw [htx, hlte, hlne]
  rw [hlte] at HT hlt
  rw [hlne] at HN hln
  clear htx hlte hlne
  have w1 := wrapL ((lt.length : Int) + 8) (by omega) (by omega)
  have w2 := wrapL ((ln.length : Int) + 8) (by omega) (by omega)
  obtain ⟨MT, sMT, mkT⟩ := makeS lt.length hlt
  obtain ⟨MN, sMN, mkN⟩ := makeI ln.length hln
  unfold pv
  go_enter Tryz.func11, Tryz.ntmps11
  go_wp2_with fail
  refine upon_copyN _ 22 22 3 9 1 (w.heap.size + 1 + 1 + 1) _ _ MT 9 _ lt.length (scells lt) Tryz.underlying22 sizeS1 (allocAtN _ _ _ (by simp)) (HT.out.on (((((Below.refl _ _).alloc (Nat.le_refl _) _).alloc (by simp) _).alloc (by simp <;> omega) _).alloc (by simp <;> omega) _)) (by rw [scells_length, Nat.mul_one]) (by omega) (by rw [sMT, scells_length]; omega) (scells_one lt) ?_
  intro w3 hg3 ho3 hb3
  have p0 := (ho3 w.heap.size (by omega)).trans (allocOldN (allocOldN (allocOldN (allocAt _ _))))
  have p1 := (ho3 (w.heap.size + 1) (by omega)).trans (allocOldN (allocOldN (allocAtN _ _ _ (by simp))))
  have p2 := (ho3 (w.heap.size + 1 + 1) (by omega)).trans (allocOldN (allocAtN _ _ _ (by simp)))
  have bw3 : Below w.heap.size w w3 := (((((Below.refl _ _).alloc (Nat.le_refl _) _).alloc (by simp) _).alloc (by simp <;> omega) _).alloc (by simp <;> omega) _).trans (hb3.mono (by omega))
  have lMT : (MT.toList.drop (scells lt).length).length = 8 := by rw [List.length_drop, Array.length_toList, sMT, scells_length]; omega
  generalize MT.toList.drop (scells lt).length = ZT at *
  clear ho3 hb3 mkT sMT HT
  obtain ⟨gt, hgt⟩ : ∃ g, w.heap.size + 1 + 1 + 1 = g := ⟨_, rfl⟩
  obtain ⟨px, hpx⟩ : ∃ g, w.heap.size + 1 + 1 = g := ⟨_, rfl⟩
  obtain ⟨pr, hpr⟩ : ∃ g, w.heap.size + 1 = g := ⟨_, rfl⟩
  rw [hgt] at hg3 ⊢
  rw [hpx] at p2 ⊢
  rw [hpr] at p1 ⊢
  have n1 : w.heap.size < pr := by omega
  have n2 : pr < px := by omega
  have n3 : px < gt := by omega
  clear hgt hpx hpr
  have x1 := cellsAt p0 0
  simp only [List.getElem?_toArray, List.getElem?_cons_zero, List.getElem?_cons_succ] at x1
  go_wp2
  go_loopw [5] (fun is wr => ∃ (k : Nat) (cur : Array Value) (rest : List Value), is = .int .i64 ((lt.length + k : Nat) : Int) ∧ k ≤ 8 ∧ Below w.heap.size w wr ∧ wr.heap[w.heap.size]? = some (.cells #[.slice tao lt.length tcap, .slice nao ln.length ncap, .int .i64 tx] 25 (0, 0)) ∧ wr.heap[pr]? = some (.cells #[.slice none 0 0, .slice none 0 0, .int .i64 0] 25 (0, 0)) ∧ wr.heap[px]? = some (.cells #[.slice tao lt.length tcap, .slice nao ln.length ncap, .int .i64 tx] 25 (0, 0)) ∧ wr.heap[gt]? = some (.cells cur 9 (0, 0)) ∧ cur.toList = scells (lt ++ List.replicate k beyond) ++ rest ∧ rest.length = 8 - k) (fun is _ => lt.length + 8 - (intOf is).toNat)
  case atStart => exact ⟨0, _, ZT, rfl, by omega, bw3, p0, p1, p2, hg3, by simp, by omega⟩
  case round =>
    obtain ⟨k, cur, rest, rfl, hk, hbw, q0, q1, q2, qg, hcur, hrest⟩ := hrel
    clear p0 p1 p2 hg3 bw3 x1
    by_cases hklt : k < 8
    · obtain ⟨a, rest, rfl⟩ : ∃ a r, rest = a :: r := by
        match rest, hrest with
        | a :: r, _ => exact ⟨a, r, rfl⟩
        | [], h => simp at h; omega
      have hA : (scells (lt ++ List.replicate k beyond)).length = lt.length + k := by rw [scells_length, List.length_append, List.length_replicate]
      have y0 := cellsAt qg (lt.length + k)
      rw [← Array.getElem?_toList, hcur, List.getElem?_append_right (by omega), hA, Nat.sub_self] at y0
      simp only [List.getElem?_cons_zero, List.getElem?_cons_succ] at y0
      have f0 := frozenAt qg (lt.length + k)
      obtain ⟨cur', e1, e2⟩ := setAll_row gt 9 [.string ⟨#[98, 101, 121, 111, 110, 100]⟩] (lt.length + k) wr cur (scells (lt ++ List.replicate k beyond)) [a] rest qg (by rw [hcur]; simp) hA rfl
      have e3 : scells (lt ++ List.replicate (k + 1) beyond) = scells (lt ++ List.replicate k beyond) ++ [.string ⟨#[98, 101, 121, 111, 110, 100]⟩] := by
        rw [List.replicate_succ', ← List.append_assoc]
        unfold scells
        rw [List.map_append]
        rfl
      have E3 := Lib.hid e3
      have E2 := Lib.hid e2
      have i0 : ((lt.length : Int) + (k : Int)) < (lt.length : Int) + 8 := by omega
      have i1 : (0 : Int) ≤ (lt.length : Int) + (k : Int) := by omega
      have bs : Below w.heap.size w (setAll wr gt (lt.length + k) [.string ⟨#[98, 101, 121, 111, 110, 100]⟩]) := setAll_below (by omega) _ _ _ _ hbw
      have s0 := (setAll_other gt [.string ⟨#[98, 101, 121, 111, 110, 100]⟩] (lt.length + k) wr w.heap.size (by omega)).trans q0
      have s1 := (setAll_other gt [.string ⟨#[98, 101, 121, 111, 110, 100]⟩] (lt.length + k) wr pr (by omega)).trans q1
      have s2 := (setAll_other gt [.string ⟨#[98, 101, 121, 111, 110, 100]⟩] (lt.length + k) wr px (by omega)).trans q2
      clear hA e2 e3 hcur
      simp only [List.length_cons] at hrest
      go_wp2
      refine ⟨⟨k + 1, cur', rest, ?_, by omega, bs, s0, s1, s2, e1, ?_, by omega⟩, by simp [intOf]; omega⟩
      · go_num
      · rw [E2.out, E3.out]
    · obtain rfl : k = 8 := by omega
      have hr0 : rest = [] := List.eq_nil_of_length_eq_zero (by omega)
      subst hr0
      rw [List.append_nil] at hcur
      have HCUR := Lib.hid hcur
      have x9 := cellsAt q0 1
      have x9b := cellsAt (allocOldN (o' := .cells MN 3) q0) 1
      simp only [List.getElem?_toArray, List.getElem?_cons_zero, List.getElem?_cons_succ] at x9 x9b
      have hwr := hbw.size
      have hgl := (Array.getElem?_eq_some_iff.1 qg).1
      clear hcur hrest
      go_wp2_with fail
      refine upon_copyN _ 23 23 3 3 1 wr.heap.size (ln.length + 8) (ln.length + 8) MN 3 _ ln.length (icells ln) Tryz.underlying23 sizeI1 (allocAt _ _) (HN.out.on (hbw.alloc (by omega) _)) (by rw [icells_length, Nat.mul_one]) (by omega) (by rw [sMN, icells_length]; omega) (icells_one ln) ?_
      intro w4 hg4 ho4 hb4
      have r0 := (ho4 w.heap.size (by omega)).trans (allocOldN q0)
      have r1 := (ho4 pr (by omega)).trans (allocOldN q1)
      have r2 := (ho4 px (by omega)).trans (allocOldN q2)
      have rg := (ho4 gt (by omega)).trans (allocOldN qg)
      have bw4 : Below w.heap.size w w4 := (hbw.alloc (by omega) _).trans (hb4.mono (by omega))
      have lMN : (MN.toList.drop (icells ln).length).length = 8 := by rw [List.length_drop, Array.length_toList, sMN, icells_length]; omega
      generalize MN.toList.drop (icells ln).length = ZN at *
      obtain ⟨gn, hgn⟩ : ∃ g, wr.heap.size = g := ⟨_, rfl⟩
      rw [hgn] at hg4 ⊢
      have n4 : gt < gn := by omega
      clear hgn ho4 hb4 mkN sMN HN x9 x9b q0 q1 q2 qg hbw hwr hgl
      have x9 := cellsAt r0 1
      simp only [List.getElem?_toArray, List.getElem?_cons_zero, List.getElem?_cons_succ] at x9
      go_wp2
      go_loopw [7] (fun is wr => ∃ (k : Nat) (curN : Array Value) (rest : List Value), is = .int .i64 ((ln.length + k : Nat) : Int) ∧ k ≤ 8 ∧ Below w.heap.size w wr ∧ wr.heap[w.heap.size]? = some (.cells #[.slice tao lt.length tcap, .slice nao ln.length ncap, .int .i64 tx] 25 (0, 0)) ∧ wr.heap[pr]? = some (.cells #[.slice none 0 0, .slice none 0 0, .int .i64 0] 25 (0, 0)) ∧ wr.heap[px]? = some (.cells #[.slice tao lt.length tcap, .slice nao ln.length ncap, .int .i64 tx] 25 (0, 0)) ∧ wr.heap[gt]? = some (.cells cur 9 (0, 0)) ∧ wr.heap[gn]? = some (.cells curN 3 (0, 0)) ∧ curN.toList = icells (ln ++ List.replicate k (-77)) ++ rest ∧ rest.length = 8 - k) (fun is _ => ln.length + 8 - (intOf is).toNat)
      case atStart => exact ⟨0, _, ZN, rfl, by omega, bw4, r0, r1, r2, rg, hg4, by simp, by omega⟩
      case round =>
        obtain ⟨k, curN, rest, rfl, hk, hbw, q0, q1, q2, qt, qg, hcur, hrest⟩ := hrel
        clear r0 r1 r2 rg hg4 bw4 x9
        by_cases hklt : k < 8
        · obtain ⟨a, rest, rfl⟩ : ∃ a r, rest = a :: r := by
            match rest, hrest with
            | a :: r, _ => exact ⟨a, r, rfl⟩
            | [], h => simp at h; omega
          have hA : (icells (ln ++ List.replicate k (-77))).length = ln.length + k := by rw [icells_length, List.length_append, List.length_replicate]
          have y0 := cellsAt qg (ln.length + k)
          rw [← Array.getElem?_toList, hcur, List.getElem?_append_right (by omega), hA, Nat.sub_self] at y0
          simp only [List.getElem?_cons_zero, List.getElem?_cons_succ] at y0
          have f0 := frozenAt qg (ln.length + k)
          obtain ⟨cur', e1, e2⟩ := setAll_row gn 3 [.int .i64 (-77)] (ln.length + k) wr curN (icells (ln ++ List.replicate k (-77))) [a] rest qg (by rw [hcur]; simp) hA rfl
          have e3 : icells (ln ++ List.replicate (k + 1) (-77)) = icells (ln ++ List.replicate k (-77)) ++ [.int .i64 (-77)] := by
            rw [List.replicate_succ', ← List.append_assoc]
            unfold icells
            rw [List.map_append]
            rfl
          have E3 := Lib.hid e3
          have E2 := Lib.hid e2
          have i0 : ((ln.length : Int) + (k : Int)) < (ln.length : Int) + 8 := by omega
          have i1 : (0 : Int) ≤ (ln.length : Int) + (k : Int) := by omega
          have bs : Below w.heap.size w (setAll wr gn (ln.length + k) [.int .i64 (-77)]) := setAll_below (by omega) _ _ _ _ hbw
          have s0 := (setAll_other gn [.int .i64 (-77)] (ln.length + k) wr w.heap.size (by omega)).trans q0
          have s1 := (setAll_other gn [.int .i64 (-77)] (ln.length + k) wr pr (by omega)).trans q1
          have s2 := (setAll_other gn [.int .i64 (-77)] (ln.length + k) wr px (by omega)).trans q2
          have s3 := (setAll_other gn [.int .i64 (-77)] (ln.length + k) wr gt (by omega)).trans qt
          clear hA e2 e3 hcur
          simp only [List.length_cons] at hrest
          go_wp2
          refine ⟨⟨k + 1, cur', rest, ?_, by omega, bs, s0, s1, s2, s3, e1, ?_, by omega⟩, by simp [intOf]; omega⟩
          · go_num
          · rw [E2.out, E3.out]
        · obtain rfl : k = 8 := by omega
          have hr0 : rest = [] := List.eq_nil_of_length_eq_zero (by omega)
          subst hr0
          rw [List.append_nil] at hcur
          have HCURN := Lib.hid hcur
          clear hcur hrest
          have z1 := cellsAt q0 0
          have z9 := cellsAt q0 1
          have v0 := cellsAt q2 0
          have u0 := cellsAt q1 0
          have v1 := cellsAt q2 1
          have u1 := cellsAt q1 1
          have v2 := cellsAt q2 2
          have u2 := cellsAt q1 2
          simp only [List.getElem?_toArray, List.getElem?_cons_zero, List.getElem?_cons_succ] at z1 z9 v0 u0 v1 u1 v2 u2
          have f1 := frozenAt q2 0
          have f9 := frozenAt q2 1
          have fr0 := frozenAt q1 0
          have fr1 := frozenAt q1 1
          have fr2 := frozenAt q1 2
          have bE : Below w.heap.size w (setAll ((wr.setCell ⟨px, 0, none⟩ (.slice (some ⟨gt, 0, none⟩) lt.length (lt.length + 8))).setCell ⟨px, 1, none⟩ (.slice (some ⟨gn, 0, none⟩) ln.length (ln.length + 8))) pr 0 [.slice (some ⟨gt, 0, none⟩) lt.length (lt.length + 8), .slice (some ⟨gn, 0, none⟩) ln.length (ln.length + 8), .int .i64 tx]) := setAll_below (by omega) _ _ _ _ ((hbw.setCell (p := ⟨px, 0, none⟩) (by show _ ≤ px; omega) _).setCell (p := ⟨px, 1, none⟩) (by show _ ≤ px; omega) _)
          have tE : (setAll ((wr.setCell ⟨px, 0, none⟩ (.slice (some ⟨gt, 0, none⟩) lt.length (lt.length + 8))).setCell ⟨px, 1, none⟩ (.slice (some ⟨gn, 0, none⟩) ln.length (ln.length + 8))) pr 0 [.slice (some ⟨gt, 0, none⟩) lt.length (lt.length + 8), .slice (some ⟨gn, 0, none⟩) ln.length (ln.length + 8), .int .i64 tx]).heap[gt]? = some (.cells cur 9 (0, 0)) := by
            rw [setAll_other pr _ _ _ gt (by omega), Below.heap_setCell _ _ _ _ (show gt ≠ px by omega), Below.heap_setCell _ _ _ _ (show gt ≠ px by omega)]
            exact qt
          have nE : (setAll ((wr.setCell ⟨px, 0, none⟩ (.slice (some ⟨gt, 0, none⟩) lt.length (lt.length + 8))).setCell ⟨px, 1, none⟩ (.slice (some ⟨gn, 0, none⟩) ln.length (ln.length + 8))) pr 0 [.slice (some ⟨gt, 0, none⟩) lt.length (lt.length + 8), .slice (some ⟨gn, 0, none⟩) ln.length (ln.length + 8), .int .i64 tx]).heap[gn]? = some (.cells curN 3 (0, 0)) := by
            rw [setAll_other pr _ _ _ gn (by omega), Below.heap_setCell _ _ _ _ (show gn ≠ px by omega), Below.heap_setCell _ _ _ _ (show gn ≠ px by omega)]
            exact qg
          clear q0 q1 q2 qt qg hbw
          go_wp2
          refine bodyPost_ret (v := .agg #[.slice (some ⟨gt, 0, none⟩) lt.length (lt.length + 8), .slice (some ⟨gn, 0, none⟩) ln.length (ln.length + 8), .int .i64 tx]) (by simp [results, Tryz.results11, go_sem, u0, u1, u2, Nat.ne_of_lt n2, Nat.ne_of_gt n2]) rfl ⟨bE, gt, gn, cur, curN, rfl, by omega, n4, tE, HCUR.out, nE, HCURN.out⟩
end Go.Proofs.YteibjmlimcpaoaaGreatDoor.V

set_option linter.unusedVariables false
set_option linter.unusedSimpArgs false
namespace Go.Proofs.YteibjmlimcpaoaaGreatDoor.V
open Go.RowKit Go.Sort
open Go.Proofs.YteibjmlimcpaoaaGreatDoor.W (PolIs pv strV scells icells RowIs at_below at_alloc new_at below_alloc str_eq grown_below grown_trans grown_at grown_set)

theorem draws_below {B : Nat} {a w : World} (h : Below B a w) : ∀ q, Below B a (w.drewN q)
  | 0 => h
  | q + 1 => (draws_below h q).drew
theorem new_at2 (w : World) (o p : Obj) : ((w.alloc o).alloc p).heap[w.heap.size + 1]? = some p := by
  have := new_at (w.alloc o) p
  simpa using this

set_option maxRecDepth 100000 in
set_option maxHeartbeats 1000000 in
theorem sameSV (va vb : Value) (l : List (List UInt8)) (w : World) (hl : l.length ≤ 9223372036854775806) (ha : RowIs w va l.length (scells l)) (hb : RowIs w vb l.length (scells l)) :
    Calls Tryz.prog 44 #[va, vb] w fun e w' => e = .returned (.bool true) ∧ Below w.heap.size w w' := by
  have HA := Lib.hid ha
  have HB := Lib.hid hb
  obtain ⟨ao, acap, rfl, ha⟩ := ha
  obtain ⟨bo, bcap, rfl, hb⟩ := hb
  clear ha hb
  go_enter Tryz.func44, Tryz.ntmps44
  go_wp2
  go_loopw [5] (fun is wr => ∃ (k : Nat), is = .int .i64 k ∧ k ≤ l.length ∧ Below w.heap.size w wr) (fun is _ => l.length - (intOf is).toNat)
  case atStart => exact ⟨0, rfl, Nat.zero_le _, Below.refl _ _⟩
  case round =>
    obtain ⟨k, rfl, hk, hbw⟩ := hrel
    by_cases hlt : k < l.length
    · obtain ⟨_, _, hao, ha⟩ := HA.out.on hbw
      cases hao
      obtain ⟨g, o, rfl, hca⟩ := ha (by omega)
      obtain ⟨_, _, hao, hb⟩ := HB.out.on hbw
      cases hao
      obtain ⟨g', o', rfl, hcb⟩ := hb (by omega)
      obtain ⟨x, hx⟩ : ∃ x, l[k]? = some x := ⟨_, List.getElem?_eq_getElem hlt⟩
      have t0 : (scells l)[k]? = some (strV x) := by unfold scells; rw [List.getElem?_map, hx]; rfl
      have c0 := hca _ _ t0
      have d0 := hcb _ _ t0
      unfold strV at c0 d0
      generalize ByteArray.mk x.toArray = X at *
      clear ha hb hca hcb t0 hx
      have ik0 : (0 : Int) ≤ (k : Int) := by omega
      have ik1 : (k : Int) < (l.length : Int) := by omega
      go_wp2_with fail
      go_quiet (fail)
      go_wp2
      exact ⟨⟨k + 1, by go_num, by omega, draws_below hbw nq⟩, by simp [intOf]; omega⟩
    · have hge : ¬ ((k : Int) < (l.length : Int)) := by omega
      go_wp2
      go_ret
      exact ⟨rfl, hbw⟩
set_option maxRecDepth 100000 in
set_option maxHeartbeats 1000000 in
theorem sameIV (va vb : Value) (l : List Int) (w : World) (hl : l.length ≤ 9223372036854775806) (ha : RowIs w va l.length (icells l)) (hb : RowIs w vb l.length (icells l)) :
    Calls Tryz.prog 45 #[va, vb] w fun e w' => e = .returned (.bool true) ∧ Below w.heap.size w w' := by
  have HA := Lib.hid ha
  have HB := Lib.hid hb
  obtain ⟨ao, acap, rfl, ha⟩ := ha
  obtain ⟨bo, bcap, rfl, hb⟩ := hb
  clear ha hb
  go_enter Tryz.func45, Tryz.ntmps45
  go_wp2
  go_loopw [5] (fun is wr => ∃ (k : Nat), is = .int .i64 k ∧ k ≤ l.length ∧ Below w.heap.size w wr) (fun is _ => l.length - (intOf is).toNat)
  case atStart => exact ⟨0, rfl, Nat.zero_le _, Below.refl _ _⟩
  case round =>
    obtain ⟨k, rfl, hk, hbw⟩ := hrel
    by_cases hlt : k < l.length
    · obtain ⟨_, _, hao, ha⟩ := HA.out.on hbw
      cases hao
      obtain ⟨g, o, rfl, hca⟩ := ha (by omega)
      obtain ⟨_, _, hao, hb⟩ := HB.out.on hbw
      cases hao
      obtain ⟨g', o', rfl, hcb⟩ := hb (by omega)
      obtain ⟨x, hx⟩ : ∃ x, l[k]? = some x := ⟨_, List.getElem?_eq_getElem hlt⟩
      have t0 : (icells l)[k]? = some (.int .i64 x) := by unfold icells; rw [List.getElem?_map, hx]; rfl
      have c0 := hca _ _ t0
      have d0 := hcb _ _ t0
      clear ha hb hca hcb t0 hx
      have ik0 : (0 : Int) ≤ (k : Int) := by omega
      have ik1 : (k : Int) < (l.length : Int) := by omega
      go_wp2_with fail
      go_quiet (fail)
      go_wp2
      exact ⟨⟨k + 1, by go_num, by omega, draws_below hbw nq⟩, by simp [intOf]; omega⟩
    · have hge : ¬ ((k : Int) < (l.length : Int)) := by omega
      go_wp2
      go_ret
      exact ⟨rfl, hbw⟩

theorem rowOfBlock {w : World} {g : Nat} {ct : Array Value} {T : TypeId} {fz : Nat × Nat} {xs ys : List Value} {n cap : Nat} (h : w.heap[g]? = some (.cells ct T fz)) (hc : ct.toList = xs ++ ys) (hn : xs.length = n) : RowIs w (.slice (some ⟨g, 0, none⟩) n cap) n xs := by
  refine ⟨_, _, rfl, fun _ => ⟨g, 0, rfl, fun j u hj => ?_⟩⟩
  rw [Nat.zero_add, cellsAt h, ← Array.getElem?_toList, hc]
  have hlt : j < xs.length := (List.getElem?_eq_some_iff.1 hj).1
  rw [List.getElem?_append_left hlt]
  exact hj
theorem retB {a b : Bool} (h : a = b) : Ending.returned (.bool a) = .returned (.bool b) := by rw [h]

set_option maxRecDepth 100000 in
set_option maxHeartbeats 4000000 in
theorem keptP (P : Pol) (T I : Value) (w : World) (hp : PolIs P T I w) (hlt : P.tags.length ≤ 8796093021952) (hln : P.ids.length ≤ 17592186043904) (gt gn : Nat) (ct cn : Array Value) (hne : gt < gn)
    (hgt : w.heap[gt]? = some (.cells ct 9 (0, 0))) (hct : ct.toList = scells (P.tags ++ List.replicate 8 beyond)) (hgn : w.heap[gn]? = some (.cells cn 3 (0, 0))) (hcn : cn.toList = icells (P.ids ++ List.replicate 8 (-77))) :
    Calls Tryz.prog 16 #[pv (.slice (some ⟨gt, 0, none⟩) P.tags.length (P.tags.length + 8)) (.slice (some ⟨gn, 0, none⟩) P.ids.length (P.ids.length + 8)) P.text, pv T I P.text] w
      fun e w' => e = .returned (.bool true) ∧ ∃ w1, w.grownBy w1 (some gt) ∧ w1.grownBy w' (some gn) := by
  have lgt : gt < w.heap.size := (Array.getElem?_eq_some_iff.1 hgt).1
  have lgn : gn < w.heap.size := (Array.getElem?_eq_some_iff.1 hgn).1
  obtain ⟨tao, tcap, hTe, _⟩ := id hp.tags
  obtain ⟨nao, ncap, hNe, _⟩ := id hp.ids
  subst hTe hNe
  obtain ⟨tx, htx⟩ : ∃ x, P.text = x := ⟨_, rfl⟩
  obtain ⟨W, hW⟩ : ∃ W, (w.alloc (.cells #[.slice (some ⟨gt, 0, none⟩) P.tags.length (P.tags.length + 8), .slice (some ⟨gn, 0, none⟩) P.ids.length (P.ids.length + 8), .int .i64 tx] 25)).alloc (.cells #[.slice tao P.tags.length tcap, .slice nao P.ids.length ncap, .int .i64 tx] 25) = W := ⟨_, rfl⟩
  have hbW : Below w.heap.size w W := by rw [← hW]; exact (below_alloc _ _).alloc (by simp) _
  have n0 : W.heap[w.heap.size]? = some (.cells #[.slice (some ⟨gt, 0, none⟩) P.tags.length (P.tags.length + 8), .slice (some ⟨gn, 0, none⟩) P.ids.length (P.ids.length + 8), .int .i64 tx] 25 (0, 0)) := by rw [← hW]; exact at_alloc (new_at _ _)
  have n1 : W.heap[w.heap.size + 1]? = some (.cells #[.slice tao P.tags.length tcap, .slice nao P.ids.length ncap, .int .i64 tx] 25 (0, 0)) := by rw [← hW]; exact new_at2 _ _ _
  have r1 : RowIs W (.slice (some ⟨gt, 0, none⟩) P.tags.length (P.tags.length + 8)) P.tags.length (scells P.tags) := rowOfBlock (at_below hgt hbW) (by rw [hct]; unfold scells; rw [List.map_append]) (by simp [scells])
  have r2 : RowIs W (.slice (some ⟨gn, 0, none⟩) P.ids.length (P.ids.length + 8)) P.ids.length (icells P.ids) := rowOfBlock (at_below hgn hbW) (by rw [hcn]; unfold icells; rw [List.map_append]) (by simp [icells])
  have A := Lib.hid (sameSV (.slice (some ⟨gt, 0, none⟩) P.tags.length (P.tags.length + 8)) (.slice tao P.tags.length tcap) P.tags W (by omega) r1 (hp.tags.on hbW))
  have C := Lib.hid (fun (w2 : World) (h : Below W.heap.size W w2) => sameIV (.slice (some ⟨gn, 0, none⟩) P.ids.length (P.ids.length + 8)) (.slice nao P.ids.length ncap) P.ids w2 (by omega) (r2.on h) ((hp.ids.on hbW).on h))
  have y0 := cellsAt n0 0
  have y1 := cellsAt n0 1
  have z0 := cellsAt n1 0
  have z1 := cellsAt n1 1
  simp only [List.getElem?_toArray, List.getElem?_cons_zero, List.getElem?_cons_succ] at y0 y1 z0 z1
  have HH := Lib.hid (And.intro n0 (And.intro n1 (And.intro hbW (And.intro hgt (And.intro hct (And.intro hgn hcn))))))
  have szW : w.heap.size + 2 ≤ W.heap.size := by rw [← hW]; simp
  unfold pv
  rw [htx]
  clear n0 n1 r1 r2 hp hgt hct hgn hcn hbW htx
  obtain ⟨lt, hlte⟩ : ∃ x, P.tags.length = x := ⟨_, rfl⟩
  obtain ⟨ln, hlne⟩ : ∃ x, P.ids.length = x := ⟨_, rfl⟩
  rw [hlte] at y0 z0 A hlt hW ⊢
  rw [hlne] at y1 z1 C hln hW ⊢
  have w1 := wrapL ((lt : Int) + 8) (by omega) (by omega)
  have w2 := wrapL ((ln : Int) + 8) (by omega) (by omega)
  have HLL := Lib.hid (And.intro hlte hlne)
  rw [hlte, hlne] at HH
  clear hlte hlne
  go_enter Tryz.func16, Tryz.ntmps16
  go_wp2_with (go_at_call 44; refine A.out.mono ?_; rintro e wa ⟨rfl, hba⟩; refine Hid.out ?_)
  clear y0 y1 z0 z1 hW
  have m0 := at_below HH.out.1 hba
  have m1 := at_below HH.out.2.1 hba
  have y0 := cellsAt m0 0
  have y1 := cellsAt m0 1
  have z0 := cellsAt m1 0
  have z1 := cellsAt m1 1
  simp only [List.getElem?_toArray, List.getElem?_cons_zero, List.getElem?_cons_succ] at y0 y1 z0 z1
  refine Lib.hid ?_
  go_wp2_with (go_at_call 45; refine (C.out _ hba).mono ?_; rintro e wb ⟨rfl, hbb⟩; refine Hid.out ?_)
  clear y0 y1 z0 z1
  have m2 := at_below m0 hbb
  have m3 := at_below m1 hbb
  have bwb : Below w.heap.size w wb := (HH.out.2.2.1.trans (hba.mono HH.out.2.2.1.size)).trans (hbb.mono (HH.out.2.2.1.trans (hba.mono HH.out.2.2.1.size)).size)
  have qt := at_below HH.out.2.2.2.1 bwb
  have qn := at_below HH.out.2.2.2.2.2.1 bwb
  have HM := Lib.hid (And.intro m2 (And.intro m3 (And.intro qt qn)))
  have y0 := cellsAt m2 0
  simp only [List.getElem?_toArray, List.getElem?_cons_zero, List.getElem?_cons_succ] at y0
  have szb : W.heap.size ≤ wb.heap.size := Nat.le_trans hba.size hbb.size
  clear m0 m1 m2 m3 qt qn A C hba hbb
  refine Lib.hid ?_
  go_wp2
  clear y0
  go_loopw [7, 9] (fun os is wr => ∃ (k : Nat) (cur : Array Value), os = .bool true ∧ is = .int .i64 (k : Int) ∧ k ≤ lt + 8 ∧ wb.grownBy wr (some gt) ∧ wr.heap[gt]? = some (.cells cur 9 (0, 0)) ∧ Hid (cur.size = lt + 8 ∧ ∀ j, k ≤ j → lt ≤ j → j < lt + 8 → cur[j]? = some (.string ⟨#[98, 101, 121, 111, 110, 100]⟩))) (fun _ is _ => lt + 8 - (intOf is).toNat)
  case atStart =>
    refine ⟨0, ct, rfl, rfl, by omega, World.grownBy.refl _ _, HM.out.2.2.1, Lib.hid ⟨?_, ?_⟩⟩
    · have h := HH.out.2.2.2.2.1
      have : ct.toList.length = lt + 8 := by rw [h, ← HLL.out.1]; simp [scells]
      simpa using this
    · intro j _ hj hj2
      have h := HH.out.2.2.2.2.1
      rw [← Array.getElem?_toList, h]
      unfold scells
      rw [List.map_append, List.getElem?_append_right (by rw [List.length_map, HLL.out.1]; exact hj), List.getElem?_map, List.getElem?_replicate, List.length_map, HLL.out.1, if_pos (by omega)]
      rfl
  case round =>
    obtain ⟨k, cur, rfl, rfl, hk, hg, qc, HC⟩ := hrel
    have b0 := grown_at hg HM.out.1 (by omega)
    have b1 := grown_at hg HM.out.2.1 (by omega)
    have y0 := cellsAt b0 0
    have y1 := cellsAt b0 1
    have z0 := cellsAt b1 0
    have z1 := cellsAt b1 1
    simp only [List.getElem?_toArray, List.getElem?_cons_zero, List.getElem?_cons_succ] at y0 y1 z0 z1
    by_cases hk1 : k < lt + 8
    · have ik : (k : Int) < (lt : Int) + 8 := by omega
      have ik0 : (0 : Int) ≤ (k : Int) := by omega
      have hsz := HC.out.1
      obtain ⟨u, hu⟩ : ∃ u, cur[k]? = some u := ⟨_, Array.getElem?_eq_getElem (by omega)⟩
      have c0 := cellsAt qc k
      rw [hu] at c0
      have f0 := frozenAt qc k
      have e1 : (wr.setCell ⟨gt, k, none⟩ (.string ⟨#[111, 118, 101, 114]⟩)).heap[gt]? = some (.cells (cur.setIfInBounds k (.string ⟨#[111, 118, 101, 114]⟩)) 9 (0, 0)) := Go.Proofs.YteibjmlimcpaoaaGreatDoor.W.setCell_row qc _
      have g1 := grown_set hg k (.string ⟨#[111, 118, 101, 114]⟩)
      have HC2 : Hid ((cur.setIfInBounds k (.string ⟨#[111, 118, 101, 114]⟩)).size = lt + 8 ∧ ∀ j, k + 1 ≤ j → lt ≤ j → j < lt + 8 → (cur.setIfInBounds k (.string ⟨#[111, 118, 101, 114]⟩))[j]? = some (.string ⟨#[98, 101, 121, 111, 110, 100]⟩)) := by
        refine Lib.hid ⟨by simp [hsz], fun j h1 h2 h3 => ?_⟩
        rw [Array.getElem?_setIfInBounds_ne (by omega)]
        exact HC.out.2 j (by omega) h2 h3
      by_cases hkl : k < lt
      · have d1 : (k : Int) < (lt : Int) := by omega
        clear HC hu qc b0 b1
        go_wp2
        exact ⟨⟨k + 1, _, rfl, by go_num, by omega, g1, e1, HC2⟩, by simp [intOf]; omega⟩
      · have d1 : ¬ (k : Int) < (lt : Int) := by omega
        have hub := HC.out.2 k (Nat.le_refl _) (by omega) hk1
        rw [hu] at hub
        cases hub
        clear HC hu qc b0 b1
        go_wp2
        exact ⟨⟨k + 1, _, rfl, by go_num, by omega, g1, e1, HC2⟩, by simp [intOf]; omega⟩
    · have ik : ¬ (k : Int) < (lt : Int) + 8 := by omega
      obtain ⟨Wm, hWm⟩ : ∃ W, W = wr := ⟨_, rfl⟩
      subst hWm
      have q2 := grown_at hg HM.out.2.2.2 (by omega)
      have HM2 := Lib.hid (And.intro b0 (And.intro b1 (And.intro q2 hg)))
      clear b0 b1 q2 qc HC HM
      go_wp2
      clear y0 y1 z0 z1
      go_loopw [7, 11] (fun os is wr => ∃ (k : Nat) (cur : Array Value), os = .bool true ∧ is = .int .i64 (k : Int) ∧ k ≤ ln + 8 ∧ Wm.grownBy wr (some gn) ∧ wr.heap[gn]? = some (.cells cur 3 (0, 0)) ∧ Hid (cur.size = ln + 8 ∧ ∀ j, k ≤ j → ln ≤ j → j < ln + 8 → cur[j]? = some (.int .i64 (-77)))) (fun _ is _ => ln + 8 - (intOf is).toNat)
      case atStart =>
        refine ⟨0, cn, rfl, rfl, by omega, World.grownBy.refl _ _, HM2.out.2.2.1, Lib.hid ⟨?_, ?_⟩⟩
        · have h := HH.out.2.2.2.2.2.2
          have : cn.toList.length = ln + 8 := by rw [h, ← HLL.out.2]; simp [icells]
          simpa using this
        · intro j _ hj hj2
          have h := HH.out.2.2.2.2.2.2
          rw [← Array.getElem?_toList, h]
          unfold icells
          rw [List.map_append, List.getElem?_append_right (by rw [List.length_map, HLL.out.2]; exact hj), List.getElem?_map, List.getElem?_replicate, List.length_map, HLL.out.2, if_pos (by omega)]
          rfl
      case round =>
        obtain ⟨k, cur, rfl, rfl, hk, hg2, qc, HC⟩ := hrel
        have b0 := grown_at hg2 HM2.out.1 (by omega)
        have b1 := grown_at hg2 HM2.out.2.1 (by omega)
        have y0 := cellsAt b0 0
        have y1 := cellsAt b0 1
        have z0 := cellsAt b1 0
        have z1 := cellsAt b1 1
        simp only [List.getElem?_toArray, List.getElem?_cons_zero, List.getElem?_cons_succ] at y0 y1 z0 z1
        by_cases hk1 : k < ln + 8
        · have ik : (k : Int) < (ln : Int) + 8 := by omega
          have ik0 : (0 : Int) ≤ (k : Int) := by omega
          have hsz := HC.out.1
          obtain ⟨u, hu⟩ : ∃ u, cur[k]? = some u := ⟨_, Array.getElem?_eq_getElem (by omega)⟩
          have c0 := cellsAt qc k
          rw [hu] at c0
          have f0 := frozenAt qc k
          have e1 : (wr.setCell ⟨gn, k, none⟩ (.int .i64 3)).heap[gn]? = some (.cells (cur.setIfInBounds k (.int .i64 3)) 3 (0, 0)) := Go.Proofs.YteibjmlimcpaoaaGreatDoor.W.setCell_row qc _
          have g1 := grown_set hg2 k (.int .i64 3)
          have HC2 : Hid ((cur.setIfInBounds k (.int .i64 3)).size = ln + 8 ∧ ∀ j, k + 1 ≤ j → ln ≤ j → j < ln + 8 → (cur.setIfInBounds k (.int .i64 3))[j]? = some (.int .i64 (-77))) := by
            refine Lib.hid ⟨by simp [hsz], fun j h1 h2 h3 => ?_⟩
            rw [Array.getElem?_setIfInBounds_ne (by omega)]
            exact HC.out.2 j (by omega) h2 h3
          by_cases hkl : k < ln
          · have d1 : (k : Int) < (ln : Int) := by omega
            clear HC hu qc b0 b1
            go_wp2
            exact ⟨⟨k + 1, _, rfl, by go_num, by omega, g1, e1, HC2⟩, by simp [intOf]; omega⟩
          · have d1 : ¬ (k : Int) < (ln : Int) := by omega
            have hub := HC.out.2 k (Nat.le_refl _) (by omega) hk1
            rw [hu] at hub
            cases hub
            clear HC hu qc b0 b1
            go_wp2
            exact ⟨⟨k + 1, _, rfl, by go_num, by omega, g1, e1, HC2⟩, by simp [intOf]; omega⟩
        · have ik : ¬ (k : Int) < (ln : Int) + 8 := by omega
          go_wp2
          go_ret
          exact ⟨rfl, Wm, grown_trans (grown_below (some gt) bwb) HM2.out.2.2.2, hg2⟩
end Go.Proofs.YteibjmlimcpaoaaGreatDoor.V
