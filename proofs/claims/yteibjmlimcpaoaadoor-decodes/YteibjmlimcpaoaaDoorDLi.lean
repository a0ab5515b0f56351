/-
  What report.list answers for tables and for names: so many of them, read one behind the other, in new memory; what is left of the reader; nothing else that lay in memory turns.
-/
import Derived.Test.YteibjmlimcpaoaaDoorDRe
set_option linter.unusedVariables false
set_option linter.unusedSimpArgs false
namespace Go.Proofs.YteibjmlimcpaoaaDoor
open Go.RowKit Go.Sort

theorem dtab_le (s : St) : (dtab s).2.1.length ≤ s.1.length := by
  unfold dtab
  simp only
  exact Nat.le_trans (dnum_le _ _) (Nat.le_trans (dnum_le _ _) (dtake_le _ _))
theorem dnm_le (s : St) : (dnm s).2.1.length ≤ s.1.length := by
  unfold dnm
  simp only
  exact Nat.le_trans (dtake_le _ _) (Nat.le_trans (dnum_le _ _) (Nat.le_trans (dnum_le _ _) (Nat.le_trans (dnum_le _ _) (Nat.le_trans (dnum_le _ _) (Nat.le_trans (dnum_le _ _) (Nat.le_trans (dnum_le _ _) (dnum_le _ _)))))))
/-- a row that lies in new memory is not an old block -/
theorem own_ne_old' {w : World} {B p e size n : Nat} {v : Value} {xs : List Value} (h : w.ownsRow B e size v n xs) (hp : p < B) : v.ownBlock ≠ some p := by
  intro e
  have := (h.lt p e).1
  omega
theorem own_ne_old {w : World} {B p e size n : Nat} {v : Value} {xs : List Value} (h : w.ownsRow B e size v n xs) (hp : p < B) : v.ownBlock = none ∨ v.ownBlock ≠ some p := .inr (own_ne_old' h hp)
theorem grown_row {w w1 w2 : World} {r row : Option Nat} (h : w.grownBy w1 r) (k : w1.grownBy w2 row) (hr : ∀ j, row = some j → w.heap.size ≤ j) : w.grownBy w2 r :=
  ⟨k.os.trans h.os, k.tape.trans h.tape, k.output.trans h.output, Nat.le_trans h.size k.size, fun i hi hn => (k.block i (Nat.lt_of_lt_of_le hi h.size) (fun e => by have := hr i e.symm; omega)).trans (h.block i hi hn)⟩

set_option maxRecDepth 100000 in
set_option maxHeartbeats 2000000 in
theorem rlistT (p n : Nat) (s : St) (w : World) (hn : n ≤ 255) (hl : s.1.length ≤ 9223372036854775807) (h : RdAt p s w) (L : List Tab) (S : St) (hL : (dlist dtab n s).1 = L) (hS : (dlist dtab n s).2 = S) :
    Calls Tryd.prog 88 #[.int .i64 n, .func (.func 89) #[.pointer (some ⟨p, 0, none⟩)] #[]] w fun e w' => ∃ v, e = .returned v ∧ w'.ownsRow w.heap.size 77 3 v n (tcells L) ∧ RdAt p S w' ∧ w.grownBy w' (some p) := by
  obtain ⟨i0, hi, hz0, hz1, hz2⟩ := info_parts infoT
  have hplt := rd_lt h
  go_enter Tryd.func88, Tryd.ntmps88
  go_wp2
  go_loopw [5, 7] (fun os is wr => ∃ (k : Nat) (st : St) (acc : List Tab), is = .int .i64 (k : Int) ∧ k ≤ n ∧ acc.length = k ∧ st.1.length ≤ 9223372036854775807 ∧ RdAt p st wr ∧ w.grownBy wr (some p) ∧ wr.ownsRow w.heap.size 77 3 os k (tcells acc) ∧ Hid (acc ++ (dlist dtab (n - k) st).1 = L) ∧ Hid ((dlist dtab (n - k) st).2 = S)) (fun _ is _ => n - (intOf is).toNat)
  case atStart => exact ⟨0, s, [], rfl, Nat.zero_le _, rfl, hl, h, World.grownBy.refl _ _, World.ownsRow_nil _ _ _ _, by show _ = _; simpa using hL, by show _ = _; simpa using hS⟩
  case round =>
    obtain ⟨k, st, acc, rfl, hk, hacc, hst, hr, hg, hown, H1, H2⟩ := hrel
    clear hL hS h
    by_cases hklt : k < n
    · obtain ⟨m, hm⟩ : ∃ m, n - k = m + 1 := ⟨n - k - 1, by omega⟩
      have h1 := H1.out
      have h2 := H2.out
      rw [hm, dlist] at h1 h2
      simp only at h1 h2
      have hm' : n - (k + 1) = m := by omega
      rw [← hm'] at h1 h2
      have A := Lib.hid (rtable p st wr hst hr)
      have hle : (dtab st).2.1.length ≤ st.1.length := dtab_le st
      obtain ⟨x, st', hx⟩ : ∃ x st', dtab st = (x, st') := ⟨_, _, rfl⟩
      rw [hx] at h1 h2 A hle
      obtain ⟨tag, st1, sz⟩ := x
      simp only at h1 h2 A hle
      have K1 : Hid ((acc ++ [⟨tag, st1, sz⟩]) ++ (dlist dtab (n - (k + 1)) st').1 = L) := by show _ = _; rw [← h1]; simp
      have K2 := Lib.hid h2
      clear hx h1 h2 H1 H2 hm hm' m
      have ik1 : (k : Int) < (n : Int) := by omega
      go_wp2_with (go_at_call 89; refine A.out.mono ?_; rintro e w1 ⟨rfl, r1, g1⟩; refine Hid.out ?_)
      have own1 : w1.ownsRow w.heap.size 77 3 _ k (tcells acc) := hown.kept g1 (own_ne_old hown hplt)
      have hg1 := grown_trans hg g1
      clear hr hown A hg
      refine Lib.hid ?_
      go_wp2_with (at_builtin; refine wpList_append_own _ rfl _ _ 28 rfl w.heap.size 77 i0 (.agg #[.string ⟨#[]⟩, .int .i64 0, .int .i64 0]) 3 32 Tryd.underlying28 hi hz0 hz1 hz2 rfl (by decide) _ _ _ rfl (own1.alloc _) ⟨w1.heap.size, 0, none⟩ 1 1 (tcells [⟨tag, st1, sz⟩]) rfl rfl (newCells _ _ _) (tcells_one _) (by unfold maxLen; omega) (by omega) (by have := hg1.size; simp; omega) ?_; intro v' w3 hown' hgrow3 hnil3; refine Hid.out ?_)
      have own3 : w3.ownsRow w.heap.size 77 3 v' (k + 1) (tcells (acc ++ [⟨tag, st1, sz⟩])) := by
        rw [tcells_append]
        exact hown'
      have r3 : RdAt p st' w3 := (hgrow3.block p (by have := hg1.size; simp; omega) (fun e => own_ne_old' own1 hplt e.symm)).trans (allocOldN r1)
      have g3 : w.grownBy w3 (some p) := grown_row (grown_trans hg1 (World.grownBy_alloc _ _ _)) hgrow3 (fun j hj => (own1.lt _ hj).1)
      clear hown' hgrow3 hnil3 own1 hg1 r1 g1
      refine Lib.hid ?_
      go_wp2
      refine ⟨⟨k + 1, st', acc ++ [⟨tag, st1, sz⟩], by go_num, by omega, by simp [hacc], by omega, r3, g3, own3, K1, K2⟩, by simp [intOf]; omega⟩
    · have h1 := H1.out
      have h2 := H2.out
      have hkn : k = n := by omega
      subst hkn
      rw [Nat.sub_self, dlist] at h1 h2
      simp only [List.append_nil] at h1 h2
      subst h1 h2
      obtain ⟨ao, n', cap, hv⟩ : ∃ ao n' cap, u5 = .slice ao n' cap := by
        rcases hown.2 with ⟨hv, _⟩ | ⟨g, cap, cur, hv, _⟩
        · exact ⟨_, _, _, hv⟩
        · exact ⟨_, _, _, hv⟩
      subst hv
      clear H1 H2
      go_wp2
      go_ret
      exact ⟨_, rfl, hown, hr, hg⟩

set_option maxRecDepth 100000 in
set_option maxHeartbeats 2000000 in
theorem rlistN (p n : Nat) (s : St) (w : World) (hn : n ≤ 255) (hl : s.1.length ≤ 9223372036854775807) (h : RdAt p s w) (L : List Nm) (S : St) (hL : (dlist dnm n s).1 = L) (hS : (dlist dnm n s).2 = S) :
    Calls Tryd.prog 91 #[.int .i64 n, .func (.func 92) #[.pointer (some ⟨p, 0, none⟩)] #[]] w fun e w' => ∃ v, e = .returned v ∧ w'.ownsRow w.heap.size 79 7 v n (ncells L) ∧ RdAt p S w' ∧ w.grownBy w' (some p) := by
  obtain ⟨i0, hi, hz0, hz1, hz2⟩ := info_parts infoN
  have hplt := rd_lt h
  go_enter Tryd.func91, Tryd.ntmps91
  go_wp2
  go_loopw [5, 7] (fun os is wr => ∃ (k : Nat) (st : St) (acc : List Nm), is = .int .i64 (k : Int) ∧ k ≤ n ∧ acc.length = k ∧ st.1.length ≤ 9223372036854775807 ∧ RdAt p st wr ∧ w.grownBy wr (some p) ∧ wr.ownsRow w.heap.size 79 7 os k (ncells acc) ∧ Hid (acc ++ (dlist dnm (n - k) st).1 = L) ∧ Hid ((dlist dnm (n - k) st).2 = S)) (fun _ is _ => n - (intOf is).toNat)
  case atStart => exact ⟨0, s, [], rfl, Nat.zero_le _, rfl, hl, h, World.grownBy.refl _ _, World.ownsRow_nil _ _ _ _, by show _ = _; simpa using hL, by show _ = _; simpa using hS⟩
  case round =>
    obtain ⟨k, st, acc, rfl, hk, hacc, hst, hr, hg, hown, H1, H2⟩ := hrel
    clear hL hS h
    by_cases hklt : k < n
    · obtain ⟨m, hm⟩ : ∃ m, n - k = m + 1 := ⟨n - k - 1, by omega⟩
      have h1 := H1.out
      have h2 := H2.out
      rw [hm, dlist] at h1 h2
      simp only at h1 h2
      have hm' : n - (k + 1) = m := by omega
      rw [← hm'] at h1 h2
      have A := Lib.hid (rname p st wr hst hr)
      have hle : (dnm st).2.1.length ≤ st.1.length := dnm_le st
      obtain ⟨x, st', hx⟩ : ∃ x st', dnm st = (x, st') := ⟨_, _, rfl⟩
      rw [hx] at h1 h2 A hle
      obtain ⟨pl, en, la, id, st1, ms, tx⟩ := x
      simp only at h1 h2 A hle
      have K1 : Hid ((acc ++ [⟨pl, en, la, id, st1, ms, tx⟩]) ++ (dlist dnm (n - (k + 1)) st').1 = L) := by show _ = _; rw [← h1]; simp
      have K2 := Lib.hid h2
      clear hx h1 h2 H1 H2 hm hm' m
      have ik1 : (k : Int) < (n : Int) := by omega
      go_wp2_with (go_at_call 92; refine A.out.mono ?_; rintro e w1 ⟨rfl, r1, g1⟩; refine Hid.out ?_)
      have own1 : w1.ownsRow w.heap.size 79 7 _ k (ncells acc) := hown.kept g1 (own_ne_old hown hplt)
      have hg1 := grown_trans hg g1
      clear hr hown A hg
      refine Lib.hid ?_
      go_wp2_with (at_builtin; refine wpList_append_own _ rfl _ _ 33 rfl w.heap.size 79 i0 (.agg #[.int .i64 0, .int .i64 0, .int .i64 0, .int .i64 0, .int .i64 0, .int .i64 0, .string ⟨#[]⟩]) 7 64 Tryd.underlying33 hi hz0 hz1 hz2 rfl (by decide) _ _ _ rfl (own1.alloc _) ⟨w1.heap.size, 0, none⟩ 1 1 (ncells [⟨pl, en, la, id, st1, ms, tx⟩]) rfl rfl (newCells _ _ _) (ncells_one _) (by unfold maxLen; omega) (by omega) (by have := hg1.size; simp; omega) ?_; intro v' w3 hown' hgrow3 hnil3; refine Hid.out ?_)
      have own3 : w3.ownsRow w.heap.size 79 7 v' (k + 1) (ncells (acc ++ [⟨pl, en, la, id, st1, ms, tx⟩])) := by
        rw [ncells_append]
        exact hown'
      have r3 : RdAt p st' w3 := (hgrow3.block p (by have := hg1.size; simp; omega) (fun e => own_ne_old' own1 hplt e.symm)).trans (allocOldN r1)
      have g3 : w.grownBy w3 (some p) := grown_row (grown_trans hg1 (World.grownBy_alloc _ _ _)) hgrow3 (fun j hj => (own1.lt _ hj).1)
      clear hown' hgrow3 hnil3 own1 hg1 r1 g1
      refine Lib.hid ?_
      go_wp2
      refine ⟨⟨k + 1, st', acc ++ [⟨pl, en, la, id, st1, ms, tx⟩], by go_num, by omega, by simp [hacc], by omega, r3, g3, own3, K1, K2⟩, by simp [intOf]; omega⟩
    · have h1 := H1.out
      have h2 := H2.out
      have hkn : k = n := by omega
      subst hkn
      rw [Nat.sub_self, dlist] at h1 h2
      simp only [List.append_nil] at h1 h2
      subst h1 h2
      obtain ⟨ao, n', cap, hv⟩ : ∃ ao n' cap, u5 = .slice ao n' cap := by
        rcases hown.2 with ⟨hv, _⟩ | ⟨g, cap, cur, hv, _⟩
        · exact ⟨_, _, _, hv⟩
        · exact ⟨_, _, _, hv⟩
      subst hv
      clear H1 H2
      go_wp2
      go_ret
      exact ⟨_, rfl, hown, hr, hg⟩
end Go.Proofs.YteibjmlimcpaoaaDoor
