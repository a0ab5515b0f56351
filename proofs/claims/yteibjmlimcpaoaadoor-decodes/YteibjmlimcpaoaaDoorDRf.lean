/-
  What visorref.reader's methods take and number answer, and what they leave of the reader; nothing else that lay in memory turns.
-/
import Derived.Test.YteibjmlimcpaoaaDoorDRefP
import Derived.Test.YteibjmlimcpaoaaDoorDRp
set_option linter.unusedVariables false
set_option linter.unusedSimpArgs false
namespace Go.Proofs.YteibjmlimcpaoaaDoor
open Go.RowKit Go.Sort

/-- the document's reader in the block p: what is left -/
def RrAt (p : Nat) (l : List UInt8) (w : World) : Prop := w.heap[p]? = some (.cells #[.string ⟨l.toArray⟩] 86 (0, 0))

set_option maxRecDepth 100000 in
set_option maxHeartbeats 1000000 in
theorem take36 (p n : Nat) (l : List UInt8) (w : World) (hn : n ≤ 1000) (hl : l.length ≤ 9223372036854775807) (h : RrAt p l w) :
    Calls Tryd.prog 43 #[.pointer (some ⟨p, 0, none⟩), .int .i64 n] w fun e w' => e = .returned (.string ⟨(l.take n).toArray⟩) ∧ RrAt p (l.drop n) w' ∧ w.grownBy w' (some p) := by
  unfold RrAt at *
  have x0 := cellsAt h 0
  have f0 := frozenAt h 0
  simp only [List.getElem?_toArray, List.getElem?_cons_zero, List.getElem?_cons_succ] at x0
  have hz := ba_size l
  obtain ⟨S, hS⟩ : ∃ S : ByteArray, ByteArray.mk l.toArray = S := ⟨_, rfl⟩
  have hr := setCell_row (i := 0) h (.string ⟨(l.drop n).toArray⟩)
  have e1 := ba_take l n
  have e2 := ba_drop l n
  by_cases c : l.length < n
  · have d1 : l.take n = l := List.take_of_length_le (by omega)
    have d2 : l.drop n = [] := List.drop_eq_nil_of_le (by omega)
    have e3 := ba_take l l.length
    have e4 := ba_drop l l.length
    rw [List.take_length] at e3
    rw [List.drop_length] at e4
    rw [d2] at hr
    rw [d1, d2]
    rw [hS] at x0 hz e3 e4 ⊢
    have c' : (S.size : Int) < (n : Int) := by omega
    have c2 : (l.length : Int) < (n : Int) := by omega
    clear h
    go_enter Tryd.func43, Tryd.ntmps43
    go_wp2
    go_ret
    exact ⟨rfl, hr, grown_set (World.grownBy.refl _ _) _ _⟩
  · rw [hS] at x0 hz e1 e2
    have c' : ¬ (S.size : Int) < (n : Int) := by omega
    have c2 : (n : Int) ≤ (S.size : Int) := by omega
    clear h
    go_enter Tryd.func43, Tryd.ntmps43
    go_wp2
    go_ret
    exact ⟨rfl, hr, grown_set (World.grownBy.refl _ _) _ _⟩

theorem grown_drewN {w w1 : World} {r : Option Nat} (h : w.grownBy w1 r) (q : Nat) : w.grownBy (w1.drewN q) r := ⟨h.os, h.tape, h.output, h.size, h.block⟩

set_option maxRecDepth 100000 in
set_option maxHeartbeats 1000000 in
theorem num35 (p n : Nat) (l : List UInt8) (w : World) (hn : n ≤ 4) (hl : l.length ≤ 9223372036854775807) (h : RrAt p l w) :
    Calls Tryd.prog 42 #[.pointer (some ⟨p, 0, none⟩), .int .i64 n] w fun e w' => e = .returned (.int .i64 ((rnum n l).1 : Nat)) ∧ RrAt p (rnum n l).2 w' ∧ w.grownBy w' (some p) := by
  have A := Lib.hid (take36 p n l w (by omega) hl h)
  unfold rnum
  have hlen : (l.take n).length ≤ 4 := by rw [List.length_take]; omega
  simp only
  generalize l.take n = t at *
  generalize l.drop n = l' at *
  clear h hl
  obtain ⟨S, hS⟩ : ∃ S : ByteArray, ByteArray.mk t.toArray = S := ⟨_, rfl⟩
  have hz := ba_size t
  rw [hS] at A hz
  go_enter Tryd.func42, Tryd.ntmps42
  go_wp2_with (go_at_call 43; refine A.out.mono ?_; rintro e w1 ⟨rfl, h1, g1⟩; refine Hid.out ?_)
  clear A
  refine Lib.hid ?_
  go_wp2
  go_loopw [6, 7] (fun ns is wr => ∃ (k acc : Nat), ns = .int .i64 (acc : Int) ∧ is = .int .i64 (k : Int) ∧ k ≤ t.length ∧ RrAt p l' wr ∧ w.grownBy wr (some p) ∧ acc < 256 ^ k ∧ Hid (beGo acc (t.drop k) = beL t)) (fun _ is _ => t.length - (intOf is).toNat)
  case atStart => exact ⟨0, 0, rfl, rfl, Nat.zero_le _, h1, g1, by decide, rfl⟩
  case round =>
    obtain ⟨k, acc, rfl, rfl, hk, h1, g1, hacc, H⟩ := hrel
    have hp : (256 : Nat) ^ k ≤ 256 ^ 4 := Nat.pow_le_pow_right (by decide) (by omega)
    have hp4 : (256 : Nat) ^ 4 = 4294967296 := by decide
    have ha : acc < 4294967296 := by omega
    by_cases hlt : k < t.length
    · obtain ⟨a, hx⟩ : ∃ a, t[k]? = some a := ⟨_, List.getElem?_eq_getElem hlt⟩
      have hdr : t.drop k = a :: t.drop (k + 1) := by
        rw [List.drop_eq_getElem_cons hlt]
        congr 1
        exact Option.some.inj ((List.getElem?_eq_getElem hlt).symm.trans hx)
      have h2 := H.out
      rw [hdr, beGo] at h2
      have H1 := Lib.hid h2
      have hal := a.toNat_lt
      have hnx : 256 * acc + a.toNat < 256 ^ (k + 1) := by rw [Nat.pow_succ]; omega
      have HNX := Lib.hid hnx
      have hks : k < S.size := by omega
      have hSa : S[k] = a := by
        have hSd : S.data.toList = t := by rw [← hS]
        have := getD_byte S k hks
        rw [hSd, List.getD_eq_getElem?_getD, hx] at this
        exact this.symm
      have ix := fun W => index_at S (k : Int) k rfl hks W
      rw [hSa] at ix
      obtain ⟨y, hy⟩ : ∃ y : Nat, a.toNat = y := ⟨_, rfl⟩
      rw [hy] at ix hal
      have w3 := wrapL (256 * (acc : Int)) (by omega) (by omega)
      have w4 := wrapL (y : Int) (by omega) (by omega)
      have w5 := wrapL (256 * (acc : Int) + (y : Int)) (by omega) (by omega)
      have HY := Lib.hid hy
      have ik0 : (0 : Int) ≤ (k : Int) := by omega
      have ik1 : (k : Int) < (S.size : Int) := by omega
      have ik2 : (k : Int) < (t.length : Int) := by omega
      clear hdr h2 H hx hnx hy hp hp4 hacc hSa
      go_wp2
      refine ⟨⟨k + 1, 256 * acc + a.toNat, ?_, by go_num, by omega, h1, g1, HNX.out, H1⟩, by simp [intOf]; omega⟩
      rw [HY.out]
      congr 1
    · have h2 := H.out
      rw [List.drop_eq_nil_of_le (by omega), beGo] at h2
      have H1 := Lib.hid h2
      have hge : ¬ ((k : Int) < (t.length : Int)) := by omega
      have hge2 : ¬ ((k : Int) < (S.size : Int)) := by omega
      clear h2 H hp hp4 hacc
      go_wp2
      go_ret
      refine ⟨?_, h1, g1⟩
      rw [H1.out]
      rfl
end Go.Proofs.YteibjmlimcpaoaaDoor
