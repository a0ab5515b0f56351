/-
  What visorref.Text answers on platform 1, for every string of at most 1048576 bytes and every limit; nothing that lay in memory turns.
-/
import Derived.Test.YteibjmlimcpaoaaDoorRefc
set_option linter.unusedVariables false
namespace Go.Proofs.YteibjmlimcpaoaaDoor.T
open Go.RowKit

theorem letters_length (first : List UInt8 → Nat × Nat × Bool) : ∀ (f : Nat) (l : List UInt8), (letters first f l).length ≤ f
  | 0, l => by simp [letters]
  | f + 1, [] => by simp [letters]
  | f + 1, a :: l => by
    have := letters_length first f ((a :: l).drop (first (a :: l)).2.1)
    simp [letters] at this ⊢
    omega
theorem letters_all (first : List UInt8 → Nat × Nat × Bool) (p : Nat → Prop) (hp : ∀ l, 0 < l.length → p (first l).1) : ∀ (f : Nat) (l : List UInt8), ∀ x ∈ letters first f l, p x.1
  | 0, l => by simp [letters]
  | f + 1, [] => by simp [letters]
  | f + 1, a :: l => by
    intro x hx
    rw [letters] at hx
    rcases List.mem_cons.1 hx with h | h
    · subst h
      exact hp _ (by simp)
    · exact letters_all first p hp f _ x h
theorem okN (l : List UInt8) (h : 0 < l.length) : okC (firstN l).1 := (firstN_facts l h).1
theorem okW (l : List UInt8) (h : 0 < l.length) : okC (firstW l).1 := by
  have h0 := pairN_lt l
  unfold firstW okC
  split
  · simp only; omega
  · split
    · simp only; omega
    · decide

theorem flat_get : ∀ (L : List (Nat × Bool)) (k : Nat) (x : Nat × Bool), L[k]? = some x → (flat L)[2 * k]? = some (.int .i64 (x.1 : Int)) ∧ (flat L)[2 * k + 1]? = some (.bool x.2)
  | [], k, x, h => by simp at h
  | y :: L, 0, x, h => by
    simp at h
    subst h
    exact ⟨rfl, rfl⟩
  | y :: L, k + 1, x, h => by
    have := flat_get L k x (by simpa using h)
    exact this

theorem row_cells {w : World} {b g cap n : Nat} {L : List (Nat × Bool)} (hown : w.ownsRow b 74 2 (.slice (some ⟨g, 0, none⟩) n cap) n (flat L)) (k : Nat) (x : Nat × Bool) (hx : L[k]? = some x) :
    w.cell? ⟨g, k * 2, none⟩ = some (.int .i64 (x.1 : Int)) ∧ w.cell? ⟨g, k * 2 + 1, none⟩ = some (.bool x.2) := by
  obtain ⟨h1, h2⟩ := flat_get L k x hx
  have c1 := hown.cells (g := g) rfl _ _ h1
  have c2 := hown.cells (g := g) rfl _ _ h2
  rw [addr_add, Nat.zero_add, Nat.mul_comm] at c1 c2
  exact ⟨c1, c2⟩

set_option maxRecDepth 100000 in
set_option maxHeartbeats 4000000 in
theorem ref6N (s : ByteArray) (limit : Int) (w : World) (r : List UInt8 × Bool × Bool × Bool) (hs : s.size ≤ 1048576) (hr : tell limit (letters firstN s.size s.data.toList) [] false false = r) :
    Calls Tryd.prog 10 #[.int .i64 1, .int .i64 0, .string s, .int .i64 limit] w fun e w' => e = .returned (.tuple #[.string ⟨r.1.toArray⟩, .int .i64 (markN r.2.1 r.2.2.1 r.2.2.2), .int .i64 0]) ∧ Below w.heap.size w w' := by
  obtain ⟨L, hL⟩ : ∃ L, letters firstN s.size s.data.toList = L := ⟨_, rfl⟩
  have C := Lib.hid (narrow11 s w L hs hL)
  have hll : L.length ≤ 1048576 := by rw [← hL]; exact Nat.le_trans (letters_length firstN s.size _) hs
  have hok : ∀ x ∈ L, okC x.1 := by rw [← hL]; exact letters_all firstN okC okN _ _
  rw [hL] at hr
  have HR := Lib.hid hr
  have HOK := Lib.hid hok
  clear hr hL hok
  go_enter Tryd.func10, Tryd.ntmps10
  go_wp2_with (go_at_call 30; refine C.out.mono ?_; rintro e w1 ⟨v, rfl, hown0, hbw0⟩)
  go_loopw [14, 15, 16] (fun ss ms is wr => ∃ (k : Nat) (acc : List UInt8) (b h : Bool), ss = .string ⟨acc.toArray⟩ ∧ ms = .int .i64 (markN b h false) ∧ is = .int .i64 k ∧ k ≤ L.length ∧ wr.ownsRow w.heap.size 74 2 v L.length (flat L) ∧ Below w.heap.size w wr ∧ acc.length ≤ 6 * k ∧ Hid (tell limit (L.drop k) acc b h = r)) (fun _ _ is _ => L.length - (intOf is).toNat)
  case atStart => exact ⟨0, [], false, false, rfl, rfl, rfl, Nat.zero_le _, hown0, hbw0, Nat.zero_le _, HR⟩
  case round =>
    obtain ⟨k, acc, b, h, rfl, rfl, rfl, hk, hown, hbw, hal, H⟩ := hrel
    clear hown0 hbw0
    by_cases hlt : k < L.length
    · rcases hown.2 with ⟨_, hz⟩ | ⟨g, cap, cur, rfl, _⟩
      · omega
      obtain ⟨x, hx⟩ : ∃ x, L[k]? = some x := ⟨_, List.getElem?_eq_getElem hlt⟩
      have hokx : okC x.1 := HOK.out x (List.mem_of_getElem? hx)
      obtain ⟨k0, k1⟩ := row_cells hown k x hx
      obtain ⟨c, br⟩ := x
      simp only at hokx k0 k1
      have S12 := Lib.hid (shown12 c wr hokx)
      go_wp2_with (go_at_call 31; refine S12.out.mono ?_; rintro e w2 ⟨rfl, hb2⟩; refine Hid.out ?_)
      have hown2 := ownsRow_on hown hb2
      have hbw2 := hbw.trans (hb2.mono hbw.size)
      obtain ⟨j0, j1⟩ := row_cells hown2 k (c, br) hx
      simp only at j0 j1
      have hl6 := shown_length c
      have hdr : L.drop k = (c, br) :: L.drop (k + 1) := by
        rw [List.drop_eq_getElem_cons hlt]
        congr 1
        exact Option.some.inj ((List.getElem?_eq_getElem hlt).symm.trans hx)
      have h1 := H.out
      rw [hdr] at h1
      have H1 := Lib.hid h1
      obtain ⟨sl, hsl⟩ : ∃ sl, shownL (c : Int) = sl := ⟨_, rfl⟩
      rw [hsl] at hl6
      refine Lib.hid ?_
      rw [hsl]
      clear h1 hdr H S12 k0 k1 hown hbw hb2 hx
      by_cases hfit : limit < (acc.length : Int) + sl.length
      · have h2 := H1.out
        rw [tell_cut limit c br _ acc sl b h hsl hfit] at h2
        have H2 := Lib.hid h2
        have hm4 : markN b h false + 4 = markN b h true := by cases b <;> cases h <;> rfl
        clear h2 H1 hsl
        have hmb : 0 ≤ markN b h false ∧ markN b h false ≤ 3 := by cases b <;> cases h <;> decide
        obtain ⟨hmb0, hmb1⟩ := hmb
        go_wp2
        go_ret3
        refine ⟨?_, hbw2⟩
        rw [← H2.out]
        rfl
      · have h2 := H1.out
        rw [tell_fit limit c br _ acc sl b h hsl hfit] at h2
        have H2 := Lib.hid h2
        have G13 := Lib.hid (fun w => harm13 c w)
        clear h2 H1 hsl
        generalize harmB (c : Int) = hc at *
        cases b <;> cases h <;> cases hc <;> cases br
        all_goals
          have e0 : markN false false false = 0 := rfl
          have e1 : markN true false false = 1 := rfl
          have e2 : markN false true false = 2 := rfl
          have e3 : markN true true false = 3 := rfl
          go_wp2_with (go_at_call 32; refine (G13.out _).mono ?_; rintro e w4 ⟨rfl, rfl⟩)
          refine ⟨⟨k + 1, acc ++ sl, _, _, ?_, ?_, by go_num, by omega, hown2, hbw2, ?_, H2⟩, by simp [intOf]; omega⟩
          · rw [ba_append]
            simp
          · rfl
          · rw [List.length_append]
            omega
    · have h2 := H.out
      rw [List.drop_eq_nil_of_le (by omega)] at h2
      have H2 := Lib.hid h2
      clear h2 H
      have hge : ¬ ((k : Int) < (L.length : Int)) := by omega
      rcases hown.2 with ⟨rfl, hz⟩ | ⟨g, cap, cur, rfl, _⟩
      all_goals
        go_wp2
        go_ret3
        refine ⟨?_, hbw⟩
        rw [← H2.out]
        rfl
end Go.Proofs.YteibjmlimcpaoaaDoor.T
