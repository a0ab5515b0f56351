/-
  What visorref.Text answers on platform 3 with the encoding 10, for every string of an even number of at most 1048576 bytes and every limit; nothing that lay in memory turns.
-/
import Derived.Test.YteibjmlimcpaoaaDoorRefd
set_option linter.unusedVariables false
namespace Go.Proofs.YteibjmlimcpaoaaDoor.T
open Go.RowKit

set_option maxRecDepth 100000 in
set_option maxHeartbeats 4000000 in
theorem ref6W10 (s : ByteArray) (limit : Int) (w : World) (r : List UInt8 × Bool × Bool × Bool) (hs : s.size ≤ 1048576) (hev : s.size % 2 = 0) (hr : tell limit (letters firstW s.size s.data.toList) [] false false = r) :
    Calls Tryd.prog 10 #[.int .i64 3, .int .i64 10, .string s, .int .i64 limit] w fun e w' => e = .returned (.tuple #[.string ⟨r.1.toArray⟩, .int .i64 (markN r.2.1 r.2.2.1 r.2.2.2), .int .i64 0]) ∧ Below w.heap.size w w' := by
  obtain ⟨L, hL⟩ : ∃ L, letters firstW s.size s.data.toList = L := ⟨_, rfl⟩
  have C := Lib.hid (wide10 s w L hs hev hL)
  have hll : L.length ≤ 1048576 := by rw [← hL]; exact Nat.le_trans (letters_length firstW s.size _) hs
  have hok : ∀ x ∈ L, okC x.1 := by rw [← hL]; exact letters_all firstW okC okW _ _
  rw [hL] at hr
  have HR := Lib.hid hr
  have HOK := Lib.hid hok
  clear hr hL hok
  have hev2 : (s.size : Int) % 2 = 0 := by omega
  go_enter Tryd.func10, Tryd.ntmps10
  go_wp2_with (go_at_call 29; refine C.out.mono ?_; rintro e w1 ⟨v, rfl, hown0, hbw0⟩)
  go_loopw [14, 15, 16] (fun ss ms is wr => ∃ (k : Nat) (acc : List UInt8) (b h : Bool), ss = .string ⟨acc.toArray⟩ ∧ ms = .int .i64 (markN b h false) ∧ is = .int .i64 k ∧ k ≤ L.length ∧ wr.ownsRow w.heap.size 74 2 v L.length (flat L) ∧ Below w.heap.size w wr ∧ acc.length ≤ 6 * k ∧ Hid (tell limit (L.drop k) acc b h = r)) (fun _ _ is _ => L.length - (intOf is).toNat)
  case atStart => exact ⟨0, [], false, false, rfl, rfl, rfl, Nat.zero_le _, hown0, hbw0, Nat.zero_le _, HR⟩
  case round =>
    obtain ⟨k, acc, b, h, rfl, rfl, rfl, hk, hown, hbw, hal, H⟩ := hrel
    clear hown0 hbw0
    by_cases hlt : k < L.length
    · rcases hown.2 with ⟨_, hz⟩ | ⟨g, cap, cur, rfl, _⟩
      · omega
      obtain ⟨x, hx⟩ : ∃ x, L[k]? = some x := ⟨_, List.getElem?_eq_getElem hlt⟩
      have hokx : okC x.1 := HOK.out x (List.mem_of_getElem? hx)
      obtain ⟨k0, k1⟩ := row_cells hown k x hx
      obtain ⟨c, br⟩ := x
      simp only at hokx k0 k1
      have S12 := Lib.hid (shown12 c wr hokx)
      go_wp2_with (go_at_call 31; refine S12.out.mono ?_; rintro e w2 ⟨rfl, hb2⟩; refine Hid.out ?_)
      have hown2 := ownsRow_on hown hb2
      have hbw2 := hbw.trans (hb2.mono hbw.size)
      obtain ⟨j0, j1⟩ := row_cells hown2 k (c, br) hx
      simp only at j0 j1
      have hl6 := shown_length c
      have hdr : L.drop k = (c, br) :: L.drop (k + 1) := by
        rw [List.drop_eq_getElem_cons hlt]
        congr 1
        exact Option.some.inj ((List.getElem?_eq_getElem hlt).symm.trans hx)
      have h1 := H.out
      rw [hdr] at h1
      have H1 := Lib.hid h1
      obtain ⟨sl, hsl⟩ : ∃ sl, shownL (c : Int) = sl := ⟨_, rfl⟩
      rw [hsl] at hl6
      refine Lib.hid ?_
      rw [hsl]
      clear h1 hdr H S12 k0 k1 hown hbw hb2 hx
      by_cases hfit : limit < (acc.length : Int) + sl.length
      · have h2 := H1.out
        rw [tell_cut limit c br _ acc sl b h hsl hfit] at h2
        have H2 := Lib.hid h2
        have hm4 : markN b h false + 4 = markN b h true := by cases b <;> cases h <;> rfl
        clear h2 H1 hsl
        have hmb : 0 ≤ markN b h false ∧ markN b h false ≤ 3 := by cases b <;> cases h <;> decide
        obtain ⟨hmb0, hmb1⟩ := hmb
        go_wp2
        go_ret3
        refine ⟨?_, hbw2⟩
        rw [← H2.out]
        rfl
      · have h2 := H1.out
        rw [tell_fit limit c br _ acc sl b h hsl hfit] at h2
        have H2 := Lib.hid h2
        have G13 := Lib.hid (fun w => harm13 c w)
        clear h2 H1 hsl
        generalize harmB (c : Int) = hc at *
        cases b <;> cases h <;> cases hc <;> cases br
        all_goals
          have e0 : markN false false false = 0 := rfl
          have e1 : markN true false false = 1 := rfl
          have e2 : markN false true false = 2 := rfl
          have e3 : markN true true false = 3 := rfl
          go_wp2_with (go_at_call 32; refine (G13.out _).mono ?_; rintro e w4 ⟨rfl, rfl⟩)
          refine ⟨⟨k + 1, acc ++ sl, _, _, ?_, ?_, by go_num, by omega, hown2, hbw2, ?_, H2⟩, by simp [intOf]; omega⟩
          · rw [ba_append]
            simp
          · rfl
          · rw [List.length_append]
            omega
    · have h2 := H.out
      rw [List.drop_eq_nil_of_le (by omega)] at h2
      have H2 := Lib.hid h2
      clear h2 H
      have hge : ¬ ((k : Int) < (L.length : Int)) := by omega
      rcases hown.2 with ⟨rfl, hz⟩ | ⟨g, cap, cur, rfl, _⟩
      all_goals
        go_wp2
        go_ret3
        refine ⟨?_, hbw⟩
        rw [← H2.out]
        rfl
end Go.Proofs.YteibjmlimcpaoaaDoor.T
